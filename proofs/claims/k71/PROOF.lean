import PyProof.Rows.All
import Wide.All
import OpenK.AllK
import Wide.FinOn
import HandS.ForMost
import HandS.AnyAll
import HandS.GenOver
import HandS.Lambda
import HandS.Wide
import HandS.IsInst
import HandS.Deep
import HandS.TupMul
import HandS.Gcd
import HandS.TupAny
import KE.KTupSum
import HandS.Style
import HandS.Zip
import KE.GoesMore
import KE.GoesEnum
import KE.DataMinMax
import HandS.Defaults
import HandS.EndTab
import HandS.HeadWalk
import HandS.Head0
import HandS.Head1
import HandS.Head2
import HandS.HeadHook4
import HandS.Rev
import PyProof.Rows.ListCopyD
import KE.KDictZip
import PyProof.CollectWalk
import PyProof.ListNew
import HandS.ListItems
import HandS.Head3
import PySem.Challenge.RW_damworks_k71_across_spells
set_option Elab.async false
set_option linter.all false
set_option maxRecDepth 100000
set_option maxHeartbeats 4000000
/-! all, any of a generator expression over anything that a for walks, its element any expression that gives a bool. -/
namespace GA
open PySem PySem.Spec PyProof.Rows L2
abbrev St := L2.St

/-! ### the loops of all and any -/
section
variable {prog : Program} {w : World} {A : Around} {R : Result → Shared → Prop} {I : Addr}
theorem all_loop {St : Nat → Shared → Prop} (turn : ∀ m s, St m s → wpAny (model prog w) A.in1 (pyNext (.ref I)) (fun r s' => match r with
      | none => R (.ok (.ret (.bool true))) s'
      | some v => ∃ b, v = .bool b ∧ if b = true then ∃ m', m' < m ∧ St m' s' else R (.ok (.ret (.bool b))) s') (fun _ _ => False) s) :
    ∀ m s, St m s → codeAny (model prog w) A (.builtin "all.loop" ⟨[.ref I], []⟩) R s := by
  intro m
  induction m using Nat.strongRecOn with
  | ind m ih =>
    intro s hst
    refine codeAny_builtin F.entry_all_loop ?_
    rw [Around.under_plainId F.plain_all_loop _]
    show wpAny _ A.in1 (pyNext (.ref I) >>= _) _ _ s
    refine wpAny_bind (wpAny_mono (turn m s hst) (fun r s' hr => ?_) fun _ _ z => False.elim z)
    cases r with
    | none => exact wpAny_bind (wpAny_rule (wpAny_pure hr))
    | some v =>
      obtain ⟨b, rfl, hb⟩ := hr
      refine wpAny_bind (wpAny_holding (wpAny_truthy_bool ?_))
      refine wpAny_bind (wpAny_letGo ?_)
      cases b with
      | true =>
        simp only [if_true] at hb ⊢
        obtain ⟨m', hm, hs⟩ := hb
        exact wpAny_pure ⟨plainId_quiet F.plain_all_loop _, ih m' hm s' hs⟩
      | false =>
        simp only [Bool.false_eq_true, if_false] at hb ⊢
        exact wpAny_bind (wpAny_rule (wpAny_pure hb))
theorem any_loop {St : Nat → Shared → Prop} (turn : ∀ m s, St m s → wpAny (model prog w) A.in1 (pyNext (.ref I)) (fun r s' => match r with
      | none => R (.ok (.ret (.bool false))) s'
      | some v => ∃ b, v = .bool b ∧ if b = false then ∃ m', m' < m ∧ St m' s' else R (.ok (.ret (.bool b))) s') (fun _ _ => False) s) :
    ∀ m s, St m s → codeAny (model prog w) A (.builtin "any.loop" ⟨[.ref I], []⟩) R s := by
  intro m
  induction m using Nat.strongRecOn with
  | ind m ih =>
    intro s hst
    refine codeAny_builtin F.entry_any_loop ?_
    rw [Around.under_plainId F.plain_any_loop _]
    show wpAny _ A.in1 (pyNext (.ref I) >>= _) _ _ s
    refine wpAny_bind (wpAny_mono (turn m s hst) (fun r s' hr => ?_) fun _ _ z => False.elim z)
    cases r with
    | none => exact wpAny_bind (wpAny_rule (wpAny_pure hr))
    | some v =>
      obtain ⟨b, rfl, hb⟩ := hr
      refine wpAny_bind (wpAny_holding (wpAny_truthy_bool ?_))
      refine wpAny_bind (wpAny_letGo ?_)
      cases b with
      | false =>
        simp only [if_true] at hb
        simp only [Bool.false_eq_true, if_false]
        obtain ⟨m', hm, hs⟩ := hb
        exact wpAny_pure ⟨plainId_quiet F.plain_any_loop _, ih m' hm s' hs⟩
      | true =>
        simp only [Bool.true_eq_false, if_false] at hb
        simp only [if_true]
        exact wpAny_bind (wpAny_rule (wpAny_pure hb))
end

/-! ### the generator's context -/
abbrev gCx (X : Cx) (s : Shared) (H : Hp) (cenv : Env) (fp : List Addr) (pn : List (Addr × Obj)) : Cx :=
  { X with A := X.A.in1.in1.deeper cenv, s_0 := s, H_0 := H, env := cenv, outer := X.stack, stack := cenv :: X.stack, ex := fp, fn := fun _ => false, pn := pn, xe := fun _ _ => False }

section
variable {X : Cx} {pins : List (Addr × Obj)} {σ : St} {H : Hp} {s s' : Shared}
theorem inv_rest (I : Inv X pins σ H s) (k : ∀ b u, s.heap.get? b = some u → s'.heap.get? b = some u) (ho : s'.os = s.os) (hb : AllBare s'.gens) : Inv X pins σ H s' := by
  have J := I.step (H' := H) (h' := s'.heap) (g' := s'.gens) (t' := s'.toks) (d' := s'.drawn) (ch := []) (fun b hb => absurd hb (by simp)) (fun b o _ _ _ e _ => k b o e) (fun b o _ _ _ e _ => ⟨o.slots, k b o e⟩)
    (fun _ _ _ _ n => n) (fun b o _ e => ⟨o, k b o e⟩) (fun _ _ q => q) (fun _ _ _ q => q) (fun b ps q => ⟨#[], by rw [q]; simp⟩) (fun m hm => let ⟨o, es, ep, ho, r⟩ := hm; ⟨o, es, ep, k _ o ho, r⟩) (I.hok.kept k) hb
  rw [GxR.sh_eta s s' ho] at J
  exact J
structure Woken (s s' : Shared) : Prop where
  heap : s'.heap = s.heap
  os : s'.os = s.os
  bare : AllBare s'.gens
  size : s.gens.size ≤ s'.gens.size
theorem Woken.inv (W : Woken s s') (I : Inv X pins σ H s) : Inv X pins σ H s' := inv_rest I (fun b u e => by rw [W.heap]; exact e) W.os W.bare
theorem bare_set {G : Array GenState} (h : AllBare G) {g : Nat} {x : GenState} (hx : x.bare = true) : AllBare (G.setIfInBounds g x) := by
  intro y hy
  obtain ⟨i, hi, rfl⟩ := Array.mem_iff_getElem.mp hy
  have hi' : i < G.size := by simpa using hi
  rw [Array.getElem_setIfInBounds hi']
  split
  · exact hx
  · exact h _ (Array.getElem_mem hi')
theorem Woken.set (hb : AllBare s.gens) {g : Nat} {x : GenState} (hx : x.bare = true) : Woken s (s.setGen g x) := ⟨rfl, rfl, bare_set hb hx, by rw [GenW.setGen_size]; exact Nat.le_refl _⟩
end

/-! ### the generator's run -/
section
variable {X : Cx} {s₁ : Shared} {H₁ : Hp} {cenv : Env} {fp : List Addr} {pn : List (Addr × Obj)}
/-- behind a yield -/
def gY (X : Cx) (s₁ : Shared) (H₁ : Hp) (cenv : Env) (fp : List Addr) (pn : List (Addr × Obj)) (ev : Bool) (G0 : Nat) (Qx : Bool → Hp → Prop) : Protocol := fun n s₀ v s kap =>
  ∃ b σ' H', v = .bool b ∧ Inv (gCx X s₁ H₁ cenv fp pn) [] σ' H' s ∧ G0 ≤ s.gens.size ∧ if b = ev then ∀ s'', Woken s s'' → kap (.send .none) s'' else Qx b H'
def gP (X : Cx) (s₁ : Shared) (H₁ : Hp) (cenv : Env) (fp : List Addr) (pn : List (Addr × Obj)) (ev : Bool) (Qx : Bool → Hp → Prop) : Nat → Shared → Shared → Prop := fun _ _ s =>
  ∃ σ' H', Inv (gCx X s₁ H₁ cenv fp pn) [] σ' H' s ∧ Qx ev H'
def gR (X : Cx) (s₁ : Shared) (H₁ : Hp) (cenv : Env) (fp : List Addr) (pn : List (Addr × Obj)) (ev : Bool) (Qx : Bool → Hp → Prop) : GenEnd := fun n s₀ r s => r = .ok .next ∧ gP X s₁ H₁ cenv fp pn ev Qx n s₀ s

theorem seg_loop {elt tg iter : Expr} {scope : Scope} {pos : Pos} {it : Addr} {tn : Nat → Heap → Prop} {J : It} {g : TG} {te : TE} {σ : St} {vs : List Nat} {ev : Bool} {G0 : Nat} {Qx : Bool → Hp → Prop} {W : Nat → Nat → Hp → Prop}
    (hc : X.calm = true) (hco : cenv.scope.isCoroutine = false) (T : Turn X.prog X.w X.K tg J fp it tn) (pg : PG (gCx X s₁ H₁ cenv fp pn) tg g) (pe : PE (gCx X s₁ H₁ cenv fp pn) elt te)
    (hpn : ∀ b ∈ fp, ∀ p ∈ pn, p.1 ≠ b)
    (turn : ∀ i m H, W i m H → (J.stop i H ∧ Qx ev H) ∨ (J.go i H ∧ ∃ Nx : Hp → Prop, (∀ H', Nx H' → ∃ m', m' < m ∧ W (i + 1) m' H') ∧ ∀ x H', J.yld i H x H' → g x (wipe σ vs) H' fun σ2 H3 => wipe σ2 vs = wipe σ vs ∧
      te σ2 H3 fun y H4 => ∃ b, y = .bl b ∧ if b = ev then Nx H4 else Qx b H4)) :
    ∀ (n i m : Nat) (H : Hp) (s₀ s : Shared), m ≤ n → W i m H → Inv (gCx X s₁ H₁ cenv fp pn) [] (wipe σ vs) H s → tn i s.heap → (∀ b ∈ fp, H b = none) → G0 ≤ s.gens.size →
      Seg (model X.prog X.w) X.A.in1.in1 (gR X s₁ H₁ cenv fp pn ev Qx) (gY X s₁ H₁ cenv fp pn ev G0 Qx) (n + 1) s₀
        (.compLoop (.GeneratorExp elt [⟨tg, iter, [], 0⟩] scope pos) 0 (.ref it) .none cenv) ((model X.prog X.w).den (.compLoop (.GeneratorExp elt [⟨tg, iter, [], 0⟩] scope pos) 0 (.ref it) .none cenv)) [] s := by
  have stat : ∀ {σ' : St} {H' : Hp} {s' : Shared}, Inv (gCx X s₁ H₁ cenv fp pn) [] σ' H' s' → (∀ b ∈ fp, H' b = none) → ∀ b ∈ fp, FpOk (gCx X s₁ H₁ cenv fp pn) [] H' b := fun {σ' H' s'} I' hn b hb =>
    ⟨hn b hb, (I'.ok.exf b hb).1, I'.ok.exfs b hb, .inl hb, fun x c e => (I'.ok.exf b hb).2 x c e, fun p hp => by
      rcases List.mem_append.mp hp with hp | hp
      · exact hpn b hb p hp
      · exact absurd hp (by simp)⟩
  intro n
  induction n using Nat.strongRecOn with
  | ind n ih =>
    intro i m H s₀ s hm w I st nfp hG
    show Seg _ X.A.in1.in1 _ _ _ s₀ _ ((compTurn (.GeneratorExp elt [⟨tg, iter, [], 0⟩] scope pos) 0 (.ref it) .none cenv).onRaise (leaving cenv)) [] s
    rw [compTurn_gen, Sem.onRaise_eq_wrap]
    refine seg_bind_wrap (wpAny_standAt ?_)
    rcases turn i m H w with ⟨stop, qq⟩ | ⟨go, Nx, hNx, step⟩
    · have td := T.done (gCx X s₁ H₁ cenv fp pn) rfl rfl rfl hc i [] s _ H (fun _ _ => False) I (stat I nfp) st stop
      refine seg_bind_wrap (thnF td fun r s6 ⟨hr, I6⟩ => ?_)
      subst hr
      exact seg_end (.ok .next) ⟨rfl, _, _, I6, qq⟩
    · have ti := T.item (gCx X s₁ H₁ cenv fp pn) rfl rfl rfl hc i [] s _ H (fun _ _ => False) I (stat I nfp) st go
      refine seg_bind_wrap (thnF (GenW.wpAny_gsz hG (wpAny_mono ti (fun _ _ z hg => (⟨hg, z⟩ : G0 ≤ _ ∧ _)) fun _ _ z _ => z)) fun r s6 ⟨hG6, u, hr, h6⟩ => ?_)
      subst hr
      refine seg_bind_wrap (thnF (GenW.wpAny_gsz hG6 (wpAny_mono h6 (fun _ _ z hg => (⟨hg, z⟩ : G0 ≤ _ ∧ _)) fun _ _ z _ => z)) fun _ s7 ⟨hG7, x, H7, I7, r7, y7, st7, n7⟩ => ?_)
      have I7' := I7.pinned (stat I7 n7) (T.obj _ _ st7)
      refine seg_bind_wrap (thnF (GenW.wpAny_gsz hG7 (wpAny_mono (pg.run _ s7 _ H7 x u _ I7' r7 (step x H7 y7)) (fun _ _ z hg => (⟨hg, z⟩ : G0 ≤ _ ∧ _)) fun _ _ z _ => z)) fun _ s8 ⟨hG8, σ8, H8, I8, hw8, q8⟩ => ?_)
      refine seg_bind_wrap (wpAny_tests_nil ?_)
      simp only [if_true]
      have hy : ∀ v, yieldOut cenv v = yieldValue v := fun v => by simp only [yieldOut, hco, Bool.false_eq_true, if_false]
      simp only [hy]
      rw [Sem.bind_eq_wrap', Sem.bind_eq_wrap', Sem.wrap_wrap, Sem.wrap_wrap]
      refine seg_wrap (thnF (GenW.wpAny_gsz hG8 (wpAny_mono (pe.run _ s8 σ8 H8 _ I8 q8) (fun _ _ z hg => (⟨hg, z⟩ : G0 ≤ _ ∧ _)) fun _ _ z _ => z)) fun z s10 ⟨hG10, yv, H10, I10, r10, b, hb, nx⟩ => ?_)
      subst hb
      obtain rfl : z = Value.bool b := r10
      refine seg_at (seg_yield rfl rfl rfl ⟨b, σ8, H10, rfl, I10.unpinned (pins := []), hG10, ?_⟩)
      by_cases hb : b = ev
      · rw [if_pos hb] at nx ⊢
        intro s'' wk
        obtain ⟨m', hm', w'⟩ := hNx H10 nx
        obtain ⟨n', rfl⟩ : ∃ n', n = n' + 1 := ⟨n - 1, by omega⟩
        have pin' : ∀ b ∈ fp, ∀ o, s7.heap.get? b = some o → s10.heap.get? b = some o ∧ H10 b = none := fun b hb o e =>
          let z := I10.pin (b, o) (List.mem_append_right _ (List.mem_append_right _ (mem_pinsAt hb e)))
          ⟨z.1, z.2.1⟩
        have hl : (wipe σ vs).length = σ8.length := by rw [← hw8, wipe_length]
        have I11 : Inv (gCx X s₁ H₁ cenv fp pn) [] (wipe σ vs) H10 s10 := (I10.unpinned (pins := [])).weak hl fun j v e => by
          rw [← hw8] at e
          exact (wipe_some e).1
        refine seg_again rfl (ih n' (by omega) (i + 1) m' H10 s'' s'' (by omega) w' (wk.inv I11) ?_ (fun b hb => ?_) (Nat.le_trans hG10 wk.size))
        · exact T.keep _ _ _ st7 fun b hb o e => by rw [wk.heap]; exact (pin' b hb o e).1
        · obtain ⟨o, e, _⟩ := T.obj _ _ st7 b hb
          exact (pin' b hb o e).2
      · rw [if_neg hb] at nx ⊢
        exact nx
theorem seg_start {elt tg iter : Expr} {scope : Scope} {pos : Pos} {it : Addr} {tn : Nat → Heap → Prop} {J : It} {R : GenEnd} {Y : Protocol} {n : Nat} {s₀ s : Shared}
    (T : Turn X.prog X.w X.K tg J fp it tn) (st : tn 0 s.heap)
    (loop : Seg (model X.prog X.w) X.A.in1.in1 R Y n s₀ (.compLoop (.GeneratorExp elt [⟨tg, iter, [], 0⟩] scope pos) 0 (.ref it) .none cenv) ((model X.prog X.w).den (.compLoop (.GeneratorExp elt [⟨tg, iter, [], 0⟩] scope pos) 0 (.ref it) .none cenv)) [] s) :
    Seg (model X.prog X.w) X.A.in1.in1 R Y n s₀ (.compStart (.GeneratorExp elt [⟨tg, iter, [], 0⟩] scope pos) 0 (.ref it) .none cenv) ((model X.prog X.w).den (.compStart (.GeneratorExp elt [⟨tg, iter, [], 0⟩] scope pos) 0 (.ref it) .none cenv)) [] s := by
  show Seg _ X.A.in1.in1 _ _ _ s₀ _ ((compStart (.GeneratorExp elt [⟨tg, iter, [], 0⟩] scope pos) 0 (.ref it) .none cenv).onRaise (leaving cenv)) [] s
  unfold compStart
  rw [Sem.onRaise_eq_wrap]
  show Seg _ X.A.in1.in1 _ _ _ s₀ _ ((ask >>= _).wrap _ _ _ _) [] s
  refine seg_bind_wrap (wpAny_askSetting ?_)
  split
  · exact seg_again rfl loop
  · first
      | exact seg_bind_wrap (wpAny_rule (seg_bind_wrap (wpAny_standAt (seg_bind_wrap (T.self _ 0 s _ _ st (seg_again rfl loop))))))
      | (refine seg_bind_wrap (wpAny_rule ?_); show Seg _ X.A.in1.in1 _ _ _ s₀ _ ((standAt iter.pos >>= _).wrap _ _ _ _) [] s; exact seg_bind_wrap (wpAny_standAt (seg_bind_wrap (T.self _ 0 s _ _ st (seg_again rfl loop)))))

/-- between two wakes: m yields at most are to come -/
def Sleeps (X : Cx) (s₁ : Shared) (H₁ : Hp) (cenv : Env) (fp : List Addr) (pn : List (Addr × Obj)) (ev : Bool) (Qx : Bool → Hp → Prop) (a : Addr) (g : Nat) (m : Nat) (s : Shared) : Prop :=
  s.heap.IsGen a g ∧ s.heap.NoLimit ∧ AllBare s.gens ∧ ∃ gs, s.gens[g]? = some gs ∧ ∀ s'', Woken s s'' → gs.Goes (model X.prog X.w) X.A.in1.in1 (gR X s₁ H₁ cenv fp pn ev Qx) (gY X s₁ H₁ cenv fp pn ev (g + 1) Qx) m (.send .none) s''
theorem sleeps_next {ev : Bool} {Qx : Bool → Hp → Prop} {a : Addr} {g m : Nat} {s : Shared} {o : Obj} (hh : X.A.handled = none) (hdp : X.A.depth < recursionLimit) (hpn : pn = [(a, o)]) (hgen : ∀ h : Heap, h.get? a = some o → h.IsGen a g)
    (S : Sleeps X s₁ H₁ cenv fp pn ev Qx a g m s) :
    wpAny (model X.prog X.w) X.A.in1 (pyNext (.ref a)) (fun r s' => match r with
      | none => ∃ σ' H', Inv (gCx X s₁ H₁ cenv fp pn) [] σ' H' s' ∧ Qx ev H'
      | some v => ∃ b, v = .bool b ∧ if b = ev then ∃ m', m' < m ∧ Sleeps X s₁ H₁ cenv fp pn ev Qx a g m' s' else ∃ σ' H', Inv (gCx X s₁ H₁ cenv fp pn) [] σ' H' s' ∧ Qx b H') (fun _ _ => False) s := by
  obtain ⟨hg, hl, hbr, gs, hgs, hgo⟩ := S
  refine wpAny_pyNext_genexpQ (A := X.A.in1) (n := m) (P := gP X s₁ H₁ cenv fp pn ev Qx) (Y := gY X s₁ H₁ cenv fp pn ev (g + 1) Qx) hh hl hdp hg hgs (hgo _ (Woken.set hbr rfl)) (fun v s2 gs' hb hv => ?_) (fun s2 hp h' hk => ?_)
  · obtain ⟨b, σ', H', hv1, I, hsz, hq⟩ := hv
    have wk : Woken s2 (s2.setGen g gs') := Woken.set I.bare hb
    refine ⟨b, hv1, ?_⟩
    by_cases hbe : b = ev
    · rw [if_pos hbe] at hq ⊢
      cases m with
      | zero => exact (hq s2 ⟨rfl, rfl, I.bare, Nat.le_refl _⟩).elim
      | succ k =>
        have I2 := wk.inv I
        refine ⟨k, Nat.lt_succ_self k, hgen _ (I2.pin (a, o) (by rw [show (gCx X s₁ H₁ cenv fp pn).pn = pn from rfl, hpn]; simp)).1, I2.nolimit, I2.bare, gs', ?_, fun s'' w2 => hq s'' ⟨w2.heap.trans wk.heap, w2.os.trans wk.os, w2.bare, Nat.le_trans wk.size w2.size⟩⟩
        have hlt : g < s2.gens.size := hsz
        simp only [Shared.setGen]
        rw [Array.getElem?_setIfInBounds_self]
        simp [hlt]
    · rw [if_neg hbe] at hq ⊢
      exact ⟨σ', H', wk.inv I, hq⟩
  · obtain ⟨σ', H', I, q⟩ := hp
    refine ⟨σ', H', inv_rest I hk rfl (bare_set I.bare rfl), q⟩
end

/-! ### the generator is made -/
section
variable {X : Cx} {pins : List (Addr × Obj)} {σ : St} {H : Hp} {s s' : Shared}
theorem gen_begin {scope : Scope} {own : List (Str × Nat)} {fp : List Addr} {code : Value} {cenv : Env} {a : Addr} {o : Obj} {m : Str → Option Value} (I : Inv X pins σ H s) (ok : BlkOk X.N X.env.scope scope own) (hN : X.N.Nodup) (hcell : ∀ y ∈ scope.names, y.2 ≠ .cell)
    (hfp : ∀ b ∈ fp, FpOk X pins H b ∧ b < s.heap.objs.size) (hce : cenv = genEnv scope (cloFrom X.env.cells scope.names []) s.heap.objs.size code builtinsNs X.env)
    (kp : ∀ b o, s.heap.get? b = some o → s'.heap.get? b = some o) (ho : s'.os = s.os) (hb : AllBare s'.gens) (hns : s'.heap.Ns s.heap.objs.size m) (ha : s.heap.objs.size < a) (hga : s'.heap.get? a = some o) (hod : ∀ v, o.data ≠ .cell v) :
    Inv (gCx X s H cenv fp [(a, o)]) [] (wipe σ (own.map (·.2))) H s' := by
  have hfree : ∀ y ∈ scope.names, y.2 = .free → ∃ c, X.env.cells.lookup y.1 = some c := fun y hy e => by
    rcases ok.free y hy e with k | k
    · exact I.ok.has _ (.inl k)
    · exact I.ok.has _ (.inr k)
  have hL : cenv.locals = s.heap.objs.size := by rw [hce]; rfl
  have hcl : cenv.cells = cloFrom X.env.cells scope.names [] := by rw [hce]; rfl
  have hsc : cenv.scope = scope := by rw [hce]; rfl
  have cm : ∀ {y c}, cenv.cells.lookup y = some c → X.env.cells.lookup y = some c ∧ c < s.heap.objs.size := fun {y c} e => by
    rw [hcl] at e
    rcases cloFrom_mem (PySem.mem_of_lookup e) with hm | ⟨h1, rfl⟩
    · cases hm
    · obtain ⟨c, hc⟩ := hfree _ h1 rfl
      have hc : X.env.cells.lookup y = some c := hc
      rw [hc]
      obtain ⟨w, z⟩ := I.cell _ _ hc
      exact ⟨rfl, z.lt⟩
  have look : ∀ {y}, scope.names.lookup y = some .free → ∃ c, cenv.cells.lookup y = some c := fun {y} hl => by
    have hy : (y, NameKind.free) ∈ scope.names := PySem.mem_of_lookup hl
    rw [hcl]
    exact mem_lookup (cloFrom_has (cells := X.env.cells) (acc := []) hy)
  have okB : (gCx X s H cenv fp [(a, o)]).Ok := by
    refine ⟨I.ok.mod, by show cenv.scope.kind = _; rw [hsc]; exact ok.kind, by show cenv.globals = _; rw [hce]; exact I.ok.glob, by show cenv.builtins = _; rw [hce]; rfl, by show s.heap.objs.size ≤ cenv.locals; rw [hL]; exact Nat.le_refl _,
      fun y z c e1 e2 => I.ok.inj y z c (cm e1).1 (cm e2).1, fun y hy => ?_, fun y c z _ => absurd (show false = true from z) Bool.false_ne_true, fun h => I.ok.hd h, Around.frames_deeper (A := X.A.in1.in1) I.ok.frames, .inr ⟨rfl, by show cenv.frame = some cenv.locals; rw [hce]; rfl⟩, fun b hb => ⟨?_, fun y c e z => ?_⟩, I.bs, Nat.le_trans I.ok.bsz I.sz, fun b o e hb => ?_, fun b hb z => ?_, I.stack, I.stkFree⟩
    · show ∃ c, cenv.cells.lookup y = some c
      have hy : cenv.scope.names.lookup y = some .cell ∨ cenv.scope.names.lookup y = some .free := hy
      rw [hsc] at hy
      rcases hy with hy | hy
      · exact absurd rfl (hcell _ (PySem.mem_of_lookup hy))
      · exact look hy
    · show b ≠ cenv.locals
      rw [hL]; exact Nat.ne_of_lt (hfp b hb).2
    · have e : cenv.cells.lookup y = some c := e
      exact (hfp b hb).1.2.2.2.2.1 y c (cm e).1 z
    · rcases (hfp b hb).1.2.2.2.1 with z | z
      · exact I.ok.noex b o e z
      · exact absurd (Nat.lt_of_lt_of_le (Heap.lt_size e) (Nat.le_trans I.ok.bsz z)) (Nat.lt_irrefl _)
    · rcases List.mem_cons.mp (I.stkSub b z) with z | z
      · exact (hfp b hb).1.2.1 z
      · exact (hfp b hb).1.2.2.1 z
  have nofr : a ∉ frs X.stack := fun z => by
    rcases List.mem_cons.mp (I.stkSub _ z) with e | e
    · have h1 := I.lt
      rw [← e] at h1
      exact absurd (Nat.lt_trans h1 ha) (Nat.lt_irrefl _)
    · exact I.nofs (Nat.le_of_lt ha) e
  refine ⟨okB, ho, hb, Un.kept kp, ⟨m, ?_, fun i y av e1 e2 e3 => ?_⟩, fun y c e => ?_, ?_, fun y c e => ?_, fun p hp => ?_, I.hok.kept kp, by rw [wipe_length]; exact I.len⟩
  · show Heap.Ns _ cenv.locals _
    rw [hL]
    exact hns
  · obtain ⟨e2, hne⟩ := wipe_some e2
    have e3 : Vis cenv.scope y := e3
    rw [hsc] at e3
    have no : ∀ k, scope.names.lookup y = some k → ¬ (k = .local ∨ k = .cell) := fun k hk hh => by
      rcases ok.own _ (PySem.mem_of_lookup hk) hh with e' | e'
      · obtain ⟨p, hp, hpy⟩ := List.mem_map.mp e'
        have e3 := ok.ix p hp
        have : p.1 = y := hpy
        rw [this] at e3
        exact hne (List.mem_map.mpr ⟨p, hp, nodup_ix hN e3 e1⟩)
      · exact e' (List.mem_of_getElem? e1)
    have hfr : scope.names.lookup y = some .free := by
      rcases e3 with e3 | e3 | e3
      · exact absurd (.inl rfl) (no _ e3)
      · exact absurd (.inr rfl) (no _ e3)
      · exact e3
    obtain ⟨m', hn, hl⟩ := I.loc
    have hvis : Vis X.env.scope y := (ok.free _ (PySem.mem_of_lookup hfr) rfl).elim (fun k => .inr (.inl k)) (fun k => .inr (.inr k))
    obtain ⟨w', r, q⟩ := hl i y av e1 e2 hvis
    obtain ⟨c, h1⟩ := look hfr
    refine ⟨w', r, .inr ⟨.inr (by show cenv.scope.names.lookup y = _; rw [hsc]; exact hfr), c, h1, ?_⟩⟩
    have h2 := (cm h1).1
    rcases q with ⟨k, _⟩ | ⟨_, c', e', z⟩
    · have k : X.env.scope.names.lookup y = some .local := k
      rcases ok.free _ (PySem.mem_of_lookup hfr) rfl with k' | k' <;> rw [show X.env.scope.names.lookup y = _ from k'] at k <;> cases k
    · rw [h2] at e'; cases e'
      exact z.keeps kp
  · have e : cenv.cells.lookup y = some c := e
    obtain ⟨w', z⟩ := I.cell y c (cm e).1
    exact ⟨w', z.keeps kp⟩
  · show H cenv.locals = none
    rw [hL]; exact I.hok.fresh (Nat.le_refl _)
  · have e : cenv.cells.lookup y = some c := e
    exact I.freeC y c (cm e).1
  · have hp : p = (a, o) := by simpa using hp
    subst hp
    exact ⟨hga, I.hok.fresh (Nat.le_of_lt ha), by show a ≠ cenv.locals; rw [hL]; exact Nat.ne_of_gt ha, nofr, hod⟩
end

/-- the generator expression's scope -/
structure GenK (scope : Scope) : Prop where
  co : scope.isCoroutine = false
  cell : ∀ y ∈ scope.names, y.2 ≠ .cell
  dot : scope.names.lookup (".0" : Str) = some NameKind.local
def genKB (scope : Scope) : Bool := !scope.isCoroutine && (scope.names.all fun y => !decide (y.2 = .cell)) && decide (scope.names.lookup (".0" : Str) = some NameKind.local)
theorem genK_by {scope : Scope} (h : genKB scope = true) : GenK scope := by
  unfold genKB at h
  simp only [Bool.and_eq_true, Bool.not_eq_true', List.all_eq_true, decide_eq_true_eq, decide_eq_false_iff_not] at h
  exact ⟨h.1.1, h.1.2, h.2⟩
/-- what is wanted of the turns -/
def GTurn (ev : Bool) (g : TG) (te : TE) (vs : List Nat) (σ : St) (Qx : Bool → Hp → Prop) (J : It) (H2 : Hp) : Prop :=
  ∃ W : Nat → Nat → Hp → Prop, (∃ m, W 0 m H2) ∧ ∀ i m H, W i m H → (J.stop i H ∧ Qx ev H) ∨ (J.go i H ∧ ∃ Nx : Hp → Prop, (∀ H', Nx H' → ∃ m', m' < m ∧ W (i + 1) m' H') ∧ ∀ x H', J.yld i H x H' → g x (wipe σ vs) H' fun σ2 H3 => wipe σ2 vs = wipe σ vs ∧
      te σ2 H3 fun y H4 => ∃ b, y = .bl b ∧ if b = ev then Nx H4 else Qx b H4)
/-- all(elt for tg in iter) (ev: true), any(..) (ev: false); the def's table at P may grow -/
def tGen (ev : Bool) (P : Addr) (wi : TI) (g : TG) (te : TE) (vs : List Nat) : TE := fun σ H Q => wi σ H fun J H1 => GxR.TabG H1 P ∧ ∀ H2, GxR.Tabbed P H1 H2 → GTurn ev g te vs σ (fun b H' => Q (.bl b) H') J H2

section
variable {X : Cx} {pins : List (Addr × Obj)} {σ : St} {H : Hp} {s : Shared}
theorem gen_make {ev : Bool} {c P : Addr} {elt tg iter : Expr} {scope : Scope} {own : List (Str × Nat)} {gpos : Pos} {wi : TI} {g : TG} {te : TE} {k : Nat} {Qx : Bool → Hp → Prop} {Q' : Value → Shared → Prop}
    (hr : Room k X.A) (TB : LamX.TabB X.base X.mg c P) (hcode : X.env.code = .ref c) (hc : X.calm = true) (hN : X.N.Nodup) (hi : PI X tg iter wi) (ok : BlkOk X.N X.env.scope scope own) (gk : GenK scope)
    (hg : ∀ (s : Shared) (H : Hp) (cl : List (Str × Addr)) (C : Addr) (code : Value) (fp : List Addr) (pn : List (Addr × Obj)), PG (gCx X s H (genEnv scope cl C code builtinsNs X.env) fp pn) tg g)
    (he : ∀ (s : Shared) (H : Hp) (cl : List (Str × Addr)) (C : Addr) (code : Value) (fp : List Addr) (pn : List (Addr × Obj)), PE (gCx X s H (genEnv scope cl C code builtinsNs X.env) fp pn) elt te)
    (hs : ∀ v, genFold iter X.env v = pure v) (I : Inv X pins σ H s) (h : wi σ H fun J H1 => GxR.TabG H1 P ∧ ∀ H2, GxR.Tabbed P H1 H2 → GTurn ev g te (own.map (·.2)) σ Qx J H2)
    (hQ : ∀ (a : Addr) (gn m : Nat) (s4 s5 : Shared) (H4 : Hp) (cenv : Env) (fp : List Addr) (o : Obj), Inv X pins σ H4 s4 → (∀ b ∈ fp, FpOk X pins H4 b) → (∀ h : Heap, h.get? a = some o → h.IsGen a gn) →
      Sleeps X s4 H4 cenv fp [(a, o)] ev Qx a gn m s5 → Q' (.ref a) s5) :
    wpAny (model X.prog X.w) X.A (eval (.GeneratorExp elt [⟨tg, iter, [], 0⟩] scope gpos) X.env) Q' X.xe s := by
  have hfree : ∀ y ∈ scope.names, y.2 = .free → ∃ c, X.env.cells.lookup y.1 = some c := fun y hy e => by
    rcases ok.free y hy e with k | k
    · exact I.ok.has _ (.inl k)
    · exact I.ok.has _ (.inr k)
  refine wpAny_GeneratorExp_make gk.co (closure_ok hfree) gk.cell gk.dot ok.kind (by have := hr.dp; omega) ?_ hs
  refine thn (hi.run pins s σ H _ I h) fun xv s1 hx => thn hx fun itv s2 h2 => ?_
  obtain ⟨it, fp, tn, J, H2, e, I2, T, st2, f2, ⟨ps, hP, ht⟩, q2⟩ := h2
  subst e
  have hPs : s2.heap.get? P = some { cls := .none, data := .fields ps } := I2.hok P _ hP
  have cd : PySem.W.CodeHd s2.heap c P := TB.code.keeps I2.bk
  have nP : ∀ b ∈ fp, b ≠ P := fun b hb z => by
    have := (f2 b hb).1
    rw [z, hP] at this
    cases this
  have cont : ∀ (code : Value) (h3 : Heap) (tk : Nat) (ps' : Array Value), Heap.ExtBut P s2.heap h3 → s2.heap.objs.size ≤ h3.objs.size → h3.get? P = some { cls := .none, data := .fields ps' } → (∃ more, ps' = ps ++ more) → TriplesOk ps'.toList →
      wpAny (model X.prog X.w) X.A (builtinsFor X.env.globals X.env.builtins) (fun bi s₄ => ∀ (h' : Heap), (h'.Ns s₄.heap.objs.size fun y => if y = Str.ofString ".0" then some (.ref it) else none) → Heap.SameBut s₄.heap.objs.size (s₄.heap.push { cls := Value.type "frame", data := Data.dict #[] }) h' →
          Q' (Value.ref h'.objs.size) { heap := h'.push { cls := Value.type "generator", data := Data.fields #[Value.int (↑s₄.gens.size) 0, Value.str (Str.ofString "<genexpr>") (s₄.toks + 1), Value.str (X.env.qual ++ Str.ofString "<genexpr>") (s₄.toks + 1 + 1)] }, gens := s₄.gens.push (GenState.fresh (Code.compStart (elt.GeneratorExp [⟨tg, iter, [], 0⟩] scope gpos) 0 (.ref it) Value.none (genEnv scope (cloFrom X.env.cells scope.names []) s₄.heap.objs.size code bi X.env))), drawn := s₄.drawn, toks := s₄.toks + 1 + 1 + 1, os := s₄.os }) X.xe { s2 with heap := h3, toks := tk } := by
    intro code h3 tk ps' hx hsz hP3 hmore ht3
    obtain ⟨bm, ob, e1, e2, e3, e4, e5, e6, e7, e8⟩ := TB.bm
    have keep3 : ∀ b u, b ≠ P → s2.heap.get? b = some u → h3.get? b = some u := fun b u hb e => hx b u hb e
    refine wpAny_builtinsFor (m := X.mg) (by rw [I2.ok.glob]; exact (I2.mod.glob.keeps I2.bk).extBut hx TB.gP) e1 e2 (keep3 _ _ e4 (I2.bk _ _ e5)) e6 e7 e8 ?_
    intro h' hn' hs'
    obtain ⟨more, em⟩ := hmore
    have I4 := GxR.inv_tab (more := more) (h' := h3) (g' := s2.gens) (d' := s2.drawn) (t' := tk) I2 hP keep3 (by rw [← em]; exact hP3) I2.bare
    generalize hH4 : upd H2 P (.tbl (ps ++ more)) = H4 at I4
    have tb : GxR.Tabbed P H2 H4 := by
      rw [← hH4]
      exact ⟨⟨ps ++ more, upd_same, by rw [← em]; exact ht3⟩, fun b hb => upd_ne hb⟩
    obtain ⟨W, ⟨m0, w0⟩, turn⟩ := q2 H4 tb
    have f4 : ∀ b ∈ fp, FpOk X pins H4 b ∧ b < h3.objs.size := fun b hb => by
      obtain ⟨o, eo, _⟩ := T.obj _ _ st2 b hb
      refine ⟨⟨?_, (f2 b hb).2⟩, Nat.lt_of_lt_of_le (Heap.lt_size eo) hsz⟩
      rw [← hH4, upd_ne (nP b hb)]
      exact (f2 b hb).1
    have st3 : tn 0 h3 := T.keep _ _ _ st2 fun b hb o e => keep3 b o (nP b hb) e
    have hC : h'.objs.size = h3.objs.size + 1 := by rw [hs'.1, Heap.size_push]
    have kp' : ∀ b o, h3.get? b = some o → h'.get? b = some o := fun b o e => hs'.extBut b o (Nat.ne_of_lt (Heap.lt_size e)) (Heap.get?_push_of_some _ e)
    generalize hob : ({ cls := Value.type "generator", data := Data.fields #[Value.int (↑s2.gens.size) 0, Value.str (Str.ofString "<genexpr>") (tk + 1), Value.str (X.env.qual ++ Str.ofString "<genexpr>") (tk + 1 + 1)] } : Obj) = og
    have hbg : AllBare (s2.gens.push (GenState.fresh (Code.compStart (elt.GeneratorExp [⟨tg, iter, [], 0⟩] scope gpos) 0 (.ref it) Value.none (genEnv scope (cloFrom X.env.cells scope.names []) h3.objs.size code builtinsNs X.env)))) := AllBare.push I2.bare rfl
    generalize hcenv : genEnv scope (cloFrom X.env.cells scope.names []) h3.objs.size code builtinsNs X.env = cenv at hbg
    have goal := hQ h'.objs.size s2.gens.size (m0 + 1) { s2 with heap := h3, toks := tk }
      { heap := h'.push og, gens := s2.gens.push (GenState.fresh (Code.compStart (elt.GeneratorExp [⟨tg, iter, [], 0⟩] scope gpos) 0 (.ref it) Value.none cenv)), drawn := s2.drawn, toks := tk + 1 + 1 + 1, os := s2.os } H4 cenv fp og I4 (fun b hb => (f4 b hb).1)
      (fun h e => by subst hob; exact ⟨_, _, _, e, rfl, rfl, rfl⟩)
    show Q' (Value.ref h'.objs.size) _
    have hget : (h'.push og).get? h'.objs.size = some og := Heap.get?_push_size _ (by subst hob; rfl)
    have kp5 : ∀ b o, h3.get? b = some o → (h'.push og).get? b = some o := fun b o e => Heap.get?_push_of_some _ (kp' b o e)
    have I5 : Inv (gCx X { s2 with heap := h3, toks := tk } H4 cenv fp [(h'.objs.size, og)]) [] (wipe σ (own.map (·.2))) H4 { heap := h'.push og, gens := s2.gens.push (GenState.fresh (Code.compStart (elt.GeneratorExp [⟨tg, iter, [], 0⟩] scope gpos) 0 (.ref it) Value.none cenv)), drawn := s2.drawn, toks := tk + 1 + 1 + 1, os := s2.os } :=
      gen_begin (code := code) I4 ok hN gk.cell f4 hcenv.symm kp5 rfl hbg (hn'.push _) (by show h3.objs.size < h'.objs.size; omega) hget (fun v z => by subst hob; cases z)
    have hgoal := goal ⟨⟨og, _, _, hget, by subst hob; rfl, by subst hob; rfl, by subst hob; rfl⟩, I5.nolimit, hbg, _, Array.getElem?_push_size .., fun s'' wk => ⟨rfl, ?_⟩⟩
    · exact hgoal
    · have I6 := wk.inv I5
      have st6 : tn 0 s''.heap := by
        rw [wk.heap]
        exact T.keep _ _ _ st3 fun b _ o e => kp5 b o e
      have pg := hg { s2 with heap := h3, toks := tk } H4 (cloFrom X.env.cells scope.names []) h3.objs.size code fp [(h'.objs.size, og)]
      have pe := he { s2 with heap := h3, toks := tk } H4 (cloFrom X.env.cells scope.names []) h3.objs.size code fp [(h'.objs.size, og)]
      rw [hcenv] at pg pe
      refine seg_start T st6 (seg_loop (G0 := s2.gens.size + 1) hc (by rw [← hcenv]; exact gk.co) T pg pe (fun b hb p hp => ?_) turn m0 0 m0 H4 s'' s'' (Nat.le_refl _) w0 I6 st6 (fun b hb => (f4 b hb).1.1) ?_)
      · have hp : p = (h'.objs.size, og) := by simpa using hp
        subst hp
        show h'.objs.size ≠ b
        have h1 : b < h3.objs.size := (f4 b hb).2
        have h2 : h'.objs.size = h3.objs.size + 1 := hC
        exact Nat.ne_of_gt (by rw [h2]; exact Nat.lt_succ_of_lt h1)
      · have := wk.size
        simp only [Array.size_push] at this
        exact this
  refine ⟨I2.nolimit, ?_⟩
  cases hf : codeAmong gpos ps.toList with
  | none =>
    refine wpAny_genexprCodeX hcode (cd.code hPs ht) (cd.tab hPs) hf fun c' h' tk hx hge hlt hco' _ htab' _ => ?_
    obtain ⟨o1, vs, f1, tf, fl, tgg, inF, tx, tt, op, _, _, _, _, _, _, _, _, _, htr, _⟩ := hco'
    exact cont _ h' tk _ hx (Nat.le_trans hge (Nat.le_of_lt hlt)) htab'.2 ⟨_, rfl⟩ htr
  | some cv =>
    refine wpAny_genexprCode_hit hcode (cd.code hPs ht) hf ?_
    exact cont cv s2.heap s2.toks ps (Heap.ExtBut.refl _ _) (Nat.le_refl _) hPs ⟨#[], by simp⟩ ht

theorem back_to {s4 s' : Shared} {H4 H' : Hp} {σ' : St} {cenv : Env} {fp : List Addr} {pn : List (Addr × Obj)} (I4 : Inv X pins σ H4 s4) (f4 : ∀ b ∈ fp, FpOk X pins H4 b) (I : Inv (gCx X s4 H4 cenv fp pn) [] σ' H' s') : Inv X pins σ H' s' :=
  I4.call' (ch := fp) I.os I.base I.hok I.bare fun b hb => ⟨(f4 b hb).2.2.2.1, (f4 b hb).2.1, (f4 b hb).2.2.2.2.1, (f4 b hb).2.2.2.2.2⟩

theorem pe_allG {c P : Addr} {elt tg iter : Expr} {scope : Scope} {own : List (Str × Nat)} {p pos gpos : Pos} {wi : TI} {g : TG} {te : TE} {k : Nat}
    (hr : Room k X.A) (hgl : Gl X "all") (hm : X.mg "all" = none) (hb : bootBuiltins "all" = some (.builtin "all")) (TB : LamX.TabB X.base X.mg c P) (hcode : X.env.code = .ref c) (hc : X.calm = true) (hN : X.N.Nodup) (hi : PI X tg iter wi) (ok : BlkOk X.N X.env.scope scope own) (gk : GenK scope)
    (hg : ∀ (s : Shared) (H : Hp) (cl : List (Str × Addr)) (C : Addr) (code : Value) (fp : List Addr) (pn : List (Addr × Obj)), PG (gCx X s H (genEnv scope cl C code builtinsNs X.env) fp pn) tg g)
    (he : ∀ (s : Shared) (H : Hp) (cl : List (Str × Addr)) (C : Addr) (code : Value) (fp : List Addr) (pn : List (Addr × Obj)), PE (gCx X s H (genEnv scope cl C code builtinsNs X.env) fp pn) elt te)
    (hs : ∀ v, genFold iter X.env v = pure v := by intro _; rfl)
    (hst : starEach [.GeneratorExp elt [⟨tg, iter, [], 0⟩] scope gpos] X.env = (false, eval (.GeneratorExp elt [⟨tg, iter, [], 0⟩] scope gpos) X.env) :: starEach [] X.env := by rfl) :
    PE X (.Call (.Name "all" p) [.GeneratorExp elt [⟨tg, iter, [], 0⟩] scope gpos] [] pos) (tGen true P wi g te (own.map (·.2))) := by
  refine ⟨fun pins s σ H Q I h => ?_⟩
  refine wpAny_Call_Name_kw (ld_blt I hgl hm hb ?_)
  refine PyProof.Rows.callWith_builtin1 ?_ hst (by rfl)
  rw [hst]
  show wpAny _ _ (spliced ((false, eval (.GeneratorExp elt [⟨tg, iter, [], 0⟩] scope gpos) X.env) :: backTo pos (starEach [] X.env))) _ _ s
  refine Calls.spliced_cons (gen_make (ev := true) hr TB hcode hc hN hi ok gk hg he hs I h fun a gn m s4 s5 H4 cenv fp o I4 f4 hgen S => ?_)
  refine Calls.spliced_nil ?_
  refine call_function_tree F.kind_all F.plain_all F.entry_all (F.args_all1 _) ?_
  unfold Builtin.«all»
  refine wpAny_bind (m := oneArg "all" _) (wpAny_pure ?_)
  refine wpAny_bind (wpAny_pyIter_gen S.1 ?_)
  refine wpAny_pure ⟨plainId_quiet F.plain_all_loop _, all_loop (St := Sleeps X s4 H4 cenv fp [(a, o)] true _ a gn) (fun m s S => ?_) m s5 S⟩
  refine wpAny_mono (sleeps_next hr.hd hr.depth rfl hgen S) (fun r s' hr => ?_) fun _ _ z => z
  cases r with
  | none =>
    obtain ⟨σ', H', J, q⟩ := hr
    exact ⟨.bl true, H', back_to I4 f4 J, rfl, q⟩
  | some v =>
    obtain ⟨b, hv, hb⟩ := hr
    refine ⟨b, hv, ?_⟩
    by_cases hbt : b = true
    · rw [if_pos hbt] at hb ⊢
      exact hb
    · rw [if_neg hbt] at hb ⊢
      obtain ⟨σ', H', J, q⟩ := hb
      exact ⟨.bl b, H', back_to I4 f4 J, rfl, q⟩
theorem pe_anyG {c P : Addr} {elt tg iter : Expr} {scope : Scope} {own : List (Str × Nat)} {p pos gpos : Pos} {wi : TI} {g : TG} {te : TE} {k : Nat}
    (hr : Room k X.A) (hgl : Gl X "any") (hm : X.mg "any" = none) (hb : bootBuiltins "any" = some (.builtin "any")) (TB : LamX.TabB X.base X.mg c P) (hcode : X.env.code = .ref c) (hc : X.calm = true) (hN : X.N.Nodup) (hi : PI X tg iter wi) (ok : BlkOk X.N X.env.scope scope own) (gk : GenK scope)
    (hg : ∀ (s : Shared) (H : Hp) (cl : List (Str × Addr)) (C : Addr) (code : Value) (fp : List Addr) (pn : List (Addr × Obj)), PG (gCx X s H (genEnv scope cl C code builtinsNs X.env) fp pn) tg g)
    (he : ∀ (s : Shared) (H : Hp) (cl : List (Str × Addr)) (C : Addr) (code : Value) (fp : List Addr) (pn : List (Addr × Obj)), PE (gCx X s H (genEnv scope cl C code builtinsNs X.env) fp pn) elt te)
    (hs : ∀ v, genFold iter X.env v = pure v := by intro _; rfl)
    (hst : starEach [.GeneratorExp elt [⟨tg, iter, [], 0⟩] scope gpos] X.env = (false, eval (.GeneratorExp elt [⟨tg, iter, [], 0⟩] scope gpos) X.env) :: starEach [] X.env := by rfl) :
    PE X (.Call (.Name "any" p) [.GeneratorExp elt [⟨tg, iter, [], 0⟩] scope gpos] [] pos) (tGen false P wi g te (own.map (·.2))) := by
  refine ⟨fun pins s σ H Q I h => ?_⟩
  refine wpAny_Call_Name_kw (ld_blt I hgl hm hb ?_)
  refine PyProof.Rows.callWith_builtin1 ?_ hst (by rfl)
  rw [hst]
  show wpAny _ _ (spliced ((false, eval (.GeneratorExp elt [⟨tg, iter, [], 0⟩] scope gpos) X.env) :: backTo pos (starEach [] X.env))) _ _ s
  refine Calls.spliced_cons (gen_make (ev := false) hr TB hcode hc hN hi ok gk hg he hs I h fun a gn m s4 s5 H4 cenv fp o I4 f4 hgen S => ?_)
  refine Calls.spliced_nil ?_
  refine call_function_tree F.kind_any F.plain_any F.entry_any (F.args_any1 _) ?_
  unfold Builtin.«any»
  refine wpAny_bind (m := oneArg "any" _) (wpAny_pure ?_)
  refine wpAny_bind (wpAny_pyIter_gen S.1 ?_)
  refine wpAny_pure ⟨plainId_quiet F.plain_any_loop _, any_loop (St := Sleeps X s4 H4 cenv fp [(a, o)] false _ a gn) (fun m s S => ?_) m s5 S⟩
  refine wpAny_mono (sleeps_next hr.hd hr.depth rfl hgen S) (fun r s' hr => ?_) fun _ _ z => z
  cases r with
  | none =>
    obtain ⟨σ', H', J, q⟩ := hr
    exact ⟨.bl false, H', back_to I4 f4 J, rfl, q⟩
  | some v =>
    obtain ⟨b, hv, hb⟩ := hr
    refine ⟨b, hv, ?_⟩
    by_cases hbt : b = false
    · rw [if_pos hbt] at hb ⊢
      exact hb
    · rw [if_neg hbt] at hb ⊢
      obtain ⟨σ', H', J, q⟩ := hb
      exact ⟨.bl b, H', back_to I4 f4 J, rfl, q⟩
end
end GA
set_option Elab.async false
set_option linter.all false
set_option maxRecDepth 100000
set_option maxHeartbeats 4000000
/-! Denotations: an expression means a function from the slots' data to a datum. -/
namespace DN
open PySem PySem.Spec PyProof.Rows L2
abbrev St := L2.St

/-! ### heaps -/
/-- the heap without some addresses -/
def hide (H : Hp) (O : List Addr) : Hp := fun b => if b ∈ O then none else H b
theorem hide_some {H : Hp} {O : List Addr} {b : Addr} {o : HO} (h : hide H O b = some o) : b ∉ O ∧ H b = some o := by
  unfold hide at h
  split at h
  · cases h
  · exact ⟨by assumption, h⟩
theorem hide_of {H : Hp} {O : List Addr} {b : Addr} {o : HO} (n : b ∉ O) (h : H b = some o) : hide H O b = some o := by
  unfold hide
  rw [if_neg n]
  exact h
/-- all stays, tables may grow -/
def Xt (H H' : Hp) : Prop := ∀ b o, H b = some o → H' b = some o ∨ ∃ ps qs, o = .tbl ps ∧ H' b = some (.tbl qs)
theorem Xt.get {H H' : Hp} (x : Xt H H') : ∀ b o, H b = some o → (∀ ps, o ≠ .tbl ps) → H' b = some o := fun b o h n => (x b o h).elim id fun ⟨ps, _, e, _⟩ => absurd e (n ps)
theorem Xt.refl (H : Hp) : Xt H H := fun _ _ h => .inl h
theorem Xt.trans {H H1 H2 : Hp} (a : Xt H H1) (b : Xt H1 H2) : Xt H H2 := fun c o h => by
  rcases a c o h with e | ⟨ps, qs, e, e1⟩
  · exact b c o e
  · rcases b c _ e1 with e2 | ⟨ps', qs', _, e2⟩
    · exact .inr ⟨ps, qs, e, e2⟩
    · exact .inr ⟨ps, qs', e, e2⟩
theorem Xt.upd {H : Hp} {p : Addr} {o : HO} (h : H p = none) : Xt H (upd H p o) := fun b u e => by
  rw [upd_ne (ne_of_none e h)]
  exact .inl e
theorem Xt.there {H H' : Hp} (x : Xt H H') {b : Addr} (h : H' b = none) : H b = none := by
  cases e : H b with
  | none => rfl
  | some o =>
    rcases x b o e with q | ⟨_, _, _, q⟩ <;> rw [h] at q <;> cases q
/-- the tables of code objects: of generator expressions, of the law's lambdas -/
structure TsT where
  gs : List Addr
  ls : List Addr
abbrev lamQ : Str := "law.<locals>.<lambda>"
def Tb (Ts : TsT) (H : Hp) : Prop := (∀ P ∈ Ts.gs, GxR.TabG H P) ∧ (∀ P ∈ Ts.ls, LamX.TabS H P lamQ) ∧ ∀ P ∈ Ts.ls, P ∉ Ts.gs
theorem Tb.upd {Ts : TsT} {H : Hp} {p : Addr} {o : HO} (t : Tb Ts H) (h : ∀ u, H p = some u → (∀ ps, u ≠ .tbl ps) ∧ ∀ c q, u ≠ LamX.CodeO c q) : Tb Ts (upd H p o) := by
  obtain ⟨t1, t2, t3⟩ := t
  refine ⟨fun P hP => ?_, fun P hP => ?_, t3⟩
  · obtain ⟨ps, e, q⟩ := t1 P hP
    refine ⟨ps, ?_, q⟩
    rw [upd_ne (fun z => (h _ (by rw [← z]; exact e)).1 ps rfl)]
    exact e
  · obtain ⟨ps, e, q, r⟩ := t2 P hP
    refine ⟨ps, ?_, q, fun pos cv hc => ?_⟩
    · rw [upd_ne (fun z => (h _ (by rw [← z]; exact e)).1 ps rfl)]
      exact e
    · obtain ⟨c, e1, e2⟩ := r pos cv hc
      refine ⟨c, e1, ?_⟩
      rw [upd_ne (fun z => (h _ (by rw [← z]; exact e2)).2 c lamQ rfl)]
      exact e2
theorem lst_noc {xs : List V} : (∀ ps, HO.lst xs ≠ .tbl ps) ∧ ∀ c q, HO.lst xs ≠ LamX.CodeO c q := ⟨(fun _ z => nomatch z), fun c q (z : HO.lst xs = LamX.CodeO c q) => by unfold LamX.CodeO at z; cases z⟩
theorem Tb.kept {Ts : TsT} {H H' : Hp} (t : Tb Ts H) (k : ∀ b o, H b = some o → H' b = some o) : Tb Ts H' :=
  ⟨fun P hP => let ⟨ps, e, q⟩ := t.1 P hP; ⟨ps, k _ _ e, q⟩, fun P hP => (t.2.1 P hP).ext k, t.2.2⟩
theorem Tb.new {Ts : TsT} {H : Hp} {p : Addr} {o : HO} (t : Tb Ts H) (h : H p = none) : Tb Ts (L2.upd H p o) := t.upd fun u z => by rw [h] at z; cases z
theorem sqL_mono {K : PySem.W.Frag} {H H' : Hp} {a : Addr} {xs : List V} (h : ∀ o, (∀ ps, o ≠ .tbl ps) → H a = some o → H' a = some o) (s : SqL K H a xs) : SqL K H' a xs := by
  rcases s with (e | ⟨o, e⟩) | e
  · exact .inl (.inl (h _ (fun _ z => nomatch z) e))
  · exact .inl (.inr ⟨o, h _ (fun _ z => nomatch z) e⟩)
  · exact .inr e
theorem sqT_mono {K : PySem.W.Frag} {H H' : Hp} {a : Addr} {xs : List V} (h : ∀ o, (∀ ps, o ≠ .tbl ps) → H a = some o → H' a = some o) (s : SqT K H a xs) : SqT K H' a xs := by
  rcases s with (e | ⟨o, e⟩) | e
  · exact .inl (.inl (h _ (fun _ z => nomatch z) e))
  · exact .inl (.inr ⟨o, h _ (fun _ z => nomatch z) e⟩)
  · exact .inr e
mutual
theorem Dp.mono {K : PySem.W.Frag} {H H' : Hp} (x : Xt H H') : ∀ {v : V} {d : PyData}, Dp K H v d → Dp K H' v d
  | _, _, .non => .non
  | _, _, .bl b => .bl b
  | _, _, .int i => .int i
  | _, _, .str s => .str s
  | _, _, .lst s a => .lst (sqL_mono (fun o n e => x.get _ o e n) s) (DpAll.mono x a)
  | _, _, .tup s a => .tup (sqT_mono (fun o n e => x.get _ o e n) s) (DpAll.mono x a)
theorem DpAll.mono {K : PySem.W.Frag} {H H' : Hp} (x : Xt H H') : ∀ {vs : List V} {ds : List PyData}, DpAll K H vs ds → DpAll K H' vs ds
  | _, _, .nil => .nil
  | _, _, .cons h t => .cons (Dp.mono x h) (DpAll.mono x t)
end
theorem hide_mono {H H' : Hp} {O : List Addr} (x : Xt H H') : Xt (hide H O) (hide H' O) := fun b o h => by
  obtain ⟨h1, h2⟩ := hide_some h
  rcases x b o h2 with e | ⟨ps, qs, e, e1⟩
  · exact .inl (hide_of h1 e)
  · exact .inr ⟨ps, qs, e, hide_of h1 e1⟩
theorem hide_sub {H : Hp} {O O' : List Addr} (s : ∀ b ∈ O', b ∈ O) : Xt (hide H O) (hide H O') := fun b o h => by
  obtain ⟨h1, h2⟩ := hide_some h
  exact .inl (hide_of (fun z => h1 (s b z)) h2)
theorem hide_out {H : Hp} {O : List Addr} : Xt (hide H O) H := fun b o h => .inl (hide_some h).2
/-- a hidden address may change -/
theorem hide_upd {H : Hp} {O : List Addr} {a : Addr} {o : HO} (h : a ∈ O) : Xt (hide H O) (hide (upd H a o) O) := fun b u e => by
  obtain ⟨h1, h2⟩ := hide_some e
  exact .inl <| hide_of h1 (by rw [upd_ne (fun z => h1 (by rw [z]; exact h))]; exact h2)
theorem DpAll.len {K : PySem.W.Frag} {H : Hp} : ∀ {vs : List V} {ds : List PyData}, DpAll K H vs ds → vs.length = ds.length
  | _, _, .nil => rfl
  | _, _, .cons _ t => by rw [List.length_cons, List.length_cons, DpAll.len t]
theorem DpAll.get {K : PySem.W.Frag} {H : Hp} : ∀ {vs : List V} {ds : List PyData} {i : Nat} {v : V}, DpAll K H vs ds → vs[i]? = some v → ∃ d, ds[i]? = some d ∧ Dp K H v d
  | _, _, _, _, .nil, e => by simp at e
  | _, _, 0, _, .cons h _, e => by simp at e; subst e; exact ⟨_, rfl, h⟩
  | _, _, i + 1, v, .cons _ t, e => by
    obtain ⟨d, h1, h2⟩ := DpAll.get (i := i) (v := v) t (by simpa using e)
    exact ⟨d, by simpa using h1, h2⟩
theorem DpAll.get' {K : PySem.W.Frag} {H : Hp} : ∀ {vs : List V} {ds : List PyData} {i : Nat} {d : PyData}, DpAll K H vs ds → ds[i]? = some d → ∃ v, vs[i]? = some v ∧ Dp K H v d
  | _, _, _, _, .nil, e => by simp at e
  | _, _, 0, _, .cons h _, e => by simp at e; subst e; exact ⟨_, rfl, h⟩
  | _, _, i + 1, v, .cons _ t, e => by
    obtain ⟨d, h1, h2⟩ := DpAll.get' (i := i) t (by simpa using e)
    exact ⟨d, by simpa using h1, h2⟩
theorem DpAll.app {K : PySem.W.Frag} {H : Hp} : ∀ {vs ws : List V} {ds es : List PyData}, DpAll K H vs ds → DpAll K H ws es → DpAll K H (vs ++ ws) (ds ++ es)
  | _, _, _, _, .nil, s => s
  | _, _, _, _, .cons h t, s => .cons h (DpAll.app t s)
theorem DpAll.drop {K : PySem.W.Frag} {H : Hp} : ∀ {vs : List V} {ds : List PyData} (n : Nat), DpAll K H vs ds → DpAll K H (vs.drop n) (ds.drop n)
  | _, _, 0, r => r
  | _, _, _ + 1, .nil => .nil
  | _, _, n + 1, .cons _ t => DpAll.drop n t
theorem DpAll.take {K : PySem.W.Frag} {H : Hp} : ∀ {vs : List V} {ds : List PyData} (n : Nat), DpAll K H vs ds → DpAll K H (vs.take n) (ds.take n)
  | _, _, 0, _ => .nil
  | _, _, _ + 1, .nil => .nil
  | _, _, n + 1, .cons h t => .cons h (DpAll.take n t)
theorem DpAll.ints {K : PySem.W.Frag} {H : Hp} : ∀ {vs : List V} {ns : List Int}, DpAll K H vs (ns.map .int) → vs = ns.map V.int
  | _, [], .nil => rfl
  | _, n :: ns, .cons h t => by
    cases h
    rw [DpAll.ints t]
    rfl
theorem DpAll.of_ints {K : PySem.W.Frag} {H : Hp} : ∀ (ns : List Int), DpAll K H (ns.map V.int) (ns.map .int)
  | [] => .nil
  | n :: ns => .cons (.int n) (DpAll.of_ints ns)

/-! ### the slots' data -/
inductive Slot where
  | no | dat (d : PyData) | own (ds : List PyData)
abbrev En := List Slot
structure Rep (K : PySem.W.Frag) (Ts : TsT) (He : Hp) (O : List Addr) (σ : St) (H : Hp) (en : En) : Prop where
  len : en.length = σ.length
  dat : ∀ (i : Nat) (d : PyData), en[i]? = some (Slot.dat d) → ∃ v, σ[i]? = some (some v) ∧ Dp K (hide H O) v d
  own : ∀ (i : Nat) (ds : List PyData), en[i]? = some (Slot.own ds) → ∃ a vs, σ[i]? = some (some (V.ref a)) ∧ a ∈ O ∧ He a = none ∧ H a = some (.lst vs) ∧ DpAll K (hide H O) vs ds
  inj : ∀ (i j : Nat) (ds es : List PyData) (a : Addr), en[i]? = some (Slot.own ds) → en[j]? = some (Slot.own es) → σ[i]? = some (some (V.ref a)) → σ[j]? = some (some (V.ref a)) → i = j
  occ : ∀ b ∈ O, H b ≠ none ∧ ∀ ps, H b ≠ some (.tbl ps)
  ext : Xt He H
  tabs : Tb Ts H
section
variable {K : PySem.W.Frag} {Ts : TsT} {He : Hp} {O : List Addr} {σ : St} {H H' : Hp} {en : En}
theorem Rep.go (r : Rep K Ts He O σ H en) (x : Xt H H') (t : Tb Ts H') : Rep K Ts He O σ H' en :=
  ⟨r.len, fun i d e => let ⟨v, a, b⟩ := r.dat i d e; ⟨v, a, Dp.mono (hide_mono x) b⟩,
    fun i ds e => let ⟨a, vs, h1, h2, h3, h4, h5⟩ := r.own i ds e; ⟨a, vs, h1, h2, h3, x.get a _ h4 (fun _ z => nomatch z), DpAll.mono (hide_mono x) h5⟩,
    r.inj, fun b hb => by
      obtain ⟨h1, h2⟩ := r.occ b hb
      cases e : H b with
      | none => exact absurd e h1
      | some o =>
        have q := x.get b o e fun ps z => h2 ps (by rw [e, z])
        rw [q]
        exact ⟨by simp, fun ps z => h2 ps (by rw [e]; exact z)⟩, r.ext.trans x, t⟩
/-- one more hidden address -/
theorem Rep.hid (r : Rep K Ts He O σ H en) {D : Addr} (hD : H D = none) {o : HO} (no : ∀ ps, o ≠ .tbl ps) : Rep K Ts He (D :: O) σ (upd H D o) en := by
  have x : Xt H (upd H D o) := Xt.upd hD
  have nD : ∀ b u, H b = some u → b ≠ D := fun b u e => ne_of_none e hD
  have hx : Xt (hide H O) (hide (upd H D o) (D :: O)) := fun b u e => by
    obtain ⟨h1, h2⟩ := hide_some e
    refine .inl (hide_of (fun z => ?_) (by rw [upd_ne (nD b u h2)]; exact h2))
    rcases List.mem_cons.mp z with z | z
    · exact nD b u h2 z
    · exact h1 z
  refine ⟨r.len, fun i d e => let ⟨v, a, b⟩ := r.dat i d e; ⟨v, a, Dp.mono hx b⟩,
    fun i ds e => let ⟨a, vs, h1, h2, h3, h4, h5⟩ := r.own i ds e; ⟨a, vs, h1, List.mem_cons_of_mem _ h2, h3, x.get a _ h4 (fun _ z => nomatch z), DpAll.mono hx h5⟩,
    r.inj, fun b hb => ?_, r.ext.trans x, r.tabs.new hD⟩
  rcases List.mem_cons.mp hb with z | z
  · subst z
    rw [upd_same]
    exact ⟨by simp, fun ps z => no ps (Option.some.inj z)⟩
  · have hne : b ≠ D := fun e => (r.occ b z).1 (by rw [e]; exact hD)
    rw [upd_ne hne]
    exact r.occ b z
end

/-! ### readings -/
/-- a value -/
def tD (K : PySem.W.Frag) (Ts : TsT) (f : En → Option PyData) : TE := fun σ H Q => ∃ He O en d, Rep K Ts He O σ H en ∧ f en = some d ∧ ∀ v H', Xt H H' → Tb Ts H' → Dp K (hide H' O) v d → Q v H'
/-- a sequence that is read and not kept -/
def DpB (K : PySem.W.Frag) (H : Hp) (O : List Addr) (v : V) (d : PyData) : Prop := Dp K (hide H O) v d ∨ ∃ a vs ds, v = .ref a ∧ d = .list ds ∧ H a = some (.lst vs) ∧ DpAll K (hide H O) vs ds
def tB (K : PySem.W.Frag) (Ts : TsT) (f : En → Option PyData) : TE := fun σ H Q => ∃ He O en d, Rep K Ts He O σ H en ∧ f en = some d ∧ ∀ v H', Xt H H' → Tb Ts H' → DpB K H' O v d → Q v H'
/-- arguments -/
def tDs (K : PySem.W.Frag) (Ts : TsT) (f : En → Option (List PyData)) : TA := fun σ H Q => ∃ He O en ds, Rep K Ts He O σ H en ∧ f en = some ds ∧ ∀ vs H', Xt H H' → Tb Ts H' → DpAll K (hide H' O) vs ds → Q vs H'
/-- a test -/
def tT (K : PySem.W.Frag) (Ts : TsT) (f : En → Option Bool) : TT := fun σ H Q => ∃ He O en b, Rep K Ts He O σ H en ∧ f en = some b ∧ ∀ H', Xt H H' → Tb Ts H' → Q b H'
abbrev DE (X : Cx) (Ts : TsT) (e : Expr) (f : En → Option PyData) : Prop := PE X e (tD X.K Ts f)
abbrev DB (X : Cx) (Ts : TsT) (e : Expr) (f : En → Option PyData) : Prop := PE X e (tB X.K Ts f)
abbrev DA (X : Cx) (Ts : TsT) (es : List Expr) (f : En → Option (List PyData)) : Prop := PA X es (tDs X.K Ts f)
abbrev DT (X : Cx) (Ts : TsT) (e : Expr) (f : En → Option Bool) : Prop := PT X e (tT X.K Ts f)
abbrev DW (X : Cx) (Ts : TsT) (e : Expr) (f : En → Option Bool) : Prop := PW X e (tT X.K Ts f)
theorem PE.imp {X : Cx} {e : Expr} {t t' : TE} (h : PE X e t) (w : ∀ σ H Q, t' σ H Q → t σ H Q) : PE X e t' := ⟨fun pins s σ H Q I q => h.run pins s σ H Q I (w σ H Q q)⟩
theorem PT.imp {X : Cx} {e : Expr} {t t' : TT} (h : PT X e t) (w : ∀ σ H Q, t' σ H Q → t σ H Q) : PT X e t' := ⟨fun pins s σ H Q I q => h.run pins s σ H Q I (w σ H Q q)⟩
theorem PW.imp {X : Cx} {e : Expr} {t t' : TT} (h : PW X e t) (w : ∀ σ H Q, t' σ H Q → t σ H Q) : PW X e t' := ⟨fun wh pins s σ H Q I q => h.run wh pins s σ H Q I (w σ H Q q)⟩
theorem PA.imp {X : Cx} {es : List Expr} {t t' : TA} (h : PA X es t) (w : ∀ σ H Q, t' σ H Q → t σ H Q) : PA X es t' := ⟨fun pos pins s σ H Q I q => h.run pos pins s σ H Q I (w σ H Q q)⟩
theorem PS.imp {X : Cx} {st : Stmt} {t t' : TS} (h : PS X st t) (w : ∀ D σ H, t' D σ H → t D σ H) : PS X st t' := ⟨fun pins s σ H D I q => h.run pins s σ H D I (w D σ H q)⟩
theorem PSs.imp {X : Cx} {st : List Stmt} {t t' : TS} (h : PSs X st t) (w : ∀ D σ H, t' D σ H → t D σ H) : PSs X st t' := ⟨fun pins s σ H D I q => h.run pins s σ H D I (w D σ H q)⟩

section
variable {K : PySem.W.Frag} {Ts : TsT} {He : Hp} {O : List Addr} {σ : St} {H : Hp} {en : En} {f : En → Option PyData} {d : PyData}
/-- how a reading is met by one who knows the slots -/
theorem tD.of (r : Rep K Ts He O σ H en) (hf : f en = some d) {Q : VK} (h : ∀ v H', Xt H H' → Rep K Ts He O σ H' en → Dp K (hide H' O) v d → Q v H') : tD K Ts f σ H Q :=
  ⟨He, O, en, d, r, hf, fun v H' x t q => h v H' x (r.go x t) q⟩
theorem tB.of (r : Rep K Ts He O σ H en) (hf : f en = some d) {Q : VK} (h : ∀ v H', Xt H H' → Rep K Ts He O σ H' en → DpB K H' O v d → Q v H') : tB K Ts f σ H Q :=
  ⟨He, O, en, d, r, hf, fun v H' x t q => h v H' x (r.go x t) q⟩
theorem tDs.of {f : En → Option (List PyData)} {ds : List PyData} (r : Rep K Ts He O σ H en) (hf : f en = some ds) {Q : List V → Hp → Prop} (h : ∀ v H', Xt H H' → Rep K Ts He O σ H' en → DpAll K (hide H' O) v ds → Q v H') : tDs K Ts f σ H Q :=
  ⟨He, O, en, ds, r, hf, fun v H' x t q => h v H' x (r.go x t) q⟩
theorem tT.of {f : En → Option Bool} {b : Bool} (r : Rep K Ts He O σ H en) (hf : f en = some b) {Q : Bool → Hp → Prop} (h : ∀ H', Xt H H' → Rep K Ts He O σ H' en → Q b H') : tT K Ts f σ H Q :=
  ⟨He, O, en, b, r, hf, fun H' x t => h H' x (r.go x t)⟩
end

/-! ### names, constants -/
def fVar (i : Nat) : En → Option PyData := fun en => match en[i]? with
  | some (Slot.dat d) => some d
  | _ => none
def fOwn (i : Nat) : En → Option PyData := fun en => match en[i]? with
  | some (Slot.own ds) => some (.list ds)
  | some (Slot.dat d) => some d
  | _ => none
def fLit (d : PyData) : En → Option PyData := fun _ => some d
section
variable {X : Cx} {Ts : TsT} {pos : Pos}
theorem d_var (i : Nat) {x : Str} (hN : X.N[i]? = some x := by rfl) (hv : Vis X.env.scope x := by first | exact Or.inl rfl | exact Or.inr (Or.inl rfl) | exact Or.inr (Or.inr rfl)) (hd : (x == ("__debug__" : Str)) = false := by decide)
    (hcd : (x == ("__classdict__" : Str)) = false := by decide) : DE X Ts (.Name x pos) (fVar i) := PE.imp (pe_var hN hv hd hcd) fun σ H Q ⟨He, O, en, d, r, hf, k⟩ => by
  unfold fVar at hf
  split at hf
  · rename_i d' e
    cases hf
    obtain ⟨v, h1, h2⟩ := r.dat i _ e
    exact ⟨v, h1, k v H (Xt.refl H) r.tabs h2⟩
  · cases hf
/-- a list of the def's own that is read and not kept -/
theorem b_own (i : Nat) {x : Str} (hN : X.N[i]? = some x := by rfl) (hv : Vis X.env.scope x := by first | exact Or.inl rfl | exact Or.inr (Or.inl rfl) | exact Or.inr (Or.inr rfl)) (hd : (x == ("__debug__" : Str)) = false := by decide)
    (hcd : (x == ("__classdict__" : Str)) = false := by decide) : DB X Ts (.Name x pos) (fOwn i) := PE.imp (pe_var hN hv hd hcd) fun σ H Q ⟨He, O, en, d, r, hf, k⟩ => by
  unfold fOwn at hf
  split at hf
  · rename_i ds e
    cases hf
    obtain ⟨a, vs, h1, h2, h3, h4, h5⟩ := r.own i _ e
    exact ⟨.ref a, h1, k _ H (Xt.refl H) r.tabs (.inr ⟨a, vs, ds, rfl, rfl, h4, h5⟩)⟩
  · rename_i d' e
    cases hf
    obtain ⟨v, h1, h2⟩ := r.dat i _ e
    exact ⟨v, h1, k v H (Xt.refl H) r.tabs (.inl h2)⟩
  · cases hf
theorem d_b {e : Expr} {f : En → Option PyData} (h : DE X Ts e f) : DB X Ts e f := PE.imp h fun σ H Q ⟨He, O, en, d, r, hf, k⟩ => ⟨He, O, en, d, r, hf, fun v H' x t q => k v H' x t (.inl q)⟩
theorem d_int {i j} : DE X Ts (.Constant (.int i) j pos) (fLit (.int i)) := PE.imp pe_int fun σ H Q ⟨He, O, en, d, r, hf, k⟩ => by cases hf; exact k _ H (Xt.refl H) r.tabs (.int i)
theorem d_bl {b j} : DE X Ts (.Constant (.bool b) j pos) (fLit (.bool b)) := PE.imp pe_bl fun σ H Q ⟨He, O, en, d, r, hf, k⟩ => by cases hf; exact k _ H (Xt.refl H) r.tabs (.bl b)
theorem d_non {j} : DE X Ts (.Constant .none j pos) (fLit .none) := PE.imp pe_non fun σ H Q ⟨He, O, en, d, r, hf, k⟩ => by cases hf; exact k _ H (Xt.refl H) r.tabs .non
theorem d_str {x j} : DE X Ts (.Constant (.str x) j pos) (fLit (.str x)) := PE.imp pe_str fun σ H Q ⟨He, O, en, d, r, hf, k⟩ => by cases hf; exact k _ H (Xt.refl H) r.tabs (.str x)
/-- a module's constant -/
theorem d_glob {x : Str} {i : Int} {t : Tok} (hg : Gl X x) (hm : X.mg x = some (.int i t)) (hd : (x == ("__debug__" : Str)) = false := by decide) : DE X Ts (.Name x pos) (fLit (.int i)) :=
  PE.imp (pe_glob (v := .int i) hg hm ⟨t, rfl⟩ hd) fun σ H Q ⟨He, O, en, d, r, hf, k⟩ => by cases hf; exact k _ H (Xt.refl H) r.tabs (.int i)
end

/-! ### numbers -/
def f2 (g : PyData → PyData → Option PyData) (f1 f2 : En → Option PyData) : En → Option PyData := fun en => (f1 en).bind fun x => (f2 en).bind fun y => g x y
def f1 (g : PyData → Option PyData) (f : En → Option PyData) : En → Option PyData := fun en => (f en).bind g
def gI (g : Int → Int → PyData) : PyData → PyData → Option PyData
  | .int i, .int j => some (g i j)
  | _, _ => none
def gIc (c : Int → Int → Bool) (g : Int → Int → PyData) : PyData → PyData → Option PyData
  | .int i, .int j => if c i j = true then some (g i j) else none
  | _, _ => none
section
variable {X : Cx} {Ts : TsT} {pos : Pos} {a b : Expr} {fa fb : En → Option PyData}
theorem f2_some {g : PyData → PyData → Option PyData} {p q : En → Option PyData} {en : En} {d : PyData} (h : f2 g p q en = some d) : ∃ x y, p en = some x ∧ q en = some y ∧ g x y = some d := by
  unfold f2 at h
  obtain ⟨x, h1, h⟩ := Option.bind_eq_some_iff.mp h
  obtain ⟨y, h2, h⟩ := Option.bind_eq_some_iff.mp h
  exact ⟨x, y, h1, h2, h⟩
theorem f1_some {g : PyData → Option PyData} {p : En → Option PyData} {en : En} {d : PyData} (h : f1 g p en = some d) : ∃ x, p en = some x ∧ g x = some d := Option.bind_eq_some_iff.mp h
/-- two values, by what is known of them -/
theorem w_2 {r : R2} {g : PyData → PyData → Option PyData} {K : PySem.W.Frag}
    (k : ∀ x y v w d H O Q, g x y = some d → Dp K (hide H O) v x → Dp K (hide H O) w y → Tb Ts H → (∀ b ∈ O, H b ≠ none) → (∀ u H', Xt H H' → Tb Ts H' → Dp K (hide H' O) u d → Q u H') → r v w H Q) :
    ∀ σ H Q, tD K Ts (f2 g fa fb) σ H Q → tOp r (tD K Ts fa) (tD K Ts fb) σ H Q :=
  fun σ H Q ⟨He, O, en, d, rp, hf, kk⟩ => by
    obtain ⟨x, y, h1, h2, hg⟩ := f2_some hf
    refine tD.of rp h1 fun v H1 x1 r1 q1 => tD.of r1 h2 fun w H2 x2 r2 q2 => ?_
    exact k x y v w d H2 O Q hg (Dp.mono (hide_mono x2) q1) q2 r2.tabs (fun b hb => (r2.occ b hb).1) fun u H' x3 t3 q3 => kk u H' (x1.trans (x2.trans x3)) t3 q3
theorem w_i {C : Int → Int → Prop} {c : Int → Int → Bool} {g : Int → Int → PyData} {gv : Int → Int → V} {K : PySem.W.Frag} (hC : ∀ i j, c i j = true → C i j) (hv : ∀ i j K H, Dp K H (gv i j) (g i j)) :
    ∀ σ H Q, tD K Ts (f2 (gIc c g) fa fb) σ H Q → tOp (rI C gv) (tD K Ts fa) (tD K Ts fb) σ H Q :=
  w_2 fun x y v w d H O Q hg q1 q2 ht _ kk => by
    cases q1 <;> cases q2 <;> simp only [gIc] at hg <;> try cases hg
    rename_i i j
    split at hg
    · rename_i hc
      cases hg
      exact ⟨i, j, rfl, rfl, hC i j hc, kk _ H (Xt.refl H) ht (hv ..)⟩
    · cases hg
theorem w_i0 {g : Int → Int → PyData} {gv : Int → Int → V} {K : PySem.W.Frag} (hv : ∀ i j K H, Dp K H (gv i j) (g i j)) :
    ∀ σ H Q, tD K Ts (f2 (gI g) fa fb) σ H Q → tOp (rI0 gv) (tD K Ts fa) (tD K Ts fb) σ H Q :=
  w_2 fun x y v w d H O Q hg q1 q2 ht _ kk => by
    cases q1 <;> cases q2 <;> simp only [gI] at hg <;> try cases hg
    rename_i i j
    exact ⟨i, j, rfl, rfl, kk _ H (Xt.refl H) ht (hv ..)⟩
theorem d_i {e : Expr} {C : Int → Int → Prop} {c : Int → Int → Bool} {g : Int → Int → PyData} {gv : Int → Int → V} (hC : ∀ i j, c i j = true → C i j) (hv : ∀ i j K H, Dp K H (gv i j) (g i j))
    (h : PE X e (tOp (rI C gv) (tD X.K Ts fa) (tD X.K Ts fb))) : DE X Ts e (f2 (gIc c g) fa fb) := PE.imp h (w_i hC hv)
theorem d_i0 {e : Expr} {g : Int → Int → PyData} {gv : Int → Int → V} (hv : ∀ i j K H, Dp K H (gv i j) (g i j)) (h : PE X e (tOp (rI0 gv) (tD X.K Ts fa) (tD X.K Ts fb))) : DE X Ts e (f2 (gI g) fa fb) := PE.imp h (w_i0 hv)
def fAdd := f2 (gI fun i j => .int (i + j))
def fSub := f2 (gI fun i j => .int (i - j))
theorem d_add (ha : DE X Ts a fa) (hb : DE X Ts b fb) : DE X Ts (.BinOp a .Add b pos) (fAdd fa fb) := d_i0 (fun _ _ _ _ => .int _) (pe_op op_add ha hb)
theorem d_sub (ha : DE X Ts a fa) (hb : DE X Ts b fb) : DE X Ts (.BinOp a .Sub b pos) (fSub fa fb) := d_i0 (fun _ _ _ _ => .int _) (pe_op op_sub ha hb)
/-- products: together below a million bits -/
def cMul (i j : Int) : Bool := decide (i.natAbs.log2 + j.natAbs.log2 < 1000000)
def fMul := f2 (gIc cMul fun i j => .int (i * j))
theorem d_mul (ha : DE X Ts a fa) (hb : DE X Ts b fb) : DE X Ts (.BinOp a .Mult b pos) (fMul fa fb) := d_i (fun i j h => show CMulW i j from @of_decide_eq_true (i.natAbs.log2 + j.natAbs.log2 < 1000000) _ h) (fun _ _ _ _ => .int _) (pe_op op_mulW ha hb)
def cDiv (_ j : Int) : Bool := decide (0 < j ∧ j.natAbs.log2 < 9000)
def fDiv := f2 (gIc cDiv fun i j => .int (i / j))
theorem d_div (ha : DE X Ts a fa) (hb : DE X Ts b fb) : DE X Ts (.BinOp a .FloorDiv b pos) (fDiv fa fb) := d_i (fun i j h => show CDivW i j from @of_decide_eq_true (0 < j ∧ j.natAbs.log2 < 9000) _ h) (fun _ _ _ _ => .int _) (pe_op op_fdivW ha hb)
def cMod (_ j : Int) : Bool := decide (j ≠ 0)
def fMod := f2 (gIc cMod fun i j => .int (i.fmod j))
theorem d_mod (ha : DE X Ts a fa) (hb : DE X Ts b fb) : DE X Ts (.BinOp a .Mod b pos) (fMod fa fb) := d_i (fun i j h => of_decide_eq_true (show decide (j ≠ 0) = true from h)) (fun _ _ _ _ => .int _) (pe_op op_modN ha hb)
def gNeg : PyData → Option PyData
  | .int i => some (.int (-i))
  | _ => none
def fNeg := f1 gNeg
theorem d_neg (ha : DE X Ts a fa) : DE X Ts (.UnaryOp .USub a pos) (fNeg fa) := PE.imp (pe_un un_neg ha) fun σ H Q ⟨He, O, en, d, r, hf, k⟩ => by
  obtain ⟨x, h1, h2⟩ := f1_some hf
  refine tD.of r h1 fun v H1 x1 r1 q1 => ?_
  cases q1 <;> simp only [gNeg] at h2 <;> try cases h2
  exact ⟨_, rfl, k _ H1 x1 r1.tabs (.int _)⟩
/-! comparisons -/
def fLt := f2 (gI fun i j => .bool (decide (i < j)))
def fLe := f2 (gI fun i j => .bool (decide (i ≤ j)))
def fGt := f2 (gI fun i j => .bool (decide (j < i)))
def fGe := f2 (gI fun i j => .bool (decide (j ≤ i)))
theorem d_lt (ha : DE X Ts a fa) (hb : DE X Ts b fb) : DE X Ts (.Compare a [.Lt] [b] pos) (fLt fa fb) := d_i0 (fun _ _ _ _ => .bl _) (pe_cmpR op_lt ha hb (nomark _))
theorem d_le (ha : DE X Ts a fa) (hb : DE X Ts b fb) : DE X Ts (.Compare a [.LtE] [b] pos) (fLe fa fb) := d_i0 (fun _ _ _ _ => .bl _) (pe_cmpR op_le ha hb (nomark _))
theorem d_gt (ha : DE X Ts a fa) (hb : DE X Ts b fb) : DE X Ts (.Compare a [.Gt] [b] pos) (fGt fa fb) := d_i0 (fun _ _ _ _ => .bl _) (pe_cmpR op_gt ha hb (nomark _))
theorem d_ge (ha : DE X Ts a fa) (hb : DE X Ts b fb) : DE X Ts (.Compare a [.GtE] [b] pos) (fGe fa fb) := d_i0 (fun _ _ _ _ => .bl _) (pe_cmpR op_ge ha hb (nomark _))
/-! equality, None -/
def gEq : PyData → PyData → Option PyData := fun x y => if (SeqAt.shaped x && SeqAt.shaped y) = true then some (.bool (PyData.eqv x y)) else none
def gNe : PyData → PyData → Option PyData := fun x y => if (SeqAt.shaped x && SeqAt.shaped y) = true then some (.bool (!PyData.eqv x y)) else none
def fEq := f2 gEq
def fNe := f2 gNe
theorem w_eq {K : PySem.W.Frag} : ∀ σ H Q, tD K Ts (fEq fa fb) σ H Q → tOp (rEqD K) (tD K Ts fa) (tD K Ts fb) σ H Q :=
  w_2 fun x y v w d H O Q hg q1 q2 ht _ kk => by
    unfold gEq at hg
    split at hg
    · rename_i hs
      rw [Bool.and_eq_true] at hs
      cases hg
      exact ⟨x, y, Dp.mono hide_out q1, Dp.mono hide_out q2, hs.1, hs.2, kk _ H (Xt.refl H) ht (.bl _)⟩
    · cases hg
theorem w_ne {K : PySem.W.Frag} : ∀ σ H Q, tD K Ts (fNe fa fb) σ H Q → tOp (rNeD K) (tD K Ts fa) (tD K Ts fb) σ H Q :=
  w_2 fun x y v w d H O Q hg q1 q2 ht _ kk => by
    unfold gNe at hg
    split at hg
    · rename_i hs
      rw [Bool.and_eq_true] at hs
      cases hg
      exact ⟨x, y, Dp.mono hide_out q1, Dp.mono hide_out q2, hs.1, hs.2, kk _ H (Xt.refl H) ht (.bl _)⟩
    · cases hg
theorem d_eq {k : Nat} (hr : Room k X.A) (ha : DE X Ts a fa) (hb : DE X Ts b fb) : DE X Ts (.Compare a [.Eq] [b] pos) (fEq fa fb) := PE.imp (pe_cmpR (op_eqD hr.units) ha hb (nomark _)) w_eq
theorem d_ne {k : Nat} (hr : Room k X.A) (ha : DE X Ts a fa) (hb : DE X Ts b fb) : DE X Ts (.Compare a [.NotEq] [b] pos) (fNe fa fb) := PE.imp (pe_cmpR (op_neD hr.units) ha hb (nomark _)) w_ne
def isNone : PyData → Bool
  | .none => true
  | _ => false
theorem isNone_of {K : PySem.W.Frag} {H : Hp} {v : V} {d : PyData} (h : Dp K H v d) : decide (v = .non) = isNone d := by
  cases h <;> rfl
def gIsN : PyData → PyData → Option PyData := fun x y => if isNone y = true then some (.bool (isNone x)) else none
def gNotN : PyData → PyData → Option PyData := fun x y => if isNone y = true then some (.bool (!isNone x)) else none
def fIsN := f2 gIsN
def fNotN := f2 gNotN
theorem non_of {K : PySem.W.Frag} {H : Hp} {v : V} {d : PyData} (h : Dp K H v d) (e : isNone d = true) : v = .non := by
  cases h <;> first | rfl | cases e
theorem w_isN {K : PySem.W.Frag} : ∀ σ H Q, tD K Ts (fIsN fa fb) σ H Q → tOp (fun x y H Q => y = .non ∧ Q (.bl (decide (x = .non))) H) (tD K Ts fa) (tD K Ts fb) σ H Q :=
  w_2 fun x y v w d H O Q hg q1 q2 ht _ kk => by
    unfold gIsN at hg
    split at hg
    · rename_i hs
      cases hg
      refine ⟨non_of q2 hs, ?_⟩
      rw [isNone_of q1]
      exact kk _ H (Xt.refl H) ht (.bl _)
    · cases hg
theorem w_notN {K : PySem.W.Frag} : ∀ σ H Q, tD K Ts (fNotN fa fb) σ H Q → tOp (fun x y H Q => y = .non ∧ Q (.bl (!decide (x = .non))) H) (tD K Ts fa) (tD K Ts fb) σ H Q :=
  w_2 fun x y v w d H O Q hg q1 q2 ht _ kk => by
    unfold gNotN at hg
    split at hg
    · rename_i hs
      cases hg
      refine ⟨non_of q2 hs, ?_⟩
      rw [isNone_of q1]
      exact kk _ H (Xt.refl H) ht (.bl _)
    · cases hg
theorem d_isN (ha : DE X Ts a fa) (hb : DE X Ts b fb) : DE X Ts (.Compare a [.Is] [b] pos) (fIsN fa fb) := PE.imp (pe_cmpR op_isN ha hb (nomark _)) w_isN
theorem d_notN (ha : DE X Ts a fa) (hb : DE X Ts b fb) : DE X Ts (.Compare a [.IsNot] [b] pos) (fNotN fa fb) := PE.imp (pe_cmpR op_notN ha hb (nomark _)) w_notN

/-! ### tests -/
def fT (f : En → Option PyData) : En → Option Bool := fun en => match f en with
  | some (.bool b) => some b
  | _ => none
theorem fT_some {f : En → Option PyData} {en : En} {b : Bool} (h : fT f en = some b) : f en = some (.bool b) := by
  unfold fT at h
  split at h
  · rename_i e
    cases h
    exact e
  · cases h
theorem dt_of {e : Expr} {t : TE} {f : En → Option PyData} (h : PT X e (tTest t)) (w : ∀ σ H Q, tD X.K Ts f σ H Q → t σ H Q) : DT X Ts e (fT f) := PT.imp h fun σ H Q ⟨He, O, en, b, r, hf, k⟩ =>
  w σ H _ ⟨He, O, en, .bool b, r, fT_some hf, fun v H' x t q => by cases q; exact ⟨b, rfl, k H' x t⟩⟩
theorem dt_val {e : Expr} {f : En → Option PyData} (h : DE X Ts e f) (he : ∀ whole, isTrue e X.env whole = (do let v ← whole; standAt e.pos; holding [v] (truthy v)) := by intro _; rfl) : DT X Ts e (fT f) :=
  PT.imp (pt_val h he) fun σ H Q ⟨He, O, en, b, r, hf, k⟩ => ⟨He, O, en, .bool b, r, fT_some hf, fun v H' x t q => by cases q; exact ⟨b, rfl, k H' x t⟩⟩
theorem dt_lt (ha : DE X Ts a fa) (hb : DE X Ts b fb) : DT X Ts (.Compare a [.Lt] [b] pos) (fT (fLt fa fb)) := dt_of (pt_cmpR op_lt ha hb (nomark _)) (w_i0 fun _ _ _ _ => .bl _)
theorem dt_le (ha : DE X Ts a fa) (hb : DE X Ts b fb) : DT X Ts (.Compare a [.LtE] [b] pos) (fT (fLe fa fb)) := dt_of (pt_cmpR op_le ha hb (nomark _)) (w_i0 fun _ _ _ _ => .bl _)
theorem dt_gt (ha : DE X Ts a fa) (hb : DE X Ts b fb) : DT X Ts (.Compare a [.Gt] [b] pos) (fT (fGt fa fb)) := dt_of (pt_cmpR op_gt ha hb (nomark _)) (w_i0 fun _ _ _ _ => .bl _)
theorem dt_ge (ha : DE X Ts a fa) (hb : DE X Ts b fb) : DT X Ts (.Compare a [.GtE] [b] pos) (fT (fGe fa fb)) := dt_of (pt_cmpR op_ge ha hb (nomark _)) (w_i0 fun _ _ _ _ => .bl _)
theorem dt_eq {k : Nat} (hr : Room k X.A) (ha : DE X Ts a fa) (hb : DE X Ts b fb) : DT X Ts (.Compare a [.Eq] [b] pos) (fT (fEq fa fb)) := dt_of (pt_cmpR (op_eqD hr.units) ha hb (nomark _)) w_eq
theorem dt_ne {k : Nat} (hr : Room k X.A) (ha : DE X Ts a fa) (hb : DE X Ts b fb) : DT X Ts (.Compare a [.NotEq] [b] pos) (fT (fNe fa fb)) := dt_of (pt_cmpR (op_neD hr.units) ha hb (nomark _)) w_ne
theorem dt_isN (ha : DE X Ts a fa) (hb : DE X Ts b fb) : DT X Ts (.Compare a [.Is] [b] pos) (fT (fIsN fa fb)) := dt_of (pt_cmpR op_isN ha hb (nomark _)) w_isN
theorem dt_notN (ha : DE X Ts a fa) (hb : DE X Ts b fb) : DT X Ts (.Compare a [.IsNot] [b] pos) (fT (fNotN fa fb)) := dt_of (pt_cmpR op_notN ha hb (nomark _)) w_notN
/-! a <= b <= c -/
def fChain (g1 g2 : PyData → PyData → Option PyData) (fa fb fc : En → Option PyData) : En → Option PyData := fun en => (fa en).bind fun x => (fb en).bind fun y => (g1 x y).bind fun z => match z with
  | .bool true => (fc en).bind fun w => g2 y w
  | .bool false => some (.bool false)
  | _ => none
def gLe := gI fun i j => .bool (decide (i ≤ j))
def gLt := gI fun i j => .bool (decide (i < j))
theorem w_chain {g1 g2 : Int → Int → Bool} {c : Expr} {fc : En → Option PyData} {K : PySem.W.Frag} : ∀ σ H Q, tD K Ts (fChain (gI fun i j => .bool (g1 i j)) (gI fun i j => .bool (g2 i j)) fa fb fc) σ H Q →
    tChain (rI0 fun i j => .bl (g1 i j)) (rI0 fun i j => .bl (g2 i j)) (tD K Ts fa) (tD K Ts fb) (tD K Ts fc) σ H Q := fun σ H Q ⟨He, O, en, d, rp, hf, kk⟩ => by
  unfold fChain at hf
  obtain ⟨x, h1, hf1⟩ := Option.bind_eq_some_iff.mp hf
  obtain ⟨y, h2, hf2⟩ := Option.bind_eq_some_iff.mp hf1
  obtain ⟨z, h3, hf3⟩ := Option.bind_eq_some_iff.mp hf2
  clear hf hf1 hf2
  refine tD.of rp h1 fun v H1 x1 r1 q1 => tD.of r1 h2 fun w H2 x2 r2 q2 => ?_
  obtain ⟨i, j, rfl, rfl, rfl⟩ : ∃ i j, x = .int i ∧ y = .int j ∧ z = .bool (g1 i j) := by
    cases x <;> cases y <;> simp only [gI] at h3 <;> first | (cases h3; exact ⟨_, _, rfl, rfl, rfl⟩) | cases h3
  cases q1
  cases q2
  have hf := hf3
  refine ⟨i, j, rfl, rfl, g1 i j, rfl, ?_⟩
  cases hg : g1 i j with
  | true =>
    rw [hg] at hf
    obtain ⟨u, h4, hf⟩ := Option.bind_eq_some_iff.mp hf
    refine iteT (tD.of r2 h4 fun w' H3 x3 r3 q3 => ?_)
    cases q3 <;> simp only [gI] at hf <;> try cases hf
    exact ⟨_, _, rfl, rfl, kk _ H3 (x1.trans (x2.trans x3)) r3.tabs (.bl _)⟩
  | false =>
    rw [hg] at hf
    cases hf
    exact iteF (kk _ H2 (x1.trans x2) r2.tabs (.bl _))
theorem d_lele {c : Expr} {fc : En → Option PyData} (ha : DE X Ts a fa) (hb : DE X Ts b fb) (hc : DE X Ts c fc) (hm : lastMarks [.LtE, .LtE] [b, c] = false := by with_unfolding_all rfl) :
    DE X Ts (.Compare a [.LtE, .LtE] [b, c] pos) (fChain gLe gLe fa fb fc) := PE.imp (pe_chain op_le op_le ha hb hc hm) (w_chain (c := c))
theorem dt_lele {c : Expr} {fc : En → Option PyData} (ha : DE X Ts a fa) (hb : DE X Ts b fb) (hc : DE X Ts c fc) (hm : lastMarks [.LtE, .LtE] [b, c] = false := by with_unfolding_all rfl) :
    DT X Ts (.Compare a [.LtE, .LtE] [b, c] pos) (fT (fChain gLe gLe fa fb fc)) := dt_of (pt_chain op_le op_le ha hb hc hm) (w_chain (c := c))
/-! and, or, not; a if t else b -/
def fAnd (f g : En → Option PyData) : En → Option PyData := fun en => match f en with
  | some (.bool true) => g en
  | some (.bool false) => some (.bool false)
  | _ => none
def fOr (f g : En → Option PyData) : En → Option PyData := fun en => match f en with
  | some (.bool true) => some (.bool true)
  | some (.bool false) => g en
  | _ => none
def fNot (f : En → Option PyData) : En → Option PyData := fun en => match f en with
  | some (.bool b) => some (.bool (!b))
  | _ => none
variable {rest : List Expr}
theorem d_one {op} {f : En → Option PyData} (h : DE X Ts a f) : DE X Ts (.BoolOp op [a] pos) f := pe_one h
theorem d_and {ga : En → Option PyData} (ha : DE X Ts a fa) (hb : DE X Ts (.BoolOp .And (b :: rest) pos) ga) : DE X Ts (.BoolOp .And (a :: b :: rest) pos) (fAnd fa ga) := PE.imp (pe_and ha hb) fun σ H Q ⟨He, O, en, d, rp, hf, kk⟩ => by
  unfold fAnd at hf
  split at hf
  · rename_i e
    exact tD.of rp e fun v H1 x1 r1 q1 => by cases q1; exact ⟨true, rfl, iteT (tD.of r1 hf fun w H2 x2 r2 q2 => kk w H2 (x1.trans x2) r2.tabs q2)⟩
  · rename_i e
    cases hf
    exact tD.of rp e fun v H1 x1 r1 q1 => by cases q1; exact ⟨false, rfl, iteF (kk _ H1 x1 r1.tabs (.bl _))⟩
  · cases hf
theorem d_or {ga : En → Option PyData} (ha : DE X Ts a fa) (hb : DE X Ts (.BoolOp .Or (b :: rest) pos) ga) : DE X Ts (.BoolOp .Or (a :: b :: rest) pos) (fOr fa ga) := PE.imp (pe_or ha hb) fun σ H Q ⟨He, O, en, d, rp, hf, kk⟩ => by
  unfold fOr at hf
  split at hf
  · rename_i e
    cases hf
    exact tD.of rp e fun v H1 x1 r1 q1 => by cases q1; exact ⟨true, rfl, iteT (kk _ H1 x1 r1.tabs (.bl _))⟩
  · rename_i e
    exact tD.of rp e fun v H1 x1 r1 q1 => by cases q1; exact ⟨false, rfl, iteF (tD.of r1 hf fun w H2 x2 r2 q2 => kk w H2 (x1.trans x2) r2.tabs q2)⟩
  · cases hf
theorem d_not (ha : DE X Ts a fa) : DE X Ts (.UnaryOp .Not a pos) (fNot fa) := PE.imp (pe_not ha) fun σ H Q ⟨He, O, en, d, rp, hf, kk⟩ => by
  unfold fNot at hf
  split at hf
  · rename_i b e
    cases hf
    exact tD.of rp e fun v H1 x1 r1 q1 => by cases q1; exact ⟨b, rfl, kk _ H1 x1 r1.tabs (.bl _)⟩
  · cases hf
def kAnd (f g : En → Option Bool) : En → Option Bool := fun en => match f en with
  | some true => g en
  | some false => some false
  | none => none
def kOr (f g : En → Option Bool) : En → Option Bool := fun en => match f en with
  | some true => some true
  | some false => g en
  | none => none
def kNot (f : En → Option Bool) : En → Option Bool := fun en => (f en).map (!·)
variable {ta tb : En → Option Bool}
theorem dw_and1 (ha : DT X Ts a ta) : DW X Ts (.BoolOp .And [a] pos) ta := pw_and1 ha
theorem dw_or1 (ha : DT X Ts a ta) : DW X Ts (.BoolOp .Or [a] pos) ta := pw_or1 ha
theorem dw_and (ha : DT X Ts a ta) (hb : DW X Ts (.BoolOp .And (b :: rest) pos) tb) : DW X Ts (.BoolOp .And (a :: b :: rest) pos) (kAnd ta tb) := PW.imp (pw_and ha hb) fun σ H Q ⟨He, O, en, d, rp, hf, kk⟩ => by
  unfold kAnd at hf
  split at hf
  · rename_i e
    exact tT.of rp e fun H1 x1 r1 => iteT (tT.of r1 hf fun H2 x2 r2 => kk H2 (x1.trans x2) r2.tabs)
  · rename_i e
    cases hf
    exact tT.of rp e fun H1 x1 r1 => iteF (kk H1 x1 r1.tabs)
  · cases hf
theorem dw_or (ha : DT X Ts a ta) (hb : DW X Ts (.BoolOp .Or (b :: rest) pos) tb) : DW X Ts (.BoolOp .Or (a :: b :: rest) pos) (kOr ta tb) := PW.imp (pw_or ha hb) fun σ H Q ⟨He, O, en, d, rp, hf, kk⟩ => by
  unfold kOr at hf
  split at hf
  · rename_i e
    cases hf
    exact tT.of rp e fun H1 x1 r1 => iteT (kk H1 x1 r1.tabs)
  · rename_i e
    exact tT.of rp e fun H1 x1 r1 => iteF (tT.of r1 hf fun H2 x2 r2 => kk H2 (x1.trans x2) r2.tabs)
  · cases hf
theorem dt_w {e : Expr} (h : DW X Ts e ta) : DT X Ts e ta := h.pt
theorem dt_not (ha : DT X Ts a ta) : DT X Ts (.UnaryOp .Not a pos) (kNot ta) := PT.imp (pt_not ha) fun σ H Q ⟨He, O, en, d, rp, hf, kk⟩ => by
  unfold kNot at hf
  obtain ⟨b, h1, h2⟩ := Option.map_eq_some_iff.mp hf
  subst h2
  exact tT.of rp h1 fun H1 x1 r1 => kk H1 x1 r1.tabs
def fIf (t : En → Option Bool) (f g : En → Option PyData) : En → Option PyData := fun en => match t en with
  | some true => f en
  | some false => g en
  | none => none
theorem d_if {c : Expr} (hc : DT X Ts c ta) (ha : DE X Ts a fa) (hb : DE X Ts b fb) : DE X Ts (.IfExp c a b pos) (fIf ta fa fb) := PE.imp (pe_ifExp hc ha hb) fun σ H Q ⟨He, O, en, d, rp, hf, kk⟩ => by
  unfold fIf at hf
  split at hf
  · rename_i e
    exact tT.of rp e fun H1 x1 r1 => iteT (tD.of r1 hf fun w H2 x2 r2 q2 => kk w H2 (x1.trans x2) r2.tabs q2)
  · rename_i e
    exact tT.of rp e fun H1 x1 r1 => iteF (tD.of r1 hf fun w H2 x2 r2 q2 => kk w H2 (x1.trans x2) r2.tabs q2)
  · cases hf
end
end DN
set_option Elab.async false
set_option linter.all false
set_option maxRecDepth 100000
set_option maxHeartbeats 4000000
namespace DN
open PySem PySem.Spec PyProof.Rows L2

/-! ### argument lists, displays -/
def fNil : En → Option (List PyData) := fun _ => some []
def fCons (f : En → Option PyData) (g : En → Option (List PyData)) : En → Option (List PyData) := fun en => (f en).bind fun x => (g en).bind fun xs => some (x :: xs)
section
variable {X : Cx} {Ts : TsT} {pos : Pos} {e : Expr} {es : List Expr} {f : En → Option PyData} {g : En → Option (List PyData)}
theorem da_nil : DA X Ts [] fNil := PA.imp pa_nil fun σ H Q ⟨He, O, en, ds, rp, hf, kk⟩ => by
  cases hf
  exact kk [] H (Xt.refl H) rp.tabs .nil
theorem fCons_some {en : En} {ds : List PyData} (h : fCons f g en = some ds) : ∃ x xs, f en = some x ∧ g en = some xs ∧ ds = x :: xs := by
  unfold fCons at h
  obtain ⟨x, h1, h⟩ := Option.bind_eq_some_iff.mp h
  obtain ⟨y, h2, h⟩ := Option.bind_eq_some_iff.mp h
  cases h
  exact ⟨x, y, h1, h2, rfl⟩
theorem da_cons (ha : DE X Ts e f) (hr : DA X Ts es g) (hs : starEach (e :: es) X.env = (false, eval e X.env) :: starEach es X.env := by rfl) : DA X Ts (e :: es) (fCons f g) := PA.imp (pa_cons ha hr hs) fun σ H Q ⟨He, O, en, ds, rp, hf, kk⟩ => by
  obtain ⟨x, xs, h1, h2, rfl⟩ := fCons_some hf
  exact tD.of rp h1 fun v H1 x1 r1 q1 => tDs.of r1 h2 fun vs H2 x2 r2 q2 => kk _ H2 (x1.trans x2) r2.tabs (.cons (Dp.mono (hide_mono x2) q1) q2)
theorem new_out {O : List Addr} {H : Hp} {p : Addr} (occ : ∀ b ∈ O, H b ≠ none ∧ ∀ ps, H b ≠ some (.tbl ps)) (h : H p = none) : p ∉ O := fun z => (occ p z).1 h
theorem small64 {n : Nat} (h : n ≤ 64) : n ≤ sizeLine := Nat.le_of_lt (small1000 (by omega))
/-- a new tuple is told -/
theorem tup_new {K : PySem.W.Frag} {H : Hp} {O : List Addr} {p : Addr} {xs : List V} {ds : List PyData} (hp : H p = none) (np : p ∉ O) (q : DpAll K (hide H O) xs ds) : Dp K (hide (upd H p (.tup xs)) O) (.ref p) (.tuple ds) :=
  .tup (.inl (.inl (hide_of np upd_same))) (DpAll.mono (hide_mono (Xt.upd hp)) q)
theorem lst_new {K : PySem.W.Frag} {H : Hp} {O : List Addr} {p : Addr} {xs : List V} {ds : List PyData} (hp : H p = none) (np : p ∉ O) (q : DpAll K (hide H O) xs ds) : Dp K (hide (upd H p (.lst xs)) O) (.ref p) (.list ds) :=
  .lst (.inl (.inl (hide_of np upd_same))) (DpAll.mono (hide_mono (Xt.upd hp)) q)
def fTup (g : En → Option (List PyData)) : En → Option PyData := fun en => (g en).bind fun ds => if ds.length ≤ 64 then some (.tuple ds) else none
def fLst (g : En → Option (List PyData)) : En → Option PyData := fun en => (g en).bind fun ds => if ds.length ≤ 64 then some (.list ds) else none
theorem fTup_some {en : En} {d : PyData} (h : fTup g en = some d) : ∃ ds, g en = some ds ∧ ds.length ≤ 64 ∧ d = .tuple ds := by
  unfold fTup at h
  obtain ⟨x, h1, h⟩ := Option.bind_eq_some_iff.mp h
  split at h
  · cases h; exact ⟨x, h1, by assumption, rfl⟩
  · cases h
theorem fLst_some {en : En} {d : PyData} (h : fLst g en = some d) : ∃ ds, g en = some ds ∧ ds.length ≤ 64 ∧ d = .list ds := by
  unfold fLst at h
  obtain ⟨x, h1, h⟩ := Option.bind_eq_some_iff.mp h
  split at h
  · cases h; exact ⟨x, h1, by assumption, rfl⟩
  · cases h
theorem d_tup {x1} (h : DA X Ts es g) : DE X Ts (.Tuple es x1 pos) (fTup g) := PE.imp (pe_tup h) fun σ H Q ⟨He, O, en, d, rp, hf, kk⟩ => by
  obtain ⟨ds, h1, hl, rfl⟩ := fTup_some hf
  exact tDs.of rp h1 fun vs H1 x1 r1 q1 => ⟨by rw [DpAll.len q1]; exact small64 hl, fun p np => kk _ _ (x1.trans (Xt.upd np)) (r1.tabs.new np) (tup_new np (new_out r1.occ np) q1)⟩
theorem d_lst (h : DA X Ts es g) : DE X Ts (.List es pos) (fLst g) := PE.imp (pe_lst h) fun σ H Q ⟨He, O, en, d, rp, hf, kk⟩ => by
  obtain ⟨ds, h1, hl, rfl⟩ := fLst_some hf
  exact tDs.of rp h1 fun vs H1 x1 r1 q1 => ⟨by rw [DpAll.len q1]; exact small64 hl, fun p np => kk _ _ (x1.trans (Xt.upd np)) (r1.tabs.new np) (lst_new np (new_out r1.occ np) q1)⟩

/-! ### own defs -/
/-- a def without effect: it makes of its arguments' data the datum that F tells -/
def spD (K : PySem.W.Frag) (Ts : TsT) (n : Nat) (F : List PyData → Option PyData) : Sp := fun vs H Q _ => vs.length = n ∧ ∃ O ds d, DpAll K (hide H O) vs ds ∧ Tb Ts H ∧ (∀ b ∈ O, H b ≠ none ∧ ∀ ps, H b ≠ some (.tbl ps)) ∧ F ds = some d ∧
  ∀ v H', Xt H H' → Tb Ts H' → Dp K (hide H' O) v d → Q v H'
theorem spD.imp {K : PySem.W.Frag} {Ts : TsT} {n : Nat} {F G : List PyData → Option PyData} (h : ∀ ds d, G ds = some d → F ds = some d) : ∀ vs H Q E, spD K Ts n G vs H Q E → spD K Ts n F vs H Q E :=
  fun vs H Q E ⟨h1, O, ds, d, a, b, c, e, k⟩ => ⟨h1, O, ds, d, a, b, c, h ds d e, k⟩
def fCall (n : Nat) (F : List PyData → Option PyData) (g : En → Option (List PyData)) : En → Option PyData := fun en => (g en).bind fun ds => if ds.length = n then F ds else none
/-- a def of the program where it stands -/
structure DFn (X : Cx) (Ts : TsT) (k : Nat) (x : Str) (n : Nat) (F : List PyData → Option PyData) : Prop where
  ex : ∃ f fd ps dvs us dd G, X.mg x = some (.ref f) ∧ PySem.W.keepIn X.K (.ref f) = true ∧ Binds X.K fd ps us ∧ Vals dvs us ∧ (∀ H, DpAll X.K H dvs dd) ∧ FnOk X.prog X.w X.K X.mg X.base CX0 k f fd ps (spD X.K Ts (n + dd.length) G) ∧ ∀ xs d, xs.length = n → F xs = some d → G (xs ++ dd) = some d
theorem d_call {k j n : Nat} {x : Str} {p : Pos} {F : List PyData → Option PyData} (hr : Room j X.A) (hF : DFn X Ts k x n F) (hk : k ≤ j) (hg : Gl X x) (ha : DA X Ts (e :: es) g) (hdb : (x == ("__debug__" : Str)) = false := by decide)
    (he : starEach (e :: es) X.env = (false, eval e X.env) :: starEach es X.env := by rfl) (hpl : (backTo pos (starEach es X.env)).any (·.1) = false := by rfl) : DE X Ts (.Call (.Name x p) (e :: es) [] pos) (fCall n F g) := by
  obtain ⟨f, fd, ps, dvs, us, dd, G, h1, h2, h3, h3v, h3d, h4, h5⟩ := hF.ex
  refine PE.imp (pe_call h4 (hr.mono hk) hg h1 h2 h3 h3v pass0 ha hdb he hpl) fun σ H Q ⟨He, O, en, d, rp, hf, kk⟩ => ?_
  unfold fCall at hf
  obtain ⟨ds, q1, hf⟩ := Option.bind_eq_some_iff.mp hf
  split at hf
  · rename_i hl
    refine tDs.of rp q1 fun vs H1 x1 r1 qs => ?_
    exact ⟨by rw [List.length_append, DpAll.len qs, hl, DpAll.len (h3d H1)], O, ds ++ dd, d, DpAll.app qs (h3d _), r1.tabs, r1.occ, h5 ds d hl hf, fun v H' x t q => kk v H' (x1.trans x) t q⟩
  · cases hf
end

/-! ### built-ins -/
/-- the sequence behind a borrowed value -/
theorem DpB.seq {K : PySem.W.Frag} {H : Hp} {O : List Addr} {v : V} {d : PyData} (h : DpB K H O v d) :
    (∃ b, v = .bl b ∧ d = .bool b) ∨ (v = .non ∧ d = .none) ∨ (∃ i, v = .int i ∧ d = .int i) ∨ (∃ s, v = .str s ∧ d = .str s) ∨
    (∃ a vs ds, v = .ref a ∧ d = .list ds ∧ SqL K H a vs ∧ DpAll K (hide H O) vs ds) ∨ (∃ a vs ds, v = .ref a ∧ d = .tuple ds ∧ SqT K H a vs ∧ DpAll K (hide H O) vs ds) := by
  rcases h with h | ⟨a, vs, ds, rfl, rfl, h1, h2⟩
  · cases h with
    | non => exact .inr (.inl ⟨rfl, rfl⟩)
    | bl b => exact .inl ⟨b, rfl, rfl⟩
    | int i => exact .inr (.inr (.inl ⟨i, rfl, rfl⟩))
    | str s => exact .inr (.inr (.inr (.inl ⟨s, rfl, rfl⟩)))
    | lst s a => exact .inr (.inr (.inr (.inr (.inl ⟨_, _, _, rfl, rfl, sqL_mono (fun o n e => (hide_some e).2) s, a⟩))))
    | tup s a => exact .inr (.inr (.inr (.inr (.inr ⟨_, _, _, rfl, rfl, sqT_mono (fun o n e => (hide_some e).2) s, a⟩))))
  · exact .inr (.inr (.inr (.inr (.inl ⟨_, _, _, rfl, rfl, .inl (.inl h1), h2⟩))))
theorem DpB.lst {K : PySem.W.Frag} {H : Hp} {O : List Addr} {v : V} {ds : List PyData} (h : DpB K H O v (.list ds)) : ∃ a vs, v = .ref a ∧ SqL K H a vs ∧ DpAll K (hide H O) vs ds := by
  rcases h.seq with ⟨_, _, e⟩ | ⟨_, e⟩ | ⟨_, _, e⟩ | ⟨_, _, e⟩ | ⟨a, vs, es, rfl, e, h1, h2⟩ | ⟨a, vs, es, rfl, e, h1, h2⟩ <;> cases e
  exact ⟨a, vs, rfl, h1, h2⟩
theorem DpB.tup {K : PySem.W.Frag} {H : Hp} {O : List Addr} {v : V} {ds : List PyData} (h : DpB K H O v (.tuple ds)) : ∃ a vs, v = .ref a ∧ SqT K H a vs ∧ DpAll K (hide H O) vs ds := by
  rcases h.seq with ⟨_, _, e⟩ | ⟨_, e⟩ | ⟨_, _, e⟩ | ⟨_, _, e⟩ | ⟨a, vs, es, rfl, e, h1, h2⟩ | ⟨a, vs, es, rfl, e, h1, h2⟩ <;> cases e
  exact ⟨a, vs, rfl, h1, h2⟩
/-- the items of a list or a tuple -/
def items : PyData → Option (List PyData)
  | .list ds => some ds
  | .tuple ds => some ds
  | _ => none
def intsOf : List PyData → Option (List Int)
  | [] => some []
  | .int i :: r => (intsOf r).map (i :: ·)
  | _ :: _ => none
theorem intsOf_some : ∀ {ds : List PyData} {ns : List Int}, intsOf ds = some ns → ds = ns.map .int
  | [], ns, h => by cases h; rfl
  | .int i :: r, ns, h => by
    obtain ⟨m, h1, rfl⟩ := Option.map_eq_some_iff.mp h
    rw [intsOf_some h1]
    rfl
  | .none :: r, ns, h => by cases h
  | .bool _ :: r, ns, h => by cases h
  | .str _ :: r, ns, h => by cases h
  | .list _ :: r, ns, h => by cases h
  | .tuple _ :: r, ns, h => by cases h
  | .dict _ :: r, ns, h => by cases h
theorem intsOf_map (ns : List Int) : intsOf (ns.map .int) = some ns := by
  induction ns with
  | nil => rfl
  | cons n r ih => simp [intsOf, ih]
section
variable {X : Cx} {Ts : TsT} {pos p : Pos} {e e2 : Expr} {f g : En → Option PyData}
/-- one argument, read and not kept -/
theorem b_arg1 {id : String} {r : List V → Hp → VK → Prop} {x : Str} {gg : PyData → Option PyData} (hc : CallR X (.builtin id) r) (hg : Gl X x) (hm : X.mg x = none) (hv : bootBuiltins x = some (.builtin id)) (ha : DB X Ts e f)
    (k : ∀ d z v H O Q, gg d = some z → DpB X.K H O v d → Tb Ts H → (∀ b ∈ O, H b ≠ none ∧ ∀ ps, H b ≠ some (.tbl ps)) → (∀ u H', Xt H H' → Tb Ts H' → Dp X.K (hide H' O) u z → Q u H') → r [v] H Q)
    (hn : x ≠ "__name__" := by decide) (hdb : (x == ("__debug__" : Str)) = false := by decide) (he : starEach [e] X.env = (false, eval e X.env) :: starEach [] X.env := by rfl) :
    DE X Ts (.Call (.Name x p) [e] [] pos) (f1 gg f) := PE.imp (pe_callB (t := tCons (tB X.K Ts f) tNil) hc hg hm hv (pa_cons ha pa_nil he) hn hdb he (by rfl)) fun σ H Q ⟨He, O, en, d, rp, hf, kk⟩ => by
  obtain ⟨x, h1, h2⟩ := f1_some hf
  exact tB.of rp h1 fun v H1 x1 r1 q1 => k x d v H1 O Q h2 q1 r1.tabs r1.occ fun u H' x t q => kk u H' (x1.trans x) t q
theorem b_argT {T : String} {r : List V → Hp → VK → Prop} {x : Str} {gg : PyData → Option PyData} (hc : CallR X (.type T) r) (hg : Gl X x) (hm : X.mg x = none) (hv : bootBuiltins x = some (.type T)) (ha : DB X Ts e f)
    (k : ∀ d z v H O Q, gg d = some z → DpB X.K H O v d → Tb Ts H → (∀ b ∈ O, H b ≠ none ∧ ∀ ps, H b ≠ some (.tbl ps)) → (∀ u H', Xt H H' → Tb Ts H' → Dp X.K (hide H' O) u z → Q u H') → r [v] H Q)
    (hn : x ≠ "__name__" := by decide) (hdb : (x == ("__debug__" : Str)) = false := by decide) (he : starEach [e] X.env = (false, eval e X.env) :: starEach [] X.env := by rfl) :
    DE X Ts (.Call (.Name x p) [e] [] pos) (f1 gg f) := PE.imp (pe_callTy (t := tCons (tB X.K Ts f) tNil) hc hg hm hv (pa_cons ha pa_nil he) hn hdb he (by rfl)) fun σ H Q ⟨He, O, en, d, rp, hf, kk⟩ => by
  obtain ⟨x, h1, h2⟩ := f1_some hf
  exact tB.of rp h1 fun v H1 x1 r1 q1 => k x d v H1 O Q h2 q1 r1.tabs r1.occ fun u H' x t q => kk u H' (x1.trans x) t q
def gLen : PyData → Option PyData
  | .list ds => some (.int ds.length)
  | .tuple ds => some (.int ds.length)
  | _ => none
def fLen := f1 gLen
theorem d_len (hg : Gl X "len") (hm : X.mg "len" = none) (ha : DB X Ts e f) (he : starEach [e] X.env = (false, eval e X.env) :: starEach [] X.env := by rfl) : DE X Ts (.Call (.Name "len" p) [e] [] pos) (fLen f) :=
  b_arg1 call_len hg hm PySem.boot_len ha (he := he) fun d z v H O Q hz q t occ kk => by
    cases d with
    | list ds =>
      cases hz
      obtain ⟨a, vs, rfl, h1, h2⟩ := q.lst
      exact ⟨_, ds.length, rfl, .inl ⟨vs, h1, (DpAll.len h2).symm⟩, kk _ H (Xt.refl H) t (.int _)⟩
    | tuple ds =>
      cases hz
      obtain ⟨a, vs, rfl, h1, h2⟩ := q.tup
      exact ⟨_, ds.length, rfl, .inr ⟨vs, h1, (DpAll.len h2).symm⟩, kk _ H (Xt.refl H) t (.int _)⟩
    | _ => cases hz

/-! sums and extremes of ints -/
def rSumT (K : PySem.W.Frag) : List V → Hp → VK → Prop := fun vs H Q => ∃ (a : Addr) (ns : List Int), vs = [V.ref a] ∧ (SqL K H a (ns.map V.int) ∨ SqT K H a (ns.map V.int)) ∧ Q (.int ns.sum) H
theorem cr_sumT (hc : X.calm = true) : CallR X (.builtin "sum") (rSumT X.K) := by
  intro pins s σ H vs us Q I r h
  obtain ⟨a, ns, rfl, hs | hs, q⟩ := h
  · exact cr_sum hc pins s σ H _ us Q I r ⟨a, ns, rfl, hs, q⟩
  · obtain ⟨its, rv, ⟨o, ho, hcl, n, hd⟩, _⟩ := I.tuple hs
    rw [Vals.ref1 r]
    have hi : IntsAre its ns := rv.ints
    obtain ⟨xs, hx⟩ := hi.allInts.items
    have hn : numsOf its.toArray.toList = ns := by rw [show its.toArray.toList = its from rfl, hi.numsOf]
    rw [hx] at hd hn
    rw [nums_intItems] at hn
    refine PySem.W.ktm_sumG (I.ok.hd hc) ⟨o, ho, hcl, n, hd⟩ fun h' tk t' hk => ?_
    refine ⟨.int ns.sum, H, I.kept hk, ⟨t', ?_⟩, q⟩
    rw [preSum_eq, List.take_of_length_le (by simp), hn]
def gSum : PyData → Option PyData := fun d => (items d).bind fun ds => (intsOf ds).map fun ns => .int ns.sum
def fSum := f1 gSum
theorem gSum_some {d z : PyData} (h : gSum d = some z) : ∃ ns : List Int, (d = .list (ns.map .int) ∨ d = .tuple (ns.map .int)) ∧ z = .int ns.sum := by
  unfold gSum at h
  obtain ⟨ds, h1, h2⟩ := Option.bind_eq_some_iff.mp h
  obtain ⟨ns, h3, rfl⟩ := Option.map_eq_some_iff.mp h2
  have e := intsOf_some h3
  subst e
  cases d <;> simp only [items] at h1 <;> cases h1
  · exact ⟨ns, .inl rfl, rfl⟩
  · exact ⟨ns, .inr rfl, rfl⟩
theorem d_sum (hc : X.calm = true) (hg : Gl X "sum") (hm : X.mg "sum" = none) (hb : bootBuiltins "sum" = some (.builtin "sum")) (ha : DB X Ts e f) (he : starEach [e] X.env = (false, eval e X.env) :: starEach [] X.env := by rfl) : DE X Ts (.Call (.Name "sum" p) [e] [] pos) (fSum f) :=
  b_arg1 (cr_sumT hc) hg hm hb ha (he := he) fun d z v H O Q hz q t occ kk => by
    obtain ⟨ns, rfl | rfl, rfl⟩ := gSum_some hz
    · obtain ⟨a, vs, rfl, h1, h2⟩ := q.lst
      obtain rfl := DpAll.ints h2
      exact ⟨a, ns, rfl, .inl h1, kk _ H (Xt.refl H) t (.int _)⟩
    · obtain ⟨a, vs, rfl, h1, h2⟩ := q.tup
      obtain rfl := DpAll.ints h2
      exact ⟨a, ns, rfl, .inr h1, kk _ H (Xt.refl H) t (.int _)⟩
def maxL : List Int → Int
  | [] => 0
  | x :: r => r.foldl max x
theorem foldl_max : ∀ (r : List Int) (x : Int), (r.foldl max x ∈ x :: r) ∧ ∀ y ∈ x :: r, y ≤ r.foldl max x
  | [], x => ⟨by simp, fun y h => by simp at h; simp; omega⟩
  | z :: r, x => by
    obtain ⟨h1, h2⟩ := foldl_max r (max x z)
    refine ⟨?_, fun y hy => ?_⟩
    · show r.foldl max (max x z) ∈ _
      rcases List.mem_cons.mp h1 with e | e
      · rw [e]
        rcases Int.le_total x z with k | k
        · rw [Int.max_eq_right k]; simp
        · rw [Int.max_eq_left k]; simp
      · exact List.mem_cons_of_mem _ (List.mem_cons_of_mem _ e)
    · have h3 := h2 (max x z) List.mem_cons_self
      show y ≤ r.foldl max (max x z)
      rcases List.mem_cons.mp hy with e | e
      · subst e; have := Int.le_max_left y z; omega
      · rcases List.mem_cons.mp e with e | e
        · subst e; have := Int.le_max_right x y; omega
        · exact h2 y (List.mem_cons_of_mem _ e)
theorem maxL_spec {ns : List Int} (h : ns ≠ []) : maxL ns ∈ ns ∧ ∀ y ∈ ns, y ≤ maxL ns := by
  cases ns with
  | nil => exact absurd rfl h
  | cons x r => exact foldl_max r x
theorem maxL_eq {ns : List Int} {m : Int} (h1 : m ∈ ns) (h2 : ∀ y ∈ ns, y ≤ m) : m = maxL ns := by
  have hn : ns ≠ [] := fun e => by rw [e] at h1; cases h1
  obtain ⟨a, b⟩ := maxL_spec hn
  have := h2 _ a
  have := b _ h1
  omega
def gMaxL : PyData → Option PyData
  | .list ds => (intsOf ds).bind fun ns => if ns.isEmpty = true then none else some (.int (maxL ns))
  | _ => none
def fMaxL := f1 gMaxL
theorem d_maxL (hc : X.calm = true) (hg : Gl X "max") (hm : X.mg "max" = none) (hb : bootBuiltins "max" = some (.builtin "max")) (ha : DB X Ts e f) (he : starEach [e] X.env = (false, eval e X.env) :: starEach [] X.env := by rfl) : DE X Ts (.Call (.Name "max" p) [e] [] pos) (fMaxL f) :=
  b_arg1 (cr_max hc) hg hm hb ha (he := he) fun d z v H O Q hz q t occ kk => by
    cases d <;> simp only [gMaxL] at hz <;> try cases hz
    rename_i ds
    obtain ⟨ns, h1, h2⟩ := Option.bind_eq_some_iff.mp hz
    have e := intsOf_some h1
    subst e
    split at h2
    · cases h2
    · rename_i hn
      cases h2
      obtain ⟨a, vs, rfl, h1, h2⟩ := q.lst
      obtain rfl := DpAll.ints h2
      refine ⟨a, ns, rfl, h1, ?_, fun m hm1 hm2 => ?_⟩
      · cases ns with
        | nil => exact absurd rfl hn
        | cons x r => simp
      · rw [maxL_eq hm1 hm2]
        exact kk _ H (Xt.refl H) t (.int _)
/-- two arguments -/
theorem d_args2 {id : String} {r : List V → Hp → VK → Prop} {x : Str} {gg : PyData → PyData → Option PyData} (hc : CallR X (.builtin id) r) (hg : Gl X x) (hm : X.mg x = none) (hv : bootBuiltins x = some (.builtin id)) (ha : DE X Ts e f) (hb : DE X Ts e2 g)
    (k : ∀ d d' z v w H O Q, gg d d' = some z → Dp X.K (hide H O) v d → Dp X.K (hide H O) w d' → Tb Ts H → (∀ u H', Xt H H' → Tb Ts H' → Dp X.K (hide H' O) u z → Q u H') → r [v, w] H Q)
    (hn : x ≠ "__name__" := by decide) (hdb : (x == ("__debug__" : Str)) = false := by decide) (he : starEach [e, e2] X.env = (false, eval e X.env) :: starEach [e2] X.env := by rfl) (he2 : starEach [e2] X.env = (false, eval e2 X.env) :: starEach [] X.env := by rfl) (hpl : (backTo pos (starEach [e2] X.env)).any (·.1) = false := by rfl) :
    DE X Ts (.Call (.Name x p) [e, e2] [] pos) (f2 gg f g) := PE.imp (pe_callB (t := tCons (tD X.K Ts f) (tCons (tD X.K Ts g) tNil)) hc hg hm hv (pa_cons ha (pa_cons hb pa_nil he2) he) hn hdb he hpl) fun σ H Q ⟨He, O, en, d, rp, hf, kk⟩ => by
  obtain ⟨x, y, h1, h2, h3⟩ := f2_some hf
  exact tD.of rp h1 fun v H1 x1 r1 q1 => tD.of r1 h2 fun w H2 x2 r2 q2 => k x y d v w H2 O Q h3 (Dp.mono (hide_mono x2) q1) q2 r2.tabs fun u H' x3 t q => kk u H' (x1.trans (x2.trans x3)) t q
def fMax2 := f2 (gI fun i j => .int (if j > i then j else i))
def fMin2 := f2 (gI fun i j => .int (if j < i then j else i))
theorem d_max2 (hc : X.calm = true) (hg : Gl X "max") (hm : X.mg "max" = none) (hv : bootBuiltins "max" = some (.builtin "max")) (ha : DE X Ts e f) (hb : DE X Ts e2 g)
    (he : starEach [e, e2] X.env = (false, eval e X.env) :: starEach [e2] X.env := by rfl) (he2 : starEach [e2] X.env = (false, eval e2 X.env) :: starEach [] X.env := by rfl) (hpl : (backTo pos (starEach [e2] X.env)).any (·.1) = false := by rfl) :
    DE X Ts (.Call (.Name "max" p) [e, e2] [] pos) (fMax2 f g) := d_args2 (call_max2 hc) hg hm hv ha hb (he := he) (he2 := he2) (hpl := hpl) fun d d' z v w H O Q hz q1 q2 t kk => by
  cases q1 <;> cases q2 <;> simp only [gI] at hz <;> try cases hz
  exact ⟨_, _, rfl, kk _ H (Xt.refl H) t (.int _)⟩
theorem d_min2 (hc : X.calm = true) (hg : Gl X "min") (hm : X.mg "min" = none) (hv : bootBuiltins "min" = some (.builtin "min")) (ha : DE X Ts e f) (hb : DE X Ts e2 g)
    (he : starEach [e, e2] X.env = (false, eval e X.env) :: starEach [e2] X.env := by rfl) (he2 : starEach [e2] X.env = (false, eval e2 X.env) :: starEach [] X.env := by rfl) (hpl : (backTo pos (starEach [e2] X.env)).any (·.1) = false := by rfl) :
    DE X Ts (.Call (.Name "min" p) [e, e2] [] pos) (fMin2 f g) := d_args2 (call_min2 hc) hg hm hv ha hb (he := he) (he2 := he2) (hpl := hpl) fun d d' z v w H O Q hz q1 q2 t kk => by
  cases q1 <;> cases q2 <;> simp only [gI] at hz <;> try cases hz
  exact ⟨_, _, rfl, kk _ H (Xt.refl H) t (.int _)⟩
/-! tuple(x), abs, int -/
def gTuple : PyData → Option PyData := fun d => (items d).map .tuple
def fTuple := f1 gTuple
theorem d_tuple (hg : Gl X "tuple") (hm : X.mg "tuple" = none) (hv : bootBuiltins "tuple" = some (.type "tuple")) (ha : DB X Ts e f) (he : starEach [e] X.env = (false, eval e X.env) :: starEach [] X.env := by rfl) : DE X Ts (.Call (.Name "tuple" p) [e] [] pos) (fTuple f) :=
  b_argT call_tuple_of hg hm hv ha (he := he) fun d z v H O Q hz q t occ kk => by
    cases d <;> simp only [gTuple, items, Option.map_some, Option.map_none] at hz <;> try cases hz
    · obtain ⟨a, vs, rfl, h1, h2⟩ := q.lst
      exact ⟨a, vs, rfl, .inl ⟨h1, fun l nl => kk _ _ (Xt.upd nl) (t.new nl) (tup_new nl (new_out occ nl) h2)⟩⟩
    · rcases q with q | ⟨_, _, _, _, e, _⟩
      · cases q with
        | tup s a => exact ⟨_, _, rfl, .inr ⟨sqT_mono (fun o n e => (hide_some e).2) s, kk _ H (Xt.refl H) t (.tup s a)⟩⟩
      · cases e
def gAbs : PyData → Option PyData
  | .int i => some (.int (if i < 0 then -i else i))
  | _ => none
def fAbs := f1 gAbs
theorem d_abs (hg : Gl X "abs") (hm : X.mg "abs" = none) (hv : bootBuiltins "abs" = some (.builtin "abs")) (ha : DE X Ts e f) (he : starEach [e] X.env = (false, eval e X.env) :: starEach [] X.env := by rfl) : DE X Ts (.Call (.Name "abs" p) [e] [] pos) (fAbs f) :=
  b_arg1 call_abs hg hm hv (d_b ha) (he := he) fun d z v H O Q hz q t occ kk => by
    cases d <;> simp only [gAbs] at hz <;> try cases hz
    rcases q with q | ⟨_, _, _, _, e, _⟩
    · cases q
      exact ⟨_, rfl, kk _ H (Xt.refl H) t (.int _)⟩
    · cases e
def gInt : PyData → Option PyData
  | .int i => some (.int i)
  | .bool k => some (.int (if k then 1 else 0))
  | _ => none
def fInt := f1 gInt
theorem d_toInt (hg : Gl X "int") (hm : X.mg "int" = none) (hv : bootBuiltins "int" = some (.type "int")) (ha : DE X Ts e f) (he : starEach [e] X.env = (false, eval e X.env) :: starEach [] X.env := by rfl) : DE X Ts (.Call (.Name "int" p) [e] [] pos) (fInt f) :=
  b_argT call_int1 hg hm hv (d_b ha) (he := he) fun d z v H O Q hz q t occ kk => by
    cases d with
    | int i =>
      cases hz
      rcases q with q | ⟨_, _, _, _, e, _⟩
      · cases q
        exact .inl ⟨_, rfl, kk _ H (Xt.refl H) t (.int _)⟩
      · cases e
    | bool k =>
      cases hz
      rcases q with q | ⟨_, _, _, _, e, _⟩
      · cases q
        exact .inr ⟨_, rfl, kk _ H (Xt.refl H) t (.int _)⟩
      · cases e
    | _ => cases hz
/-! isinstance(x, T) -/
def pyTy : PyData → String
  | .none => "NoneType"
  | .bool _ => "bool"
  | .int _ => "int"
  | .str _ => "str"
  | .list _ => "list"
  | .tuple _ => "tuple"
  | .dict _ => "dict"
theorem tyX_of {K : PySem.W.Frag} {H : Hp} {v : V} {d : PyData} (h : Dp K H v d) : TyX K H v (.type (pyTy d)) := by
  cases h with
  | non => exact .base .non
  | bl b => exact .base (.bl b)
  | int i => exact .base (.int i)
  | str s => exact .base (.str s)
  | lst s a =>
    rcases s with (s | ⟨o, s⟩) | ⟨o, its, n, h1, h2, _⟩
    · exact .base (.lst s)
    · exact .base (.frz s)
    · exact .kList h1 h2
  | tup s a =>
    rcases s with (s | ⟨o, s⟩) | ⟨o, its, n, h1, h2, _⟩
    · exact .base (.tup s)
    · exact .fTuple s
    · exact .kTuple h1 h2
def fIsi (q : PyData → Bool) := f1 (fun d => some (.bool (q d)))
def isInt : PyData → Bool
  | .int _ => true
  | .bool _ => true
  | _ => false
def isBool : PyData → Bool
  | .bool _ => true
  | _ => false
def isTup : PyData → Bool
  | .tuple _ => true
  | _ => false
def isLst : PyData → Bool
  | .list _ => true
  | _ => false
def isStr : PyData → Bool
  | .str _ => true
  | _ => false
theorem isi_int : ∀ d, kitB (pyTy d) "int" = some (isInt d) := fun d => by cases d <;> (simp only [pyTy, isInt]; decide +kernel)
theorem isi_bool : ∀ d, kitB (pyTy d) "bool" = some (isBool d) := fun d => by cases d <;> (simp only [pyTy, isBool]; decide +kernel)
theorem isi_tuple : ∀ d, kitB (pyTy d) "tuple" = some (isTup d) := fun d => by cases d <;> (simp only [pyTy, isTup]; decide +kernel)
theorem isi_list : ∀ d, kitB (pyTy d) "list" = some (isLst d) := fun d => by cases d <;> (simp only [pyTy, isLst]; decide +kernel)
theorem isi_str : ∀ d, kitB (pyTy d) "str" = some (isStr d) := fun d => by cases d <;> (simp only [pyTy, isStr]; decide +kernel)
theorem d_isi {T : String} {x : Str} {q : PyData → Bool} {px : Pos} (hq : ∀ d, kitB (pyTy d) T = some (q d)) (hg : Gl X "isinstance") (hm : X.mg "isinstance" = none) (hv : bootBuiltins "isinstance" = some (.builtin "isinstance"))
    (hgT : Gl X x) (hmT : X.mg x = none) (hvT : bootBuiltins x = some (.type T)) (ha : DE X Ts e f) (hnT : x ≠ "__name__" := by decide) (hdT : (x == ("__debug__" : Str)) = false := by decide)
    (he : starEach [e, .Name x px] X.env = (false, eval e X.env) :: starEach [.Name x px] X.env := by rfl) (he2 : starEach [.Name x px] X.env = (false, eval (.Name x px) X.env) :: starEach [] X.env := by rfl) (hpl : (backTo pos (starEach [.Name x px] X.env)).any (·.1) = false := by rfl) :
    DE X Ts (.Call (.Name "isinstance" p) [e, .Name x px] [] pos) (fIsi q f) :=
  PE.imp (pe_callB (t := tCons (tD X.K Ts f) (tCons (tC (.ty T)) tNil)) call_isi hg hm hv (pa_cons ha (pa_cons (pe_bltn (v := .ty T) hgT hmT hvT rfl hnT hdT) pa_nil he2) he) (by decide) (by decide) he hpl) fun σ H Q ⟨He, O, en, d, rp, hf, kk⟩ => by
    obtain ⟨x, h1, h2⟩ := f1_some hf
    cases h2
    exact tD.of rp h1 fun v H1 x1 r1 q1 => ⟨v, .ty T, _, _, q x, rfl, .ty T, tyX_of (Dp.mono hide_out q1), kit_ty (hq x), kk _ H1 x1 r1.tabs (.bl _)⟩
/-! items and slices -/
def gIx : PyData → PyData → Option PyData := fun d i => match i with
  | .int i => (items d).bind fun ds => atI ds i
  | _ => none
def fIx := f2 gIx
theorem atI_dp {K : PySem.W.Frag} {H : Hp} {vs : List V} {ds : List PyData} {i : Int} {d : PyData} (h : DpAll K H vs ds) (e : atI ds i = some d) : ∃ v, atI vs i = some v ∧ Dp K H v d := by
  unfold atI at e ⊢
  rw [DpAll.len h]
  obtain ⟨j, h1, h2⟩ := Option.bind_eq_some_iff.mp e
  obtain ⟨v, h3, h4⟩ := DpAll.get' h h2
  exact ⟨v, by rw [h1]; exact h3, h4⟩
theorem b_ix (ha : DB X Ts e f) (hb : DE X Ts e2 g) (hs : PlainIx e2 := by exact fun _ _ => rfl) : DE X Ts (.Subscript e e2 pos) (fIx f g) := PE.imp (pe_ix ix_seq ha hb hs) fun σ H Q ⟨He, O, en, d, rp, hf, kk⟩ => by
  obtain ⟨x, y, h1, h2, h3⟩ := f2_some hf
  refine tB.of rp h1 fun v H1 x1 r1 q1 => tD.of r1 h2 fun w H2 x2 r2 q2 => ?_
  unfold gIx at h3
  cases q2 <;> try cases h3
  rename_i i
  obtain ⟨ds, h4, h5⟩ := Option.bind_eq_some_iff.mp h3
  cases x <;> simp only [items] at h4 <;> cases h4
  · obtain ⟨a, vs, rfl, s, qs⟩ := q1.lst
    obtain ⟨u, h6, h7⟩ := atI_dp qs h5
    exact .inl ⟨a, vs, i, u, rfl, rfl, sqL_mono (fun o n e => x2.get _ o e n) s, h6, kk u H2 (x1.trans x2) r2.tabs (Dp.mono (hide_mono x2) h7)⟩
  · obtain ⟨a, vs, rfl, s, qs⟩ := q1.tup
    obtain ⟨u, h6, h7⟩ := atI_dp qs h5
    exact .inr (.inl ⟨a, vs, i, u, rfl, rfl, sqT_mono (fun o n e => x2.get _ o e n) s, h6, kk u H2 (x1.trans x2) r2.tabs (Dp.mono (hide_mono x2) h7)⟩)
def cutD (ds : List PyData) (lo hi : Option Int) : List PyData := (ds.drop (HT.sIx ds.length 0 lo)).take (HT.sIx ds.length ds.length hi - HT.sIx ds.length 0 lo)
theorem cut_dp {K : PySem.W.Frag} {H : Hp} {vs : List V} {ds : List PyData} (h : DpAll K H vs ds) (lo hi : Option Int) : DpAll K H (cutV vs lo hi) (cutD ds lo hi) := by
  unfold cutV cutD
  rw [DpAll.len h]
  exact DpAll.take _ (DpAll.drop _ h)
theorem sl_seq : SlR X (fun x lo hi H Q => rSlA X.K x lo hi H Q ∨ rSlL X.K x lo hi H Q) := by
  intro pins s σ H x v vl vu lo hi sl Q I rx hs pl pu h
  rcases h with h | h
  · exact sl_tupA pins s σ H x v vl vu lo hi sl Q I rx hs pl pu h
  · exact sl_list pins s σ H x v vl vu lo hi sl Q I rx hs pl pu h
/-- a part of a slice -/
def fNoPart : En → Option (Option Int) := fun _ => some none
def fPart (f : En → Option PyData) : En → Option (Option Int) := fun en => match f en with
  | some (.int i) => some (some i)
  | _ => none
def tPO (K : PySem.W.Frag) (Ts : TsT) (f : En → Option (Option Int)) : TO := fun σ H Q => ∃ He O en o, Rep K Ts He O σ H en ∧ f en = some o ∧ ∀ H', Xt H H' → Tb Ts H' → Q o H'
abbrev DP (X : Cx) (Ts : TsT) (e : Option Expr) (f : En → Option (Option Int)) : Prop := PO X e (tPO X.K Ts f)
theorem dp_none : DP X Ts none fNoPart := ⟨fun pins s σ H Q I ⟨He, O, en, o, rp, hf, kk⟩ => by
  cases hf
  exact po_none.run pins s σ H Q I (kk H (Xt.refl H) rp.tabs)⟩
theorem dp_some (h : DE X Ts e f) : DP X Ts (some e) (fPart f) := ⟨fun pins s σ H Q I ⟨He, O, en, o, rp, hf, kk⟩ => by
  unfold fPart at hf
  split at hf
  · rename_i i e
    cases hf
    exact (po_some h).run pins s σ H Q I (tD.of rp e fun v H1 x1 r1 q1 => by cases q1; exact ⟨i, rfl, kk H1 x1 r1.tabs⟩)
  · cases hf⟩
def gCut : PyData → Option Int → Option Int → Option PyData
  | .list ds, lo, hi => some (.list (cutD ds lo hi))
  | .tuple ds, lo, hi => some (.tuple (cutD ds lo hi))
  | _, _, _ => none
def fCut (f : En → Option PyData) (l h : En → Option (Option Int)) : En → Option PyData := fun en => (f en).bind fun d => (l en).bind fun lo => (h en).bind fun hi => gCut d lo hi
theorem cutD_whole {ds : List PyData} {lo hi : Option Int} (h : HT.sIx ds.length 0 lo = 0 ∧ HT.sIx ds.length ds.length hi = ds.length) : cutD ds lo hi = ds := by
  unfold cutD
  rw [h.1, h.2]
  simp
theorem b_cut {lo hi : Option Expr} {fl fh : En → Option (Option Int)} {p2 : Pos} (ha : DB X Ts e f) (hl : DP X Ts lo fl) (hh : DP X Ts hi fh) : DE X Ts (.Subscript e (.Slice lo hi none p2) pos) (fCut f fl fh) := PE.imp (pe_slice sl_seq ha hl hh) fun σ H Q ⟨He, O, en, d, rp, hf, kk⟩ => by
  unfold fCut at hf
  obtain ⟨x, h1, hf1⟩ := Option.bind_eq_some_iff.mp hf
  obtain ⟨l, h2, hf2⟩ := Option.bind_eq_some_iff.mp hf1
  obtain ⟨u, h3, h4⟩ := Option.bind_eq_some_iff.mp hf2
  clear hf hf1 hf2
  refine tB.of rp h1 fun v H1 x1 r1 q1 => ⟨He, O, en, l, r1, h2, fun H2 x2 t2 => ⟨He, O, en, u, r1.go x2 t2, h3, fun H3 x3 t3 => ?_⟩⟩
  have r3 := (r1.go x2 t2).go x3 t3
  have x13 : Xt H1 H3 := x2.trans x3
  cases x <;> simp only [gCut] at h4 <;> cases h4
  · obtain ⟨a, vs, rfl, s, qs⟩ := q1.lst
    have qs3 := DpAll.mono (hide_mono (O := O) x13) qs
    exact .inr ⟨a, vs, rfl, sqL_mono (fun o n e => x13.get _ o e n) s, fun p np => kk _ _ (x1.trans (x13.trans (Xt.upd np))) (t3.new np) (lst_new np (new_out r3.occ np) (cut_dp qs3 l u))⟩
  · rename_i ds
    rcases q1 with q1 | ⟨_, _, _, _, e, _⟩
    · cases q1 with
      | tup s0 qs =>
        rename_i a vs
        have s := sqT_mono (H' := H1) (fun o n e => (hide_some e).2) s0
        have qs3 := DpAll.mono (hide_mono (O := O) x13) qs
        refine .inl ⟨a, vs, rfl, sqT_mono (fun o n e => x13.get _ o e n) s, fun hw => ?_, fun hw p np => kk _ _ (x1.trans (x13.trans (Xt.upd np))) (t3.new np) (tup_new np (new_out r3.occ np) (cut_dp qs3 l u))⟩
        rw [DpAll.len qs] at hw
        rw [cutD_whole hw] at kk
        exact kk _ H3 (x1.trans x13) t3 (Dp.mono (hide_mono x13) (.tup s0 qs))
    · cases e
/-! tuple + tuple -/
def gCat : PyData → PyData → Option PyData
  | .tuple xs, .tuple ys => if xs.length + ys.length ≤ 1000000 then some (.tuple (xs ++ ys)) else none
  | _, _ => none
def fCat := f2 gCat
theorem d_cat (ha : DE X Ts e f) (hb : DE X Ts e2 g) : DE X Ts (.BinOp e .Add e2 pos) (fCat f g) := PE.imp (pe_op op_catA ha hb) fun σ H Q ⟨He, O, en, d, rp, hf, kk⟩ => by
  obtain ⟨x, y, h1, h2, h3⟩ := f2_some hf
  refine tD.of rp h1 fun v H1 x1 r1 q1 => tD.of r1 h2 fun w H2 x2 r2 q2 => ?_
  have q1 := Dp.mono (hide_mono x2) q1
  cases x <;> cases y <;> simp only [gCat] at h3 <;> try cases h3
  split at h3
  · rename_i hl
    cases h3
    cases q1 with
    | tup s1 a1 =>
      cases q2 with
      | tup s2 a2 =>
        have l1 := DpAll.len a1
        have l2 := DpAll.len a2
        refine ⟨_, _, _, _, rfl, rfl, sqT_mono (fun o n e => (hide_some e).2) s1, sqT_mono (fun o n e => (hide_some e).2) s2, by rw [l1, l2, sizeLine_eq]; omega, fun e0 => ?_, fun _ e0 => ?_, fun _ _ p np => kk _ _ (x1.trans (x2.trans (Xt.upd np))) (r2.tabs.new np) (tup_new np (new_out r2.occ np) (DpAll.app a1 a2))⟩
        · subst e0
          cases a1
          exact kk _ H2 (x1.trans x2) r2.tabs (.tup s2 a2)
        · subst e0
          cases a2
          rw [List.append_nil] at kk
          exact kk _ H2 (x1.trans x2) r2.tabs (.tup s1 a1)
  · cases h3
/-! in a list of data -/
def gIn : PyData → PyData → Option PyData
  | x, .list ds => if (SeqAt.shaped x && SeqAt.shaped (.list ds)) = true then some (.bool (ds.any fun z => PyData.eqv z x)) else none
  | _, _ => none
def fIn := f2 gIn
theorem w_in {K : PySem.W.Frag} {fa fb : En → Option PyData} : ∀ σ H Q, tD K Ts (fIn fa fb) σ H Q → tOp (rInD K) (tD K Ts fa) (tD K Ts fb) σ H Q :=
  w_2 fun x y v w d H O Q hg q1 q2 ht _ kk => by
    cases y <;> simp only [gIn] at hg <;> try cases hg
    split at hg
    · rename_i hs
      rw [Bool.and_eq_true] at hs
      cases hg
      exact ⟨x, _, Dp.mono hide_out q1, Dp.mono hide_out q2, hs.1, hs.2, kk _ H (Xt.refl H) ht (.bl _)⟩
    · cases hg
theorem d_in {k : Nat} (hr : Room k X.A) (ha : DE X Ts e f) (hb : DE X Ts e2 g) (hm : behindInMarks .In e2 = false := by rfl) : DE X Ts (.Compare e [.In] [e2] pos) (fIn f g) := PE.imp (pe_cmpR (op_inD (by have := hr.units; have := hr.un; omega)) ha hb hm) w_in
theorem dt_in {k : Nat} (hr : Room k X.A) (ha : DE X Ts e f) (hb : DE X Ts e2 g) (hm : behindInMarks .In e2 = false := by rfl) : DT X Ts (.Compare e [.In] [e2] pos) (fT (fIn f g)) := dt_of (pt_cmpR (op_inD (by have := hr.units; have := hr.un; omega)) ha hb hm) w_in
/-! gcd -/
def fGcd := f2 (gI fun i j => .int ((Nat.gcd i.natAbs j.natAbs : Nat) : Int))
end
end DN
set_option Elab.async false
set_option linter.all false
set_option maxRecDepth 100000
set_option maxHeartbeats 4000000
namespace DN
open PySem PySem.Spec PyProof.Rows L2

/-! ### targets -/
/-- what a target makes of the slots; vs: the slots that it writes -/
def gD (K : PySem.W.Frag) (Ts : TsT) (vs : List Nat) (b : PyData → En → Option En) : TG := fun x σ H Q => ∃ He O en d en', Rep K Ts He O σ H en ∧ Dp K (hide H O) x d ∧ b d en = some en' ∧ ∀ σ', Rep K Ts He O σ' H en' → wipe σ' vs = wipe σ vs → Q σ' H
abbrev DG (X : Cx) (Ts : TsT) (tg : Expr) (vs : List Nat) (b : PyData → En → Option En) : Prop := PG X tg (gD X.K Ts vs b)
theorem PG.imp {X : Cx} {tg : Expr} {g g' : TG} (h : PG X tg g) (w : ∀ x σ H Q, g' x σ H Q → g x σ H Q) : PG X tg g' := ⟨fun pins s σ H v u Q I r q => h.run pins s σ H v u Q I r (w v σ H Q q)⟩
def bName (i : Nat) : PyData → En → Option En := fun d en => if i < en.length then some (en.set i (.dat d)) else none
theorem Rep.setD {K : PySem.W.Frag} {Ts : TsT} {He : Hp} {O : List Addr} {σ : St} {H : Hp} {en : En} (r : Rep K Ts He O σ H en) {i : Nat} {x : V} {d : PyData} (hi : i < en.length) (q : Dp K (hide H O) x d) : Rep K Ts He O (σ.set i (some x)) H (en.set i (.dat d)) := by
  have hs : i < σ.length := by rw [← r.len]; exact hi
  refine ⟨by simp [r.len], fun j e h => ?_, fun j ds h => ?_, fun j k ds es a h1 h2 h3 h4 => ?_, r.occ, r.ext, r.tabs⟩
  · by_cases hj : i = j
    · subst hj
      rw [List.getElem?_set_self hi] at h
      cases h
      exact ⟨x, by rw [List.getElem?_set_self hs], q⟩
    · rw [List.getElem?_set_ne hj] at h
      obtain ⟨v, a, b⟩ := r.dat j e h
      exact ⟨v, by rw [List.getElem?_set_ne hj]; exact a, b⟩
  · by_cases hj : i = j
    · subst hj
      rw [List.getElem?_set_self hi] at h
      cases h
    · rw [List.getElem?_set_ne hj] at h
      obtain ⟨a, vs, h1, h2⟩ := r.own j ds h
      exact ⟨a, vs, by rw [List.getElem?_set_ne hj]; exact h1, h2⟩
  · have hj : i ≠ j := fun e => by subst e; rw [List.getElem?_set_self hi] at h1; cases h1
    have hk : i ≠ k := fun e => by subst e; rw [List.getElem?_set_self hi] at h2; cases h2
    rw [List.getElem?_set_ne hj] at h1 h3
    rw [List.getElem?_set_ne hk] at h2 h4
    exact r.inj j k ds es a h1 h2 h3 h4
theorem wipe_comm (σ : St) (i : Nat) (y : Option V) : ∀ vs : List Nat, i ∈ vs → wipe (σ.set i y) vs = wipe σ vs
  | [], h => by cases h
  | v :: vs, h => by
    unfold wipe
    by_cases hv : i ∈ vs
    · rw [wipe_comm σ i y vs hv]
    · have hvi : i = v := by
        rcases List.mem_cons.mp h with e | e
        · exact e
        · exact absurd e hv
      subst hvi
      have key : ∀ us : List Nat, i ∉ us → wipe (σ.set i y) us = (wipe σ us).set i y := by
        intro us
        induction us with
        | nil => intro _; rfl
        | cons u us ih =>
          intro hn
          have h1 : i ≠ u := fun e => hn (by rw [e]; exact List.mem_cons_self)
          have h2 : i ∉ us := fun e => hn (List.mem_cons_of_mem _ e)
          show (wipe (σ.set i y) us).set u none = ((wipe σ us).set u none).set i y
          rw [ih h2, List.set_comm _ _ h1]
      rw [key vs hv, List.set_set]
theorem wipe_in {σ : St} {i : Nat} : ∀ {vs : List Nat}, i ∈ vs → i < σ.length → (wipe σ vs)[i]? = some none
  | v :: vs, h, hl => by
    unfold wipe
    by_cases hv : v = i
    · subst hv
      rw [List.getElem?_set_self (by rw [wipe_length]; exact hl)]
    · rw [List.getElem?_set_ne hv]
      rcases List.mem_cons.mp h with e | e
      · exact absurd e.symm hv
      · exact wipe_in e hl
theorem wipe_wipe (σ : St) (vs : List Nat) : wipe (wipe σ vs) vs = wipe σ vs := by
  apply List.ext_getElem?
  intro i
  by_cases h : i ∈ vs
  · by_cases hl : i < σ.length
    · rw [wipe_in h (by rw [wipe_length]; exact hl), wipe_in h hl]
    · rw [List.getElem?_eq_none (by rw [wipe_length, wipe_length]; omega), List.getElem?_eq_none (by rw [wipe_length]; omega)]
  · rw [wipe_out h]
section
variable {X : Cx} {Ts : TsT} {pos : Pos}
theorem dg_name (i : Nat) {x : Str} {vs : List Nat} (hN : X.N.Nodup) (hi : X.N[i]? = some x) (hx : Loc X.env.scope x) (hv : i ∈ vs) (hf : X.fn x = true ∨ X.env.scope.names.lookup x = some .local := by first | exact .inl rfl | exact .inr rfl | assumption) : DG X Ts (.Name x pos) vs (bName i) :=
  PG.imp (pg_name hN hi hx hf) fun v σ H Q ⟨He, O, en, d, en', r, q, hb, kk⟩ => by
    unfold bName at hb
    split at hb
    · rename_i hl
      cases hb
      exact kk _ (r.setD hl q) (wipe_comm σ i _ vs hv)
    · cases hb
/-- several names -/
def bNames : List Nat → List PyData → En → Option En
  | [], [], en => some en
  | i :: is, d :: ds, en => (bName i d en).bind fun e => bNames is ds e
  | _, _, _ => none
def gDs (K : PySem.W.Frag) (Ts : TsT) (vs : List Nat) (is : List Nat) : TGs := fun xs σ H Q => ∃ He O en ds en', Rep K Ts He O σ H en ∧ DpAll K (hide H O) xs ds ∧ bNames is ds en = some en' ∧ ∀ σ', Rep K Ts He O σ' H en' → wipe σ' vs = wipe σ vs → Q σ' H
theorem dgs_nil {vs : List Nat} : PGs X [] (gDs X.K Ts vs []) := ⟨fun pins s σ H xs us Q I r ⟨He, O, en, ds, en', rp, q, hb, kk⟩ => by
  cases q with
  | nil =>
    cases hb
    exact pgs_nil.run pins s σ H _ us Q I r ⟨rfl, kk σ rp rfl⟩
  | cons _ _ => cases hb⟩
theorem dgs_cons {e : Expr} {es : List Expr} {vs is : List Nat} {i : Nat} (h1 : DG X Ts e vs (bName i)) (h2 : PGs X es (gDs X.K Ts vs is)) (hs : (assignEach (e :: es) X.env).map (·.2) = assign e X.env :: (assignEach es X.env).map (·.2) := by rfl) : PGs X (e :: es) (gDs X.K Ts vs (i :: is)) :=
  ⟨fun pins s σ H xs us Q I r ⟨He, O, en, ds, en', rp, q, hb, kk⟩ => by
    cases q with
    | nil => cases hb
    | cons qd qt =>
      obtain ⟨e1, hb1, hb2⟩ := Option.bind_eq_some_iff.mp hb
      exact (pgs_cons h1 h2 hs).run pins s σ H _ us Q I r ⟨_, _, rfl, He, O, en, _, e1, rp, qd, hb1, fun σ' r' w' => ⟨He, O, e1, _, en', r', qt, hb2, fun σ2 r2 w2 => kk σ2 r2 (w2.trans w')⟩⟩⟩
def bTup (is : List Nat) : PyData → En → Option En := fun d en => match d with
  | .tuple ds => bNames is ds en
  | _ => none
theorem bNames_len : ∀ {is : List Nat} {ds : List PyData} {en en' : En}, bNames is ds en = some en' → ds.length = is.length
  | [], [], _, _, _ => rfl
  | i :: is, d :: ds, en, en', h => by
    obtain ⟨e1, _, h2⟩ := Option.bind_eq_some_iff.mp h
    rw [List.length_cons, List.length_cons, bNames_len h2]
  | [], _ :: _, _, _, h => by cases h
  | _ :: _, [], _, _, h => by cases h
theorem dg_tup {es : List Expr} {k : Nat} {vs is : List Nat} (hc : X.calm = true) (h : PGs X es (gDs X.K Ts vs is)) (hn : (assignEach es X.env).length = is.length := by rfl) (hst : (assignEach es X.env).findIdx? (·.1) = none := by rfl) : DG X Ts (.Tuple es k pos) vs (bTup is) :=
  PG.imp (pg_tup hc h hn hst) fun v σ H Q ⟨He, O, en, d, en', r, q, hb, kk⟩ => by
    cases d <;> try cases hb
    rename_i ds
    cases q with
    | tup s a =>
      exact ⟨_, _, rfl, sqT_mono (fun o n e => (hide_some e).2) s, by rw [DpAll.len a]; exact bNames_len hb, He, O, en, ds, en', r, a, hb, kk⟩

/-! ### what is walked -/
/-- J gives the data ds, whatever else happens to the hidden part of the heap -/
def Gives (K : PySem.W.Frag) (Ts : TsT) (J : It) (ds : List PyData) (H1 : Hp) (O : List Addr) : Prop :=
  ∀ O' H2, Xt (hide H1 O) (hide H2 O') → Xt (hide H1 O) H2 → (∀ b ∈ O', H2 b ≠ none ∧ ∀ ps, H2 b ≠ some (.tbl ps)) → (∀ i, i < ds.length → J.go i H2) ∧ J.stop ds.length H2 ∧
    ∀ i x H3, i < ds.length → J.yld i H2 x H3 → ∃ d, ds[i]? = some d ∧ Xt H2 H3 ∧ (Tb Ts H2 → Tb Ts H3) ∧ Dp K (hide H3 O') x d
def tI (K : PySem.W.Frag) (Ts : TsT) (f : En → Option (List PyData)) : TI := fun σ H R => ∃ He O en ds, Rep K Ts He O σ H en ∧ f en = some ds ∧ ∀ J H1, Xt H H1 → Tb Ts H1 → Gives K Ts J ds H1 O → R J H1
abbrev DI (X : Cx) (Ts : TsT) (tg iter : Expr) (f : En → Option (List PyData)) : Prop := PI X tg iter (tI X.K Ts f)
theorem PI.imp {X : Cx} {tg iter : Expr} {t t' : TI} (h : PI X tg iter t) (w : ∀ σ H R, t' σ H R → t σ H R) : PI X tg iter t' := ⟨fun pins s σ H R I q => h.run pins s σ H R I (w σ H R q)⟩
def iList (f : En → Option PyData) : En → Option (List PyData) := fun en => match f en with
  | some (.list ds) => some ds
  | _ => none
def iTup (f : En → Option PyData) : En → Option (List PyData) := fun en => match f en with
  | some (.tuple ds) => some ds
  | _ => none
variable {tg e e2 : Expr} {f f2 : En → Option PyData}
theorem di_list (h : DE X Ts e f) : DI X Ts tg e (iList f) := PI.imp (pi_list h) fun σ H R ⟨He, O, en, ds, rp, hf, kk⟩ => by
  unfold iList at hf
  split at hf
  · rename_i es e
    cases hf
    refine tD.of rp e fun v H1 x1 r1 q1 => ?_
    cases q1 with
    | lst s a =>
      rename_i l vs
      refine ⟨l, rfl, ⟨vs, sqL_mono (fun o n e => (hide_some e).2) s⟩, kk _ H1 x1 r1.tabs fun O' H2 h1 h2 occ => ?_⟩
      have s2 : SqL X.K H2 l vs := sqL_mono (fun o n e => h2.get _ o e n) s
      have a2 := DpAll.mono h1 a
      have hl := DpAll.len a
      refine ⟨fun i hi => ⟨vs, vs[i]'(by omega), s2, by simp [hl, hi]⟩, ⟨vs, s2, by omega⟩, fun i x H3 hi hy => ?_⟩
      obtain ⟨rfl, hx⟩ := hy
      obtain ⟨d, hd1, hd2⟩ := DpAll.get a2 (hx vs s2)
      exact ⟨d, hd1, Xt.refl _, id, hd2⟩
  · cases hf
theorem di_tup (h : DE X Ts e f) : DI X Ts tg e (iTup f) := PI.imp (pi_tup h) fun σ H R ⟨He, O, en, ds, rp, hf, kk⟩ => by
  unfold iTup at hf
  split at hf
  · rename_i es e
    cases hf
    refine tD.of rp e fun v H1 x1 r1 q1 => ?_
    cases q1 with
    | tup s a =>
      rename_i l vs
      refine ⟨l, rfl, ⟨vs, sqT_mono (fun o n e => (hide_some e).2) s⟩, kk _ H1 x1 r1.tabs fun O' H2 h1 h2 occ => ?_⟩
      have s2 : SqT X.K H2 l vs := sqT_mono (fun o n e => h2.get _ o e n) s
      have a2 := DpAll.mono h1 a
      have hl := DpAll.len a
      refine ⟨fun i hi => ⟨vs, vs[i]'(by omega), s2, by simp [hl, hi]⟩, ⟨vs, s2, by omega⟩, fun i x H3 hi hy => ?_⟩
      obtain ⟨rfl, hx⟩ := hy
      obtain ⟨d, hd1, hd2⟩ := DpAll.get a2 (hx vs s2)
      exact ⟨d, hd1, Xt.refl _, id, hd2⟩
  · cases hf
def rangeD (lo : Int) (n : Nat) : List PyData := (List.range n).map fun (i : Nat) => PyData.int (lo + (i : Int))
def iRange1 (f : En → Option PyData) : En → Option (List PyData) := fun en => match f en with
  | some (.int j) => if -1000000 ≤ j ∧ j ≤ 1000000 then some (rangeD 0 j.toNat) else none
  | _ => none
def iRange2 (f g : En → Option PyData) : En → Option (List PyData) := fun en => (f en).bind fun x => (g en).bind fun y => match x, y with
  | .int i, .int j => if -1000000 ≤ i ∧ i ≤ 1000000 ∧ -1000000 ≤ j ∧ j ≤ 1000000 then some (rangeD i (j - i).toNat) else none
  | _, _ => none
theorem gives_range {K : PySem.W.Frag} {lo : Int} {n : Nat} {H1 : Hp} {O : List Addr} : Gives K Ts (Itr lo n) (rangeD lo n) H1 O := fun O' H2 _ _ _ => by
  have hl : (rangeD lo n).length = n := by simp [rangeD]
  refine ⟨fun i hi => by rw [hl] at hi; exact hi, by rw [hl]; exact Nat.le_refl _, fun i x H3 hi hy => ?_⟩
  obtain ⟨rfl, rfl⟩ := hy
  rw [hl] at hi
  exact ⟨.int (lo + i), by simp [rangeD, hi], Xt.refl _, id, .int _⟩
theorem di_range1 {p pos : Pos} (hg : Gl X "range") (hm : X.mg "range" = none) (ha : DE X Ts e f) (hs : starEach [e] X.env = [(false, eval e X.env)] := by rfl) : DI X Ts tg (.Call (.Name "range" p) [e] [] pos) (iRange1 f) :=
  PI.imp (pi_range1 (ta := tCons (tD X.K Ts f) tNil) hg hm (pa_cons ha pa_nil hs) hs) fun σ H R ⟨He, O, en, ds, rp, hf, kk⟩ => by
    unfold iRange1 at hf
    split at hf
    · rename_i j e
      split at hf
      · rename_i hj
        cases hf
        refine tD.of rp e fun v H1 x1 r1 q1 => ?_
        cases q1
        exact ⟨j, rfl, by omega, by omega, kk _ H1 x1 r1.tabs gives_range⟩
      · cases hf
    · cases hf
theorem di_range2 {p pos : Pos} (hg : Gl X "range") (hm : X.mg "range" = none) (ha : DE X Ts e f) (hb : DE X Ts e2 f2) (hs : starEach [e, e2] X.env = [(false, eval e X.env), (false, eval e2 X.env)] := by rfl) (hs2 : starEach [e2] X.env = [(false, eval e2 X.env)] := by rfl) : DI X Ts tg (.Call (.Name "range" p) [e, e2] [] pos) (iRange2 f f2) :=
  PI.imp (pi_range2 (ta := tCons (tD X.K Ts f) (tCons (tD X.K Ts f2) tNil)) hg hm (pa_cons ha (pa_cons hb pa_nil hs2) (by rw [hs, hs2])) hs hs2) fun σ H R ⟨He, O, en, ds, rp, hf, kk⟩ => by
    unfold iRange2 at hf
    obtain ⟨x, h1, hf1⟩ := Option.bind_eq_some_iff.mp hf
    obtain ⟨y, h2, hf2⟩ := Option.bind_eq_some_iff.mp hf1
    clear hf hf1
    split at hf2
    · rename_i i j
      split at hf2
      · rename_i hj
        cases hf2
        refine tD.of rp h1 fun v H1 x1 r1 q1 => tD.of r1 h2 fun w H2 x2 r2 q2 => ?_
        cases q1
        cases q2
        exact ⟨i, j, rfl, ⟨by omega, by omega, by omega, by omega⟩, kk _ H2 (x1.trans x2) r2.tabs gives_range⟩
      · cases hf2
    · cases hf2

/-! ### comprehensions -/
/-- the slots of the block's own names forgotten -/
def wipeE (en : En) : List Nat → En
  | [] => en
  | v :: vs => (wipeE en vs).set v .no
theorem Rep.wipe {K : PySem.W.Frag} {He : Hp} {O : List Addr} {σ : St} {H : Hp} {en : En} (r : Rep K Ts He O σ H en) : ∀ vs : List Nat, Rep K Ts He O (L2.wipe σ vs) H (wipeE en vs)
  | [] => r
  | v :: vs => by
    have ih := Rep.wipe r vs
    show Rep K Ts He O ((L2.wipe σ vs).set v none) H ((wipeE en vs).set v .no)
    refine ⟨by simp [ih.len], fun j e h => ?_, fun j ds h => ?_, fun j k ds es a h1 h2 h3 h4 => ?_, ih.occ, ih.ext, ih.tabs⟩
    · have hj : v ≠ j := fun z => by
        subst z
        by_cases hl : v < (wipeE en vs).length
        · rw [List.getElem?_set_self hl] at h; cases h
        · rw [List.getElem?_eq_none (by simpa using hl)] at h; cases h
      rw [List.getElem?_set_ne hj] at h ⊢
      exact ih.dat j e h
    · have hj : v ≠ j := fun z => by
        subst z
        by_cases hl : v < (wipeE en vs).length
        · rw [List.getElem?_set_self hl] at h; cases h
        · rw [List.getElem?_eq_none (by simpa using hl)] at h; cases h
      rw [List.getElem?_set_ne hj] at h ⊢
      exact ih.own j ds h
    · have hno : ∀ i ds, ((wipeE en vs).set v Slot.no)[i]? = some (Slot.own ds) → v ≠ i := fun i ds h z => by
        subst z
        by_cases hl : v < (wipeE en vs).length
        · rw [List.getElem?_set_self hl] at h; cases h
        · rw [List.getElem?_eq_none (by simpa using hl)] at h; cases h
      have hj := hno j ds h1
      have hk := hno k es h2
      rw [List.getElem?_set_ne hj] at h1 h3
      rw [List.getElem?_set_ne hk] at h2 h4
      exact ih.inj j k ds es a h1 h2 h3 h4
/-- the turns of a comprehension -/
def lcGo (b : PyData → En → Option En) (t : En → Option Bool) (f : En → Option PyData) (en : En) : List PyData → Option (List PyData)
  | [] => some []
  | d :: r => (b d en).bind fun e1 => (t e1).bind fun k => if k = true then (f e1).bind fun y => (lcGo b t f en r).map (y :: ·) else lcGo b t f en r
def fLc (it : En → Option (List PyData)) (b : PyData → En → Option En) (t : En → Option Bool) (f : En → Option PyData) (vs : List Nat) : En → Option PyData := fun en => (it en).bind fun ds =>
  if ds.length ≤ 1000000 then (lcGo b t f (wipeE en vs) ds).map .list else none
def kYes : En → Option Bool := fun _ => some true
theorem dts_nil : PTs X [] (tT X.K Ts kYes) := ⟨fun pins s σ H Q I ⟨He, O, en, b, rp, hf, kk⟩ => by
  cases hf
  exact pts_nil.run pins s σ H Q I (kk H (Xt.refl H) rp.tabs)⟩
theorem dts_one {c : Expr} {t : En → Option Bool} (h : DT X Ts c t) : PTs X [c] (tT X.K Ts t) := pts_one h
/-- a new list: at a place that was free -/
def tNew (K : PySem.W.Frag) (Ts : TsT) (f : En → Option PyData) : TE := fun σ H Q => ∃ He O en ds, Rep K Ts He O σ H en ∧ f en = some (.list ds) ∧ ∀ a vs H', Xt H H' → Tb Ts H' → H a = none → H' a = some (.lst vs) → DpAll K (hide H' (a :: O)) vs ds → Q (.ref a) H'
abbrev DNew (X : Cx) (Ts : TsT) (e : Expr) (f : En → Option PyData) : Prop := PE X e (tNew X.K Ts f)
theorem Rep.free {K : PySem.W.Frag} {He : Hp} {O : List Addr} {σ : St} {H : Hp} {en : En} (r : Rep K Ts He O σ H en) {a : Addr} (h : H a = none) : a ∉ O := fun z => (r.occ a z).1 h
theorem new_w {K : PySem.W.Frag} {f : En → Option PyData} {σ : St} {H : Hp} {Q : VK} (h : tD K Ts f σ H Q) (hl : ∀ en d, f en = some d → ∃ ds, d = .list ds) : tNew K Ts f σ H Q := by
  obtain ⟨He, O, en, d, rp, hf, kk⟩ := h
  obtain ⟨ds, rfl⟩ := hl en d hf
  exact ⟨He, O, en, ds, rp, hf, fun a vs H' x t na ha q => kk _ H' x t (.lst (.inl (.inl (hide_of (rp.free na) ha))) (DpAll.mono (hide_sub fun b hb => List.mem_cons_of_mem _ hb) q))⟩
theorem fLc_list {it : En → Option (List PyData)} {b : PyData → En → Option En} {t : En → Option Bool} {f : En → Option PyData} {vs : List Nat} : ∀ en d, fLc it b t f vs en = some d → ∃ ds, d = .list ds := fun en d h => by
  unfold fLc at h
  obtain ⟨ds, _, h⟩ := Option.bind_eq_some_iff.mp h
  split at h
  · obtain ⟨out, _, rfl⟩ := Option.map_eq_some_iff.mp h
    exact ⟨out, rfl⟩
  · cases h
/-- from the turns' data to HandS's reading -/
theorem lc_w {K : PySem.W.Frag} {it : En → Option (List PyData)} {b : PyData → En → Option En} {t : En → Option Bool} {f : En → Option PyData} {vs : List Nat} {σ : St} {H : Hp} {Q : VK} (h : tNew K Ts (fLc it b t f vs) σ H Q) :
    tLc (tI K Ts it) (gD K Ts vs b) (tT K Ts t) (tD K Ts f) vs σ H Q := by
  obtain ⟨He, O, en, out, rp, hf, kk⟩ := h
  unfold fLc at hf
  obtain ⟨ds, h1, hf1⟩ := Option.bind_eq_some_iff.mp hf
  clear hf
  split at hf1
  · rename_i hlen
    obtain ⟨out', h2, h3⟩ := Option.map_eq_some_iff.mp hf1
    cases h3
    refine ⟨He, O, en, ds, rp, h1, fun J H1 x1 t1 gv D nD => ?_⟩
    have nDH : H D = none := x1.there nD
    have r1 := rp.go x1 t1
    have rD : Rep K Ts He (D :: O) σ (upd H1 D (.lst [])) en := r1.hid nD (fun _ z => nomatch z)
    -- the state of the block between two turns
    refine ⟨fun i m H2 => m = ds.length - i ∧ i ≤ ds.length ∧ Xt H1 H2 ∧ Rep K Ts He (D :: O) (L2.wipe σ vs) H2 (wipeE en vs) ∧ ∃ acc done rest, H2 D = some (.lst acc) ∧ DpAll K (hide H2 (D :: O)) acc done ∧ acc.length ≤ i ∧ lcGo b t f (wipeE en vs) (ds.drop i) = some rest ∧ out = done ++ rest,
      ⟨ds.length, by simp, Nat.zero_le _, Xt.upd nD, rD.wipe vs, [], [], out, upd_same, .nil, Nat.zero_le _, by simpa using h2, rfl⟩, fun i m H2 hW => ?_⟩
    obtain ⟨rfl, hi, x12, r2, acc, done, rest, hD, ha, hal, hgo, hout⟩ := hW
    have xh : Xt (hide H1 O) (hide H2 (D :: O)) := fun b o e => by
      obtain ⟨e1, e2⟩ := hide_some e
      have nb : b ∉ D :: O := fun z => by
        rcases List.mem_cons.mp z with z | z
        · rw [z, nD] at e2; cases e2
        · exact e1 z
      rcases x12 b o e2 with q | ⟨ps, qs, e3, q⟩
      · exact .inl (hide_of nb q)
      · exact .inr ⟨ps, qs, e3, hide_of nb q⟩
    obtain ⟨g1, g2, g3⟩ := gv (D :: O) H2 xh (hide_out.trans x12) r2.occ
    by_cases hlt : i < ds.length
    · refine .inr ⟨g1 i hlt, fun H' => Xt H1 H' ∧ Rep K Ts He (D :: O) (L2.wipe σ vs) H' (wipeE en vs) ∧ ∃ acc done rest, H' D = some (.lst acc) ∧ DpAll K (hide H' (D :: O)) acc done ∧ acc.length ≤ i + 1 ∧ lcGo b t f (wipeE en vs) (ds.drop (i + 1)) = some rest ∧ out = done ++ rest,
        fun H' ⟨a, c⟩ => ⟨ds.length - (i + 1), by omega, rfl, hlt, a, c⟩, fun x H3 hy => ?_⟩
      obtain ⟨d, hd, x23, t23, qd⟩ := g3 i x H3 hlt hy
      have r3 := r2.go x23 (t23 r2.tabs)
      rw [List.drop_eq_getElem_cons hlt] at hgo
      have hd' : ds[i] = d := by rw [List.getElem?_eq_getElem hlt] at hd; exact Option.some.inj hd
      rw [hd'] at hgo
      unfold lcGo at hgo
      obtain ⟨e1, hb, hgo1⟩ := Option.bind_eq_some_iff.mp hgo
      obtain ⟨k, ht, hgo2⟩ := Option.bind_eq_some_iff.mp hgo1
      clear hgo hgo1
      refine ⟨He, D :: O, _, d, e1, r3, qd, hb, fun σ2 r4 hw => ⟨hw.trans (wipe_wipe _ _), ?_⟩⟩
      refine tT.of r4 ht fun H4 x34 r5 => ?_
      have x14 : Xt H2 H4 := x23.trans x34
      have hD4 : H4 D = some (.lst acc) := x14.get D _ hD (fun _ z => nomatch z)
      have ha4 := DpAll.mono (hide_mono (O := D :: O) x14) ha
      have rw4 : Rep K Ts He (D :: O) (L2.wipe σ vs) H4 (wipeE en vs) := r2.go x14 r5.tabs
      cases k with
      | false =>
        simp only [Bool.false_eq_true, if_false] at hgo2 ⊢
        exact ⟨x12.trans x14, rw4, acc, done, rest, hD4, ha4, by omega, hgo2, hout⟩
      | true =>
        simp only [if_true] at hgo2 ⊢
        obtain ⟨y, hy1, hgo3⟩ := Option.bind_eq_some_iff.mp hgo2
        obtain ⟨rest', hr1, hr2⟩ := Option.map_eq_some_iff.mp hgo3
        subst hr2
        refine tD.of r5 hy1 fun v H5 x45 r6 q6 => ?_
        have x25 : Xt H2 H5 := x14.trans x45
        have hD5 : H5 D = some (.lst acc) := x25.get D _ hD (fun _ z => nomatch z)
        have ha5 := DpAll.mono (hide_mono (O := D :: O) x25) ha
        have hDm : D ∈ D :: O := List.mem_cons_self
        have hu : Xt (hide H5 (D :: O)) (hide (upd H5 D (.lst (acc ++ [v]))) (D :: O)) := hide_upd hDm
        refine ⟨acc, hD5, by rw [sizeLine_eq]; omega, ?_, ?_, acc ++ [v], done ++ [y], rest', upd_same, DpAll.app (DpAll.mono hu ha5) (.cons (Dp.mono hu q6) .nil), by rw [List.length_append]; simp; omega, hr1, by rw [hout]; simp⟩
        · intro b o e
          have hne : b ≠ D := ne_of_none e nD
          rw [upd_ne hne]
          exact (x12.trans x25) b o e
        · have rw5 : Rep K Ts He (D :: O) (L2.wipe σ vs) H5 (wipeE en vs) := r2.go x25 r6.tabs
          have nown : ∀ j es a, (wipeE en vs)[j]? = some (Slot.own es) → (L2.wipe σ vs)[j]? = some (some (V.ref a)) → a ≠ D := fun j es a h1 h2 z => by
            obtain ⟨a', vs', g1, g2, g3, g4, _⟩ := (r1.wipe vs).own j es h1
            rw [h2] at g1
            cases g1
            rw [z, nD] at g4
            cases g4
          refine ⟨rw5.len, fun j dd h => let ⟨u, p, q⟩ := rw5.dat j dd h; ⟨u, p, Dp.mono hu q⟩, fun j es h => ?_, rw5.inj, fun bb hb => ?_, ?_, rw5.tabs.upd fun u z => by rw [hD5] at z; cases z; exact lst_noc⟩
          · obtain ⟨a, ws, p1, p2, p3, p4, p5⟩ := rw5.own j es h
            exact ⟨a, ws, p1, p2, p3, by rw [upd_ne (nown j es a h p1)]; exact p4, DpAll.mono hu p5⟩
          · by_cases z : bb = D
            · rw [z, upd_same]
              exact ⟨by simp, fun ps q => nomatch q⟩
            · rw [upd_ne z]
              exact rw5.occ bb hb
          · intro bb o e
            have e1 := rw5.ext bb o e
            have hne : bb ≠ D := fun z => by
              have := (rp.ext.trans x1).there (b := bb) (by rw [z]; exact nD)
              rw [this] at e
              cases e
            rw [upd_ne hne]
            exact e1
    · have hie : i = ds.length := by omega
      subst hie
      rw [List.drop_of_length_le (Nat.le_refl _)] at hgo
      cases hgo
      rw [List.append_nil] at hout
      subst hout
      exact .inl ⟨g2, kk D acc H2 (x1.trans x12) r2.tabs nDH hD ha⟩
  · cases hf1
end
end DN
set_option Elab.async false
set_option linter.all false
set_option maxRecDepth 100000
set_option maxHeartbeats 4000000
namespace DN
open PySem PySem.Spec PyProof.Rows L2
abbrev BX (X : Cx) (scope : Scope) (s : Shared) (H : Hp) (C : Addr) (cl : List (Str × Addr)) (fp : List Addr) : Cx := X.blk s H scope (compEnvC scope cl C X.env) fp
section
variable {X : Cx} {Ts : TsT} {pos : Pos} {elt tg iter : Expr} {ifs : List Expr} {scope : Scope} {own : List (Str × Nat)} {it : En → Option (List PyData)} {b : PyData → En → Option En} {t : En → Option Bool} {f : En → Option PyData}
theorem tD_of_new {K : PySem.W.Frag} {f : En → Option PyData} {σ : St} {H : Hp} {Q : VK} (hl : ∀ en d, f en = some d → ∃ ds, d = .list ds) (h : tD K Ts f σ H Q) : tNew K Ts f σ H Q := new_w h hl
/-- [elt for tg in iter if ..], as a value; as a new list -/
theorem n_lc (hc : X.calm = true) (hN : X.N.Nodup) (hi : DI X Ts tg iter it) (ok : BlkOk X.N X.env.scope scope own)
    (hg : ∀ s H C cl fp, DG (BX X scope s H C cl fp) Ts tg (own.map (·.2)) b) (ht : ∀ s H C cl fp, PTs (BX X scope s H C cl fp) ifs (tT X.K Ts t))
    (he : ∀ s H C cl fp, DE (BX X scope s H C cl fp) Ts elt f) (hs : ∀ x, foldedSetIterable iter X.env x = pure x := by intro _; rfl) : DNew X Ts (.ListComp elt [⟨tg, iter, ifs, 0⟩] scope pos) (fLc it b t f (own.map (·.2))) :=
  PE.imp (pe_lc hc hN hi ok (fun s H C cl fp => hg s H C cl fp) (fun s H C cl fp => ht s H C cl fp) (fun s H C cl fp => he s H C cl fp) hs) fun σ H Q h => lc_w h
theorem d_lc (hc : X.calm = true) (hN : X.N.Nodup) (hi : DI X Ts tg iter it) (ok : BlkOk X.N X.env.scope scope own)
    (hg : ∀ s H C cl fp, DG (BX X scope s H C cl fp) Ts tg (own.map (·.2)) b) (ht : ∀ s H C cl fp, PTs (BX X scope s H C cl fp) ifs (tT X.K Ts t))
    (he : ∀ s H C cl fp, DE (BX X scope s H C cl fp) Ts elt f) (hs : ∀ x, foldedSetIterable iter X.env x = pure x := by intro _; rfl) : DE X Ts (.ListComp elt [⟨tg, iter, ifs, 0⟩] scope pos) (fLc it b t f (own.map (·.2))) :=
  PE.imp (n_lc hc hN hi ok hg ht he hs) fun σ H Q h => new_w h fLc_list

/-! two clauses -/
def lc2Go (b : PyData → En → Option En) (t : En → Option Bool) (it2 : En → Option (List PyData)) (b2 : PyData → En → Option En) (t2 : En → Option Bool) (f : En → Option PyData) (vs2 : List Nat) (en : En) : List PyData → Option (List PyData)
  | [] => some []
  | d :: r => (b d en).bind fun e1 => (t e1).bind fun k => if k = true then (it2 e1).bind fun ds2 => (lcGo b2 t2 f (wipeE e1 vs2) ds2).bind fun o1 => (lc2Go b t it2 b2 t2 f vs2 en r).map (o1 ++ ·) else lc2Go b t it2 b2 t2 f vs2 en r
def fLc2 (it : En → Option (List PyData)) (b : PyData → En → Option En) (t : En → Option Bool) (it2 : En → Option (List PyData)) (b2 : PyData → En → Option En) (t2 : En → Option Bool) (f : En → Option PyData) (vs vs2 : List Nat) : En → Option PyData := fun en => (it en).bind fun ds =>
  (lc2Go b t it2 b2 t2 f vs2 (wipeE en vs) ds).bind fun out => if out.length ≤ 1000000 then some (.list out) else none
theorem fLc2_list {it2 : En → Option (List PyData)} {b2 : PyData → En → Option En} {t2 : En → Option Bool} {vs vs2 : List Nat} : ∀ en d, fLc2 it b t it2 b2 t2 f vs vs2 en = some d → ∃ ds, d = .list ds := fun en d h => by
  unfold fLc2 at h
  obtain ⟨ds, _, h⟩ := Option.bind_eq_some_iff.mp h
  obtain ⟨o, _, h⟩ := Option.bind_eq_some_iff.mp h
  split at h
  · cases h; exact ⟨o, rfl⟩
  · cases h
/-- the list under construction has one item more -/
theorem Rep.appD {K : PySem.W.Frag} {He : Hp} {O : List Addr} {D : Addr} {τ : St} {H5 : Hp} {en : En} {acc ws : List V} (r : Rep K Ts He O τ H5 en) (hm : D ∈ O) (hD5 : H5 D = some (.lst acc)) (nown : ∀ (j : Nat) (es : List PyData) (a : Addr), en[j]? = some (Slot.own es) → τ[j]? = some (some (V.ref a)) → a ≠ D) (hHe : He D = none) :
    Rep K Ts He O τ (upd H5 D (.lst ws)) en := by
  have hu : Xt (hide H5 O) (hide (upd H5 D (.lst ws)) O) := hide_upd hm
  refine ⟨r.len, fun j dd h => let ⟨u, p, q⟩ := r.dat j dd h; ⟨u, p, Dp.mono hu q⟩, fun j es h => ?_, r.inj, fun bb hb => ?_, fun bb o e => ?_, r.tabs.upd fun u z => by rw [hD5] at z; cases z; exact lst_noc⟩
  · obtain ⟨a, vs, p1, p2, p3, p4, p5⟩ := r.own j es h
    exact ⟨a, vs, p1, p2, p3, by rw [upd_ne (nown j es a h p1)]; exact p4, DpAll.mono hu p5⟩
  · by_cases z : bb = D
    · rw [z, upd_same]
      exact ⟨by simp, fun ps q => nomatch q⟩
    · rw [upd_ne z]
      exact r.occ bb hb
  · have e1 := r.ext bb o e
    have hne : bb ≠ D := fun z => by rw [z, hHe] at e; cases e
    rw [upd_ne hne]
    exact e1
/-- no list of the def's own stands at D -/
def NoOwn (D : Addr) (τ : St) (en : En) : Prop := ∀ (j : Nat) (es : List PyData) (a : Addr), en[j]? = some (Slot.own es) → τ[j]? = some (some (V.ref a)) → a ≠ D
theorem Rep.noOwn {K : PySem.W.Frag} {He : Hp} {O : List Addr} {D : Addr} {τ : St} {H : Hp} {en : En} (r : Rep K Ts He O τ H en) (h : D ∉ O) : NoOwn D τ en := fun j es a h1 h2 z => by
  obtain ⟨a', vs', g1, g2, _⟩ := r.own j es h1
  rw [h2] at g1
  cases g1
  exact h (z ▸ g2)
theorem wipeE_own {en : En} {vs : List Nat} {j : Nat} {es : List PyData} (h : (wipeE en vs)[j]? = some (Slot.own es)) : en[j]? = some (Slot.own es) ∧ j ∉ vs := by
  induction vs with
  | nil => exact ⟨h, by simp⟩
  | cons v vs ih =>
    have h : ((wipeE en vs).set v .no)[j]? = some (Slot.own es) := h
    have hj : v ≠ j := fun z => by
      subst z
      by_cases hl : v < (wipeE en vs).length
      · rw [List.getElem?_set_self hl] at h; cases h
      · rw [List.getElem?_eq_none (by simpa using hl)] at h; cases h
    rw [List.getElem?_set_ne hj] at h
    obtain ⟨h1, h2⟩ := ih h
    exact ⟨h1, by simp only [List.mem_cons, not_or]; exact ⟨fun e => hj e.symm, h2⟩⟩
theorem NoOwn.wipe {D : Addr} {τ : St} {en : En} (h : NoOwn D τ en) (vs : List Nat) : NoOwn D (L2.wipe τ vs) (wipeE en vs) := fun j es a h1 h2 => by
  obtain ⟨h3, h4⟩ := wipeE_own h1
  rw [wipe_out h4] at h2
  exact h j es a h3 h2
theorem lc2_w {K : PySem.W.Frag} {it2 : En → Option (List PyData)} {b2 : PyData → En → Option En} {t2 : En → Option Bool} {vs vs2 : List Nat} {σ : St} {H : Hp} {Q : VK} (hbo : ∀ (d : PyData) (e e1 : En) (j : Nat) (es : List PyData), b d (wipeE e vs) = some e1 → e1[j]? = some (Slot.own es) → (wipeE e vs)[j]? = some (Slot.own es) ∧ j ∉ vs) (h : tNew K Ts (fLc2 it b t it2 b2 t2 f vs vs2) σ H Q) :
    tLc2 (tI K Ts it) (gD K Ts vs b) (tT K Ts t) (tI K Ts it2) (gD K Ts vs2 b2) (tT K Ts t2) (tD K Ts f) vs vs2 σ H Q := by
  obtain ⟨He, O, en, out, rp, hf, kk⟩ := h
  unfold fLc2 at hf
  obtain ⟨ds, h1, hf1⟩ := Option.bind_eq_some_iff.mp hf
  obtain ⟨out', h2, hf2⟩ := Option.bind_eq_some_iff.mp hf1
  clear hf hf1
  split at hf2
  · rename_i hlen
    cases hf2
    refine ⟨He, O, en, ds, rp, h1, fun J H1 x1 t1 gv D nD => ?_⟩
    have nDH : H D = none := x1.there nD
    have hHe : He D = none := rp.ext.there nDH
    have r1 := rp.go x1 t1
    have no0 : NoOwn D (L2.wipe σ vs) (wipeE en vs) := (r1.noOwn (r1.free nD)).wipe vs
    have rD : Rep K Ts He (D :: O) σ (upd H1 D (.lst [])) en := r1.hid nD (fun _ z => nomatch z)
    have hDm : D ∈ D :: O := List.mem_cons_self
    have xhid : ∀ {Ha Hb : Hp}, (∀ o, hide Ha O D ≠ some o) → Xt Ha Hb → Xt (hide Ha O) (hide Hb (D :: O)) := fun {Ha Hb} hn x bb o e => by
      obtain ⟨e1, e2⟩ := hide_some e
      have nb : bb ∉ D :: O := fun z => by
        rcases List.mem_cons.mp z with z | z
        · rw [z] at e; exact hn o e
        · exact e1 z
      rcases x bb o e2 with q | ⟨ps, qs, e3, q⟩
      · exact .inl (hide_of nb q)
      · exact .inr ⟨ps, qs, e3, hide_of nb q⟩
    refine ⟨fun i m H2 => m = ds.length - i ∧ i ≤ ds.length ∧ Xt H1 H2 ∧ Rep K Ts He (D :: O) (L2.wipe σ vs) H2 (wipeE en vs) ∧ ∃ acc done rest, H2 D = some (.lst acc) ∧ DpAll K (hide H2 (D :: O)) acc done ∧ lc2Go b t it2 b2 t2 f vs2 (wipeE en vs) (ds.drop i) = some rest ∧ out = done ++ rest,
      ⟨ds.length, by simp, Nat.zero_le _, Xt.upd nD, rD.wipe vs, [], [], out, upd_same, .nil, by simpa using h2, rfl⟩, fun i m H2 hW => ?_⟩
    obtain ⟨rfl, hi, x12, r2, acc, done, rest, hD, ha, hgo, hout⟩ := hW
    obtain ⟨g1, g2, g3⟩ := gv (D :: O) H2 (xhid (fun o e => by rw [(hide_some e).2] at nD; cases nD) x12) (hide_out.trans x12) r2.occ
    by_cases hlt : i < ds.length
    · refine .inr ⟨g1 i hlt, fun H' => Xt H1 H' ∧ Rep K Ts He (D :: O) (L2.wipe σ vs) H' (wipeE en vs) ∧ ∃ acc done rest, H' D = some (.lst acc) ∧ DpAll K (hide H' (D :: O)) acc done ∧ lc2Go b t it2 b2 t2 f vs2 (wipeE en vs) (ds.drop (i + 1)) = some rest ∧ out = done ++ rest,
        fun H' ⟨a, c⟩ => ⟨ds.length - (i + 1), by omega, rfl, hlt, a, c⟩, fun x H3 hy => ?_⟩
      obtain ⟨d, hd, x23, t23, qd⟩ := g3 i x H3 hlt hy
      have r3 := r2.go x23 (t23 r2.tabs)
      rw [List.drop_eq_getElem_cons hlt] at hgo
      have hd' : ds[i] = d := by rw [List.getElem?_eq_getElem hlt] at hd; exact Option.some.inj hd
      rw [hd'] at hgo
      unfold lc2Go at hgo
      obtain ⟨e1, hb, hgo1⟩ := Option.bind_eq_some_iff.mp hgo
      obtain ⟨k, ht, hgo2⟩ := Option.bind_eq_some_iff.mp hgo1
      clear hgo hgo1
      refine ⟨He, D :: O, _, d, e1, r3, qd, hb, fun σ2 r4 hw => ⟨hw.trans (wipe_wipe _ _), ?_⟩⟩
      have no1 : NoOwn D σ2 e1 := fun j es a q1 q2 => by
        obtain ⟨q3, q4⟩ := hbo _ _ _ j es hb q1
        have e3 : σ2[j]? = (L2.wipe σ vs)[j]? := by rw [← wipe_out q4, hw, wipe_wipe]
        rw [e3] at q2
        exact no0 j es a q3 q2
      refine tT.of r4 ht fun H4 x34 r5 => ?_
      have x14 : Xt H2 H4 := x23.trans x34
      have hD4 : H4 D = some (.lst acc) := x14.get D _ hD (fun _ z => nomatch z)
      have ha4 := DpAll.mono (hide_mono (O := D :: O) x14) ha
      have rw4 : Rep K Ts He (D :: O) (L2.wipe σ vs) H4 (wipeE en vs) := r2.go x14 r5.tabs
      cases k with
      | false =>
        simp only [Bool.false_eq_true, if_false] at hgo2 ⊢
        exact ⟨x12.trans x14, rw4, acc, done, rest, hD4, ha4, hgo2, hout⟩
      | true =>
        simp only [if_true] at hgo2 ⊢
        obtain ⟨ds2, hi2, hgo3⟩ := Option.bind_eq_some_iff.mp hgo2
        obtain ⟨o1, hl1, hgo4⟩ := Option.bind_eq_some_iff.mp hgo3
        obtain ⟨rest', hr1, hr2⟩ := Option.map_eq_some_iff.mp hgo4
        clear hgo2 hgo3 hgo4
        subst hr2
        refine ⟨He, D :: O, e1, ds2, r5, hi2, fun J1 H6 x46 t6 gv1 => ?_⟩
        have x26 : Xt H2 H6 := x14.trans x46
        have hD6 : H6 D = some (.lst acc) := x26.get D _ hD (fun _ z => nomatch z)
        have ha6 := DpAll.mono (hide_mono (O := D :: O) x26) ha
        -- the inner turns
        refine ⟨fun j k H7 => k = ds2.length - j ∧ j ≤ ds2.length ∧ (∀ bb o, bb ≠ D → H6 bb = some o → H7 bb = some o ∨ ∃ ps qs, o = .tbl ps ∧ H7 bb = some (.tbl qs)) ∧ Rep K Ts He (D :: O) (L2.wipe σ2 vs2) H7 (wipeE e1 vs2) ∧ Rep K Ts He (D :: O) (L2.wipe σ vs) H7 (wipeE en vs) ∧ ∃ acc1 done1 rest1, H7 D = some (.lst acc1) ∧ DpAll K (hide H7 (D :: O)) acc1 done1 ∧ lcGo b2 t2 f (wipeE e1 vs2) (ds2.drop j) = some rest1 ∧ out = done1 ++ (rest1 ++ rest'),
          ⟨ds2.length, by simp, Nat.zero_le _, fun bb o _ e => .inl e, (r5.go x46 t6).wipe vs2, r2.go x26 t6, acc, done, o1, hD6, ha6, by simpa using hl1, hout⟩, fun j k H7 hW => ?_⟩
        obtain ⟨rfl, hj, x67, r7, r7o, acc1, done1, rest1, hD7, ha7, hgo7, hout7⟩ := hW
        have xh7 : Xt (hide H6 (D :: O)) (hide H7 (D :: O)) := fun bb o e => by
          obtain ⟨q1, q2⟩ := hide_some e
          have hne : bb ≠ D := fun z => q1 (z ▸ hDm)
          rcases x67 bb o hne q2 with q | ⟨ps, qs, e3, q⟩
          · exact .inl (hide_of q1 q)
          · exact .inr ⟨ps, qs, e3, hide_of q1 q⟩
        obtain ⟨m1, m2, m3⟩ := gv1 (D :: O) H7 xh7 (xh7.trans hide_out) r7.occ
        have x17 : Xt H1 H7 := fun bb o e => by
          have hne : bb ≠ D := ne_of_none e nD
          rcases (x12.trans x26) bb o e with q | ⟨ps, qs, e3, q⟩
          · exact x67 bb o hne q
          · rcases x67 bb _ hne q with q' | ⟨_, qs', _, q'⟩
            · exact .inr ⟨ps, qs, e3, q'⟩
            · exact .inr ⟨ps, qs', e3, q'⟩
        by_cases hlt2 : j < ds2.length
        · refine .inr ⟨m1 j hlt2, fun H' => (∀ bb o, bb ≠ D → H6 bb = some o → H' bb = some o ∨ ∃ ps qs, o = .tbl ps ∧ H' bb = some (.tbl qs)) ∧ Rep K Ts He (D :: O) (L2.wipe σ2 vs2) H' (wipeE e1 vs2) ∧ Rep K Ts He (D :: O) (L2.wipe σ vs) H' (wipeE en vs) ∧ ∃ acc1 done1 rest1, H' D = some (.lst acc1) ∧ DpAll K (hide H' (D :: O)) acc1 done1 ∧ lcGo b2 t2 f (wipeE e1 vs2) (ds2.drop (j + 1)) = some rest1 ∧ out = done1 ++ (rest1 ++ rest'),
            fun H' ⟨a, c⟩ => ⟨ds2.length - (j + 1), by omega, rfl, hlt2, a, c⟩, fun x' H8 hy' => ?_⟩
          obtain ⟨d', hd2, x78, t78, qd'⟩ := m3 j x' H8 hlt2 hy'
          have r8 := r7.go x78 (t78 r7.tabs)
          rw [List.drop_eq_getElem_cons hlt2] at hgo7
          have hd2' : ds2[j] = d' := by rw [List.getElem?_eq_getElem hlt2] at hd2; exact Option.some.inj hd2
          rw [hd2'] at hgo7
          unfold lcGo at hgo7
          obtain ⟨e2, hb2, hgo8⟩ := Option.bind_eq_some_iff.mp hgo7
          obtain ⟨k2, ht2, hgo9⟩ := Option.bind_eq_some_iff.mp hgo8
          clear hgo7 hgo8
          refine ⟨He, D :: O, _, d', e2, r8, qd', hb2, fun σ3 r9 hw2 => ⟨hw2.trans (wipe_wipe _ _), ?_⟩⟩
          refine tT.of r9 ht2 fun H9 x89 r10 => ?_
          have x79 : Xt H7 H9 := x78.trans x89
          have step : ∀ {Ha : Hp}, Xt H7 Ha → ∀ bb o, bb ≠ D → H6 bb = some o → Ha bb = some o ∨ ∃ ps qs, o = .tbl ps ∧ Ha bb = some (.tbl qs) := fun {Ha} xa bb o hne e => by
            rcases x67 bb o hne e with q | ⟨ps, qs, e3, q⟩
            · exact xa bb o q
            · rcases xa bb _ q with q' | ⟨_, qs', _, q'⟩
              · exact .inr ⟨ps, qs, e3, q'⟩
              · exact .inr ⟨ps, qs', e3, q'⟩
          cases k2 with
          | false =>
            simp only [Bool.false_eq_true, if_false] at hgo9 ⊢
            exact ⟨step x79, r7.go x79 r10.tabs, r7o.go x79 r10.tabs, acc1, done1, rest1, x79.get D _ hD7 (fun _ z => nomatch z), DpAll.mono (hide_mono x79) ha7, hgo9, hout7⟩
          | true =>
            simp only [if_true] at hgo9 ⊢
            obtain ⟨y, hy1, hgo10⟩ := Option.bind_eq_some_iff.mp hgo9
            obtain ⟨rest2, hr3, hr4⟩ := Option.map_eq_some_iff.mp hgo10
            subst hr4
            refine tD.of r10 hy1 fun v H10 x910 r11 q11 => ?_
            have x710 : Xt H7 H10 := x79.trans x910
            have hD10 : H10 D = some (.lst acc1) := x710.get D _ hD7 (fun _ z => nomatch z)
            have ha10 := DpAll.mono (hide_mono (O := D :: O) x710) ha7
            have hu : Xt (hide H10 (D :: O)) (hide (upd H10 D (.lst (acc1 ++ [v]))) (D :: O)) := hide_upd hDm
            have hlen1 : acc1.length ≤ out.length := by rw [DpAll.len ha7, hout7, List.length_append]; omega
            refine ⟨acc1, hD10, by rw [sizeLine_eq]; omega, fun bb o hne e => ?_, (r7.go x710 r11.tabs).appD hDm hD10 (no1.wipe vs2) hHe, (r7o.go x710 r11.tabs).appD hDm hD10 no0 hHe, acc1 ++ [v], done1 ++ [y], rest2, upd_same, DpAll.app (DpAll.mono hu ha10) (.cons (Dp.mono hu q11) .nil), hr3, by rw [hout7]; simp⟩
            rw [upd_ne hne]
            exact step x710 bb o hne e
        · have hje : j = ds2.length := by omega
          subst hje
          rw [List.drop_of_length_le (Nat.le_refl _)] at hgo7
          cases hgo7
          exact .inl ⟨m2, x17, r7o, acc1, done1, rest', hD7, ha7, hr1, by rw [hout7]; simp⟩
    · have hie : i = ds.length := by omega
      subst hie
      rw [List.drop_of_length_le (Nat.le_refl _)] at hgo
      cases hgo
      rw [List.append_nil] at hout
      subst hout
      exact .inl ⟨g2, kk D acc H2 (x1.trans x12) r2.tabs nDH hD ha⟩
  · cases hf2
/-- what a target writes is data at its own slots -/
theorem bName_own {i : Nat} {vs : List Nat} : ∀ (d : PyData) (e e1 : En) (j : Nat) (es : List PyData), bName i d (wipeE e vs) = some e1 → e1[j]? = some (Slot.own es) → (wipeE e vs)[j]? = some (Slot.own es) ∧ j ∉ vs := fun d e e1 j es h h1 => by
  unfold bName at h
  split at h
  · cases h
    have hj : i ≠ j := fun z => by
      subst z
      rename_i hl
      rw [List.getElem?_set_self hl] at h1
      cases h1
    rw [List.getElem?_set_ne hj] at h1
    exact ⟨h1, (wipeE_own h1).2⟩
  · cases h
theorem n_lc2 {i : Nat} {tg1 iter1 : Expr} {ifs1 : List Expr} {vs1 : List Nat} {it2 : En → Option (List PyData)} {b2 : PyData → En → Option En} {t2 : En → Option Bool} (hc : X.calm = true) (hN : X.N.Nodup) (hi : DI X Ts tg iter it) (ok : BlkOk X.N X.env.scope scope own) (hv : ∀ i ∈ vs1, i ∈ own.map (·.2))
    (hg : ∀ s H C cl fp, DG (BX X scope s H C cl fp) Ts tg (own.map (·.2)) (bName i)) (ht : ∀ s H C cl fp, PTs (BX X scope s H C cl fp) ifs (tT X.K Ts t))
    (hi1 : ∀ s H C cl fp, DI (BX X scope s H C cl fp) Ts tg1 iter1 it2) (hg1 : ∀ s H C cl fp, DG (BX X scope s H C cl fp) Ts tg1 vs1 b2) (ht1 : ∀ s H C cl fp, PTs (BX X scope s H C cl fp) ifs1 (tT X.K Ts t2))
    (he : ∀ s H C cl fp, DE (BX X scope s H C cl fp) Ts elt f) (hs : ∀ x, foldedSetIterable iter X.env x = pure x := by intro _; rfl) (hs1 : ∀ env x, foldedSetIterable iter1 env x = pure x := by intro _ _; rfl) :
    DNew X Ts (.ListComp elt [⟨tg, iter, ifs, 0⟩, ⟨tg1, iter1, ifs1, 0⟩] scope pos) (fLc2 it (bName i) t it2 b2 t2 f (own.map (·.2)) vs1) :=
  PE.imp (pe_lc2 hc hN hi ok hv (fun s H C cl fp => hg s H C cl fp) (fun s H C cl fp => ht s H C cl fp) (fun s H C cl fp => hi1 s H C cl fp) (fun s H C cl fp => hg1 s H C cl fp) (fun s H C cl fp => ht1 s H C cl fp) (fun s H C cl fp => he s H C cl fp) hs hs1) fun σ H Q h => lc2_w bName_own h
theorem d_lc2 {i : Nat} {tg1 iter1 : Expr} {ifs1 : List Expr} {vs1 : List Nat} {it2 : En → Option (List PyData)} {b2 : PyData → En → Option En} {t2 : En → Option Bool} (hc : X.calm = true) (hN : X.N.Nodup) (hi : DI X Ts tg iter it) (ok : BlkOk X.N X.env.scope scope own) (hv : ∀ i ∈ vs1, i ∈ own.map (·.2))
    (hg : ∀ s H C cl fp, DG (BX X scope s H C cl fp) Ts tg (own.map (·.2)) (bName i)) (ht : ∀ s H C cl fp, PTs (BX X scope s H C cl fp) ifs (tT X.K Ts t))
    (hi1 : ∀ s H C cl fp, DI (BX X scope s H C cl fp) Ts tg1 iter1 it2) (hg1 : ∀ s H C cl fp, DG (BX X scope s H C cl fp) Ts tg1 vs1 b2) (ht1 : ∀ s H C cl fp, PTs (BX X scope s H C cl fp) ifs1 (tT X.K Ts t2))
    (he : ∀ s H C cl fp, DE (BX X scope s H C cl fp) Ts elt f) (hs : ∀ x, foldedSetIterable iter X.env x = pure x := by intro _; rfl) (hs1 : ∀ env x, foldedSetIterable iter1 env x = pure x := by intro _ _; rfl) :
    DE X Ts (.ListComp elt [⟨tg, iter, ifs, 0⟩, ⟨tg1, iter1, ifs1, 0⟩] scope pos) (fLc2 it (bName i) t it2 b2 t2 f (own.map (·.2)) vs1) :=
  PE.imp (n_lc2 hc hN hi ok hv hg ht hi1 hg1 ht1 he hs hs1) fun σ H Q h => new_w h fLc2_list

/-! ### all, any of a generator expression -/
def allGo (ev : Bool) (b : PyData → En → Option En) (f : En → Option PyData) (en : En) : List PyData → Option PyData
  | [] => some (.bool ev)
  | d :: r => (b d en).bind fun e1 => match f e1 with
    | some (.bool k) => if k = ev then allGo ev b f en r else some (.bool k)
    | _ => none
def fAll (ev : Bool) (it : En → Option (List PyData)) (b : PyData → En → Option En) (f : En → Option PyData) (vs : List Nat) : En → Option PyData := fun en => (it en).bind fun ds => allGo ev b f (wipeE en vs) ds
theorem all_w {K : PySem.W.Frag} {ev : Bool} {P : Addr} {vs : List Nat} {σ : St} {H : Hp} {Q : VK} (hP : P ∈ Ts.gs) (h : tD K Ts (fAll ev it b f vs) σ H Q) : GA.tGen ev P (tI K Ts it) (gD K Ts vs b) (tD K Ts f) vs σ H Q := by
  obtain ⟨He, O, en, d0, rp, hf, kk⟩ := h
  unfold fAll at hf
  obtain ⟨ds, h1, h2⟩ := Option.bind_eq_some_iff.mp hf
  clear hf
  refine ⟨He, O, en, ds, rp, h1, fun J H1 x1 t1 gv => ⟨t1.1 P hP, fun Hn tb => ?_⟩⟩
  have xn : Xt H1 Hn := fun bb o e => by
    by_cases z : bb = P
    · obtain ⟨ps, e1, _⟩ := t1.1 P hP
      obtain ⟨qs, e2, _⟩ := tb.1
      rw [z] at e ⊢
      rw [e1] at e
      cases e
      exact .inr ⟨ps, qs, rfl, e2⟩
    · rw [tb.2 bb z]
      exact .inl e
  have tn : Tb Ts Hn := by
    refine ⟨fun P' hP' => ?_, fun P' hP' => ?_, t1.2.2⟩
    · by_cases z : P' = P
      · rw [z]; exact tb.1
      · obtain ⟨ps, e1, e2⟩ := t1.1 P' hP'
        exact ⟨ps, by rw [tb.2 P' z]; exact e1, e2⟩
    · have z : P' ≠ P := fun z => t1.2.2 P' hP' (by rw [z]; exact hP)
      obtain ⟨ps, e1, e2, e3⟩ := t1.2.1 P' hP'
      refine ⟨ps, by rw [tb.2 P' z]; exact e1, e2, fun pos cv hc => ?_⟩
      obtain ⟨c, c1, c2⟩ := e3 pos cv hc
      refine ⟨c, c1, ?_⟩
      rw [tb.2 c (fun y => by
        obtain ⟨qs, q1, _⟩ := t1.1 P hP
        rw [y, q1] at c2
        unfold LamX.CodeO at c2
        cases c2)]
      exact c2
  refine ⟨fun i m H2 => m = ds.length - i ∧ i ≤ ds.length ∧ Xt H1 H2 ∧ Rep K Ts He O (L2.wipe σ vs) H2 (wipeE en vs) ∧ allGo ev b f (wipeE en vs) (ds.drop i) = some d0,
    ⟨ds.length, by simp, Nat.zero_le _, xn, ((rp.go x1 t1).go xn tn).wipe vs, by simpa using h2⟩, fun i m H2 hW => ?_⟩
  obtain ⟨rfl, hi, x12, r2, hgo⟩ := hW
  obtain ⟨g1, g2, g3⟩ := gv O H2 (hide_mono x12) (hide_out.trans x12) r2.occ
  by_cases hlt : i < ds.length
  · refine .inr ⟨g1 i hlt, fun H' => Xt H1 H' ∧ Rep K Ts He O (L2.wipe σ vs) H' (wipeE en vs) ∧ allGo ev b f (wipeE en vs) (ds.drop (i + 1)) = some d0, fun H' ⟨a, c⟩ => ⟨ds.length - (i + 1), by omega, rfl, hlt, a, c⟩, fun x H3 hy => ?_⟩
    obtain ⟨d, hd, x23, t23, qd⟩ := g3 i x H3 hlt hy
    have r3 := r2.go x23 (t23 r2.tabs)
    rw [List.drop_eq_getElem_cons hlt] at hgo
    have hd' : ds[i] = d := by rw [List.getElem?_eq_getElem hlt] at hd; exact Option.some.inj hd
    rw [hd'] at hgo
    unfold allGo at hgo
    obtain ⟨e1, hb, hgo1⟩ := Option.bind_eq_some_iff.mp hgo
    clear hgo
    refine ⟨He, O, _, d, e1, r3, qd, hb, fun σ2 r4 hw => ⟨hw.trans (wipe_wipe _ _), ?_⟩⟩
    split at hgo1
    · rename_i k hk
      refine tD.of r4 hk fun v H4 x34 r5 q5 => ?_
      cases q5
      refine ⟨k, rfl, ?_⟩
      by_cases hke : k = ev
      · rw [if_pos hke] at hgo1 ⊢
        exact ⟨x12.trans (x23.trans x34), r2.go (x23.trans x34) r5.tabs, hgo1⟩
      · rw [if_neg hke] at hgo1 ⊢
        cases hgo1
        exact kk _ H4 (x1.trans (x12.trans (x23.trans x34))) r5.tabs (.bl _)
    · cases hgo1
  · have hie : i = ds.length := by omega
    subst hie
    rw [List.drop_of_length_le (Nat.le_refl _)] at hgo
    cases hgo
    exact .inl ⟨g2, kk _ H2 (x1.trans x12) r2.tabs (.bl _)⟩
abbrev GX (X : Cx) (scope : Scope) (s : Shared) (H : Hp) (cl : List (Str × Addr)) (C : Addr) (code : Value) (fp : List Addr) (pn : List (Addr × Obj)) : Cx := GA.gCx X s H (genEnv scope cl C code builtinsNs X.env) fp pn
theorem d_all {c P : Addr} {p gpos : Pos} {k : Nat} (hr : Room k X.A) (hgl : Gl X "all") (hm : X.mg "all" = none) (hb : bootBuiltins "all" = some (.builtin "all")) (TB : LamX.TabB X.base X.mg c P) (hP : P ∈ Ts.gs) (hcode : X.env.code = .ref c) (hc : X.calm = true) (hN : X.N.Nodup)
    (hi : DI X Ts tg iter it) (ok : BlkOk X.N X.env.scope scope own) (gk : GA.GenK scope) (hg : ∀ s H cl C code fp pn, DG (GX X scope s H cl C code fp pn) Ts tg (own.map (·.2)) b) (he : ∀ s H cl C code fp pn, DE (GX X scope s H cl C code fp pn) Ts elt f)
    (hs : ∀ v, genFold iter X.env v = pure v := by intro _; rfl) (hst : starEach [.GeneratorExp elt [⟨tg, iter, [], 0⟩] scope gpos] X.env = (false, eval (.GeneratorExp elt [⟨tg, iter, [], 0⟩] scope gpos) X.env) :: starEach [] X.env := by rfl) :
    DE X Ts (.Call (.Name "all" p) [.GeneratorExp elt [⟨tg, iter, [], 0⟩] scope gpos] [] pos) (fAll true it b f (own.map (·.2))) :=
  PE.imp (GA.pe_allG hr hgl hm hb TB hcode hc hN hi ok gk (fun s H cl C code fp pn => hg s H cl C code fp pn) (fun s H cl C code fp pn => he s H cl C code fp pn) hs hst) fun σ H Q h => all_w hP h
theorem d_any {c P : Addr} {p gpos : Pos} {k : Nat} (hr : Room k X.A) (hgl : Gl X "any") (hm : X.mg "any" = none) (hb : bootBuiltins "any" = some (.builtin "any")) (TB : LamX.TabB X.base X.mg c P) (hP : P ∈ Ts.gs) (hcode : X.env.code = .ref c) (hc : X.calm = true) (hN : X.N.Nodup)
    (hi : DI X Ts tg iter it) (ok : BlkOk X.N X.env.scope scope own) (gk : GA.GenK scope) (hg : ∀ s H cl C code fp pn, DG (GX X scope s H cl C code fp pn) Ts tg (own.map (·.2)) b) (he : ∀ s H cl C code fp pn, DE (GX X scope s H cl C code fp pn) Ts elt f)
    (hs : ∀ v, genFold iter X.env v = pure v := by intro _; rfl) (hst : starEach [.GeneratorExp elt [⟨tg, iter, [], 0⟩] scope gpos] X.env = (false, eval (.GeneratorExp elt [⟨tg, iter, [], 0⟩] scope gpos) X.env) :: starEach [] X.env := by rfl) :
    DE X Ts (.Call (.Name "any" p) [.GeneratorExp elt [⟨tg, iter, [], 0⟩] scope gpos] [] pos) (fAll false it b f (own.map (·.2))) :=
  PE.imp (GA.pe_anyG hr hgl hm hb TB hcode hc hN hi ok gk (fun s H cl C code fp pn => hg s H cl C code fp pn) (fun s H cl C code fp pn => he s H cl C code fp pn) hs hst) fun σ H Q h => all_w hP h
end
end DN
set_option Elab.async false
set_option linter.all false
set_option maxRecDepth 100000
set_option maxHeartbeats 4000000
namespace DN
open PySem PySem.Spec PyProof.Rows L2
/-! ### statements -/
inductive Fl where
  | nx (en : En) | rt (d : PyData) | bk (en : En) | ct (en : En)
/-- the slots' data within a def's body: entered at He, the caller's hidden addresses at O₀ -/
def RepS (K : PySem.W.Frag) (Ts : TsT) (He : Hp) (O₀ : List Addr) (Vz : Hp) (σ : St) (H : Hp) (en : En) : Prop := ∃ O, (∀ b ∈ O₀, b ∈ O) ∧ (∀ b ∈ O₀, He b ≠ none) ∧ Rep K Ts He O σ H en ∧ Xt Vz (hide H O)
def Post (K : PySem.W.Frag) (Ts : TsT) (He : Hp) (O₀ : List Addr) (Vz : Hp) (D : Ends) : Fl → Prop
  | .nx en => ∀ σ' H', RepS K Ts He O₀ Vz σ' H' en → D.nx σ' H'
  | .rt d => ∀ v H', Xt He H' → Tb Ts H' → Dp K (hide H' O₀) v d → D.rt v H'
  | .bk en => ∀ σ' H', RepS K Ts He O₀ Vz σ' H' en → D.bk σ' H'
  | .ct en => ∀ σ' H', RepS K Ts He O₀ Vz σ' H' en → D.ct σ' H'
def tS (K : PySem.W.Frag) (Ts : TsT) (F : En → Option Fl) : TS := fun D σ H => ∃ He O₀ Vz en r, RepS K Ts He O₀ Vz σ H en ∧ F en = some r ∧ Post K Ts He O₀ Vz D r
abbrev DS (X : Cx) (Ts : TsT) (st : Stmt) (F : En → Option Fl) : Prop := PS X st (tS X.K Ts F)
abbrev DSs (X : Cx) (Ts : TsT) (st : List Stmt) (F : En → Option Fl) : Prop := PSs X st (tS X.K Ts F)
theorem RepS.go {K : PySem.W.Frag} {Ts : TsT} {He : Hp} {O₀ : List Addr} {σ : St} {H H' : Hp} {en : En} {Vz : Hp} (r : RepS K Ts He O₀ Vz σ H en) (x : Xt H H') (t : Tb Ts H') : RepS K Ts He O₀ Vz σ H' en :=
  let ⟨O, a, b, c, d⟩ := r; ⟨O, a, b, c.go x t, d.trans (hide_mono x)⟩
def sSeq (F G : En → Option Fl) : En → Option Fl := fun en => match F en with
  | some (.nx e) => G e
  | r => r
def sNil : En → Option Fl := fun en => some (.nx en)
def sSet (i : Nat) (f : En → Option PyData) : En → Option Fl := fun en => (f en).bind fun d => (bName i d en).map .nx
def sBind (b : PyData → En → Option En) (f : En → Option PyData) : En → Option Fl := fun en => (f en).bind fun d => (b d en).map .nx
def sOwn (i : Nat) (f : En → Option PyData) : En → Option Fl := fun en => match f en with
  | some (.list ds) => if i < en.length then some (.nx (en.set i (.own ds))) else none
  | _ => none
def sApp (i : Nat) (f : En → Option PyData) : En → Option Fl := fun en => (f en).bind fun d => match en[i]? with
  | some (.own ds) => if ds.length ≤ 1000000 then some (.nx (en.set i (.own (ds ++ [d])))) else none
  | _ => none
def sRel (i : Nat) : En → Option Fl := fun en => match en[i]? with
  | some (.own ds) => some (.nx (en.set i (.dat (.list ds))))
  | _ => none
def sIf (t : En → Option Bool) (F G : En → Option Fl) : En → Option Fl := fun en => match t en with
  | some true => F en
  | some false => G en
  | none => none
def sRet (f : En → Option PyData) : En → Option Fl := fun en => (f en).map .rt
def sExpr (f : En → Option PyData) : En → Option Fl := fun en => (f en).map fun _ => .nx en
def sNever : En → Option Fl := fun _ => none
def sBk : En → Option Fl := fun en => some (.bk en)
def sCt : En → Option Fl := fun en => some (.ct en)
def forGo (b : PyData → En → Option En) (F : En → Option Fl) : List PyData → En → Option Fl
  | [], en => some (.nx en)
  | d :: r, en => (b d en).bind fun e1 => match F e1 with
    | some (.nx e2) => forGo b F r e2
    | some (.ct e2) => forGo b F r e2
    | some (.bk e2) => some (.nx e2)
    | some (.rt v) => some (.rt v)
    | none => none
def sFor (it : En → Option (List PyData)) (b : PyData → En → Option En) (F : En → Option Fl) : En → Option Fl := fun en => (it en).bind fun ds => forGo b F ds en
def whGo (t : En → Option Bool) (F : En → Option Fl) : Nat → En → Option Fl
  | 0, _ => none
  | n + 1, en => match t en with
    | some true => match F en with
      | some (.nx e2) => whGo t F n e2
      | some (.ct e2) => whGo t F n e2
      | some (.bk e2) => some (.nx e2)
      | some (.rt v) => some (.rt v)
      | none => none
    | some false => some (.nx en)
    | none => none
def sWhile (n : En → Nat) (t : En → Option Bool) (F : En → Option Fl) : En → Option Fl := fun en => whGo t F (n en) en
def sAug (i : Nat) (g : PyData → PyData → Option PyData) (f : En → Option PyData) : En → Option Fl := fun en => (fVar i en).bind fun x => (f en).bind fun y => (g x y).bind fun z => (bName i z en).map .nx
def sPar (i j : Nat) (f g : En → Option PyData) : En → Option Fl := fun en => (f en).bind fun x => (g en).bind fun y => (bName i x en).bind fun e1 => (bName j y e1).map .nx
section
variable {X : Cx} {Ts : TsT} {pos : Pos} {st : Stmt} {rest : List Stmt} {F G : En → Option Fl} {e : Expr} {f g : En → Option PyData}
theorem s_nil : DSs X Ts [] sNil := PSs.imp pss_nil fun D σ H ⟨He, O₀, Vz, en, r, rp, hf, k⟩ => by
  cases hf
  exact k σ H rp
theorem s_cons (h1 : DS X Ts st F) (h2 : DSs X Ts rest G) : DSs X Ts (st :: rest) (sSeq F G) := PSs.imp (pss_cons h1 h2) fun D σ H ⟨He, O₀, Vz, en, r, rp, hf, k⟩ => by
  unfold sSeq at hf
  split at hf
  · rename_i e1 h
    exact ⟨He, O₀, Vz, en, _, rp, h, fun σ' H' r' => ⟨He, O₀, Vz, e1, r, r', hf, k⟩⟩
  · rename_i hn
    refine ⟨He, O₀, Vz, en, r, rp, hf, ?_⟩
    cases r with
    | nx e1 => exact absurd hf (hn e1)
    | rt d => exact k
    | bk e1 => exact k
    | ct e1 => exact k
theorem s_one (h1 : DS X Ts st F) : DSs X Ts [st] F := pss_one h1
/-- a step of the reading alone: a list of the def's own is one to be kept from here on -/
theorem s_rel (i : Nat) (h : DSs X Ts rest G) : DSs X Ts rest (sSeq (sRel i) G) := PSs.imp h fun D σ H ⟨He, O₀, Vz, en, r, rp, hf, k⟩ => by
  unfold sSeq sRel at hf
  split at hf
  · rename_i e1 h1
    split at h1
    · rename_i ds hd
      cases h1
      refine ⟨He, O₀, Vz, _, r, ?_, hf, k⟩
      obtain ⟨O, a1, a2, rp, xv⟩ := rp
      obtain ⟨a, vs, p1, p2, p3, p4, p5⟩ := rp.own i ds hd
      have hi : i < en.length := (List.getElem?_eq_some_iff.mp hd).1
      have hsub : ∀ b ∈ O.filter (fun b => decide (b ≠ a)), b ∈ O := fun b hb => (List.mem_filter.mp hb).1
      have nA : a ∉ O.filter (fun b => decide (b ≠ a)) := fun z => by simpa using (List.mem_filter.mp z).2
      have hs : Xt (hide H O) (hide H (O.filter (fun b => decide (b ≠ a)))) := hide_sub hsub
      refine ⟨O.filter (fun b => decide (b ≠ a)), fun b hb => List.mem_filter.mpr ⟨a1 b hb, decide_eq_true fun z => a2 b hb (by rw [z]; exact p3)⟩, a2, ⟨by simp [rp.len], fun j d h => ?_, fun j es h => ?_, fun j k es es' aa h1 h2 h3 h4 => ?_, fun b hb => rp.occ b (hsub b hb), rp.ext, rp.tabs⟩, xv.trans hs⟩
      · by_cases hj : i = j
        · subst hj
          rw [List.getElem?_set_self hi] at h
          cases h
          exact ⟨.ref a, p1, .lst (.inl (.inl (hide_of nA p4))) (DpAll.mono hs p5)⟩
        · rw [List.getElem?_set_ne hj] at h
          obtain ⟨v, q1, q2⟩ := rp.dat j d h
          exact ⟨v, q1, Dp.mono hs q2⟩
      · have hj : i ≠ j := fun z => by subst z; rw [List.getElem?_set_self hi] at h; cases h
        rw [List.getElem?_set_ne hj] at h
        obtain ⟨a', vs', q1, q2, q3, q4, q5⟩ := rp.own j es h
        refine ⟨a', vs', q1, List.mem_filter.mpr ⟨q2, decide_eq_true fun z => hj ?_⟩, q3, q4, DpAll.mono hs q5⟩
        subst z
        exact rp.inj i j ds es a' hd h p1 q1
      · have hj : i ≠ j := fun z => by subst z; rw [List.getElem?_set_self hi] at h1; cases h1
        have hk : i ≠ k := fun z => by subst z; rw [List.getElem?_set_self hi] at h2; cases h2
        rw [List.getElem?_set_ne hj] at h1
        rw [List.getElem?_set_ne hk] at h2
        exact rp.inj j k es es' aa h1 h2 h3 h4
    · cases h1
  · rename_i hn
    split at hf
    · rename_i ds hd
      exact absurd (show (match en[i]? with
        | some (Slot.own ds) => some (Fl.nx (List.set en i (Slot.dat (PyData.list ds))))
        | x => none) = some (Fl.nx (List.set en i (Slot.dat (PyData.list ds)))) by rw [hd]) (hn _)
    · cases hf
theorem RepS.setD {K : PySem.W.Frag} {He : Hp} {O₀ O : List Addr} {σ : St} {H : Hp} {en e1 : En} {i : Nat} {x : V} {d : PyData} (a1 : ∀ b ∈ O₀, b ∈ O) (a2 : ∀ b ∈ O₀, He b ≠ none) (rp : Rep K Ts He O σ H en) (hb : bName i d en = some e1) (q : Dp K (hide H O) x d) {Vz : Hp} (xv : Xt Vz (hide H O)) : RepS K Ts He O₀ Vz (σ.set i (some x)) H e1 := by
  unfold bName at hb
  split at hb
  · rename_i hi
    cases hb
    exact ⟨O, a1, a2, rp.setD hi q, xv⟩
  · cases hb
theorem set_w {K : PySem.W.Frag} {i : Nat} : ∀ D σ H, tS K Ts (sSet i f) D σ H → tAsg (tD K Ts f) (gName i) D σ H := fun D σ H ⟨He, O₀, Vz, en, r, rp, hf, k⟩ => by
  unfold sSet at hf
  obtain ⟨d, h1, h2⟩ := Option.bind_eq_some_iff.mp hf
  obtain ⟨e1, h3, rfl⟩ := Option.map_eq_some_iff.mp h2
  obtain ⟨O, a1, a2, rp, xv⟩ := rp
  exact tD.of rp h1 fun v H1 x1 r1 q1 => k _ H1 (RepS.setD a1 a2 r1 h3 q1 (xv.trans (hide_mono x1)))
theorem s_set {i : Nat} {x : Str} {pos' : Pos} (hN : X.N.Nodup) (hi : X.N[i]? = some x) (hx : Loc X.env.scope x) (he : DE X Ts e f) (hs : swapsWith e (some (.Name x pos')) pos.line X.env = pure false := by rfl) (hf : X.fn x = true ∨ X.env.scope.names.lookup x = some .local := by first | exact .inl rfl | exact .inr rfl | assumption) :
    DS X Ts (.Assign [.Name x pos'] e pos) (sSet i f) := PS.imp (ps_set hN hi hx he hs hf) set_w
theorem s_bind {tg : Expr} {vs : List Nat} {b : PyData → En → Option En} (he : DE X Ts e f) (hg : DG X Ts tg vs b) (hs : swapsWithSole [tg] e pos.line X.env = pure false := by rfl) (hw : swappedStores [tg] e X.env = pure none := by rfl)
    (h1 : (assignEach [tg] X.env).map (·.2) = [assign tg X.env] := by rfl) : DS X Ts (.Assign [tg] e pos) (sBind b f) := PS.imp (ps_asg he hg hs hw h1) fun D σ H ⟨He, O₀, Vz, en, r, rp, hf, k⟩ => by
  unfold sBind at hf
  obtain ⟨d, h1, h2⟩ := Option.bind_eq_some_iff.mp hf
  obtain ⟨e1, h3, rfl⟩ := Option.map_eq_some_iff.mp h2
  obtain ⟨O, a1, a2, rp, xv⟩ := rp
  exact tD.of rp h1 fun v H1 x1 r1 q1 => ⟨He, O, en, d, e1, r1, q1, h3, fun σ' r' _ => k σ' H1 ⟨O, a1, a2, r', xv.trans (hide_mono x1)⟩⟩
/-- name = [..] by a comprehension on the same line -/
theorem s_setLc {i : Nat} {y : Str} {py : Pos} {elt tg iter : Expr} {ifs : List Expr} {scope : Scope} {own : List (Str × Nat)} {spos : Pos} {it : En → Option (List PyData)} {b : PyData → En → Option En} {t : En → Option Bool} (hc : X.calm = true) (hN : X.N.Nodup) (hy : X.N[i]? = some y) (hyl : X.env.scope.names.lookup y = some .local)
    (hsw : swapsWith (.ListComp elt [⟨tg, iter, ifs, 0⟩] scope pos) (some (.Name y py)) spos.line X.env = pure true) (hi : DI X Ts tg iter it) (ok : BlkOk X.N X.env.scope scope own)
    (hg : ∀ s H C cl fp, DG (BX X scope s H C cl fp) Ts tg (own.map (·.2)) b) (ht : ∀ s H C cl fp, PTs (BX X scope s H C cl fp) ifs (tT X.K Ts t))
    (he : ∀ s H C cl fp, DE (BX X scope s H C cl fp) Ts elt f) (hs : ∀ x, foldedSetIterable iter X.env x = pure x := by intro _; rfl) :
    DS X Ts (.Assign [.Name y py] (.ListComp elt [⟨tg, iter, ifs, 0⟩] scope pos) spos) (sSet i (fLc it b t f (own.map (·.2)))) :=
  PS.imp (ps_setLc hc hN hy hyl hsw hi ok (fun s H C cl fp => hg s H C cl fp) (fun s H C cl fp => ht s H C cl fp) (fun s H C cl fp => he s H C cl fp) hs) fun D σ H h => by
    have h2 : tD X.K Ts (fLc it b t f (own.map (·.2))) σ H (fun x H1 => gName i x σ H1 D.nx) := set_w D σ H h
    exact lc_w (new_w h2 fLc_list)
/-- a new list of the def's own -/
theorem RepS.setO {K : PySem.W.Frag} {He : Hp} {O₀ O : List Addr} {σ : St} {H H1 : Hp} {en : En} {i : Nat} {a : Addr} {vs : List V} {ds : List PyData} (a1 : ∀ b ∈ O₀, b ∈ O) (a2 : ∀ b ∈ O₀, He b ≠ none) (rp : Rep K Ts He O σ H en) (hi : i < en.length) (x : Xt H H1) (t : Tb Ts H1) (na : H a = none) (ha : H1 a = some (.lst vs)) (q : DpAll K (hide H1 (a :: O)) vs ds) {Vz : Hp} (xv : Xt Vz (hide H O)) :
    RepS K Ts He O₀ Vz (σ.set i (some (.ref a))) H1 (en.set i (.own ds)) := by
  have r1 := rp.go x t
  have hs : i < σ.length := by rw [← rp.len]; exact hi
  have nA : a ∉ O := rp.free na
  have hHe : He a = none := rp.ext.there na
  -- nothing that the slots hold leans on a
  have back : Xt (hide H O) (hide H1 (a :: O)) := fun b o e => by
    obtain ⟨e1, e2⟩ := hide_some e
    have nb : b ∉ a :: O := fun z => by
      rcases List.mem_cons.mp z with z | z
      · rw [z, na] at e2; cases e2
      · exact e1 z
    rcases x b o e2 with q | ⟨ps, qs, e3, q⟩
    · exact .inl (hide_of nb q)
    · exact .inr ⟨ps, qs, e3, hide_of nb q⟩
  refine ⟨a :: O, fun b hb => List.mem_cons_of_mem _ (a1 b hb), a2, ⟨by simp [rp.len], fun j d h => ?_, fun j es h => ?_, fun j k es es' aa h1 h2 h3 h4 => ?_, fun b hb => ?_, r1.ext, t⟩, xv.trans back⟩
  · have hj : i ≠ j := fun z => by subst z; rw [List.getElem?_set_self hi] at h; cases h
    rw [List.getElem?_set_ne hj] at h
    obtain ⟨v, q1, q2⟩ := rp.dat j d h
    exact ⟨v, by rw [List.getElem?_set_ne hj]; exact q1, Dp.mono back q2⟩
  · by_cases hj : i = j
    · subst hj
      rw [List.getElem?_set_self hi] at h
      cases h
      exact ⟨a, vs, by rw [List.getElem?_set_self hs], List.mem_cons_self, hHe, ha, q⟩
    · rw [List.getElem?_set_ne hj] at h
      obtain ⟨a', vs', q1, q2, q3, q4, q5⟩ := rp.own j es h
      exact ⟨a', vs', by rw [List.getElem?_set_ne hj]; exact q1, List.mem_cons_of_mem _ q2, q3, x.get a' _ q4 (fun _ z => nomatch z), DpAll.mono back q5⟩
  · have old : ∀ (j : Nat) (es : List PyData) (aa : Addr), i ≠ j → (en.set i (Slot.own ds))[j]? = some (Slot.own es) → (σ.set i (some (V.ref a)))[j]? = some (some (V.ref aa)) → aa ≠ a := fun j es aa hj h1 h2 z => by
      rw [List.getElem?_set_ne hj] at h1 h2
      obtain ⟨a', vs', q1, q2, _⟩ := rp.own j es h1
      rw [h2] at q1
      cases q1
      exact nA (z ▸ q2)
    by_cases hj : i = j
    · by_cases hk : i = k
      · exact hj.symm.trans hk
      · subst hj
        rw [List.getElem?_set_self hs] at h3
        cases h3
        exact absurd rfl (old k es' _ hk h2 h4)
    · by_cases hk : i = k
      · subst hk
        rw [List.getElem?_set_self hs] at h4
        cases h4
        exact absurd rfl (old j es _ hj h1 h3)
      · rw [List.getElem?_set_ne hj] at h1 h3
        rw [List.getElem?_set_ne hk] at h2 h4
        exact rp.inj j k es es' aa h1 h2 h3 h4
  · rcases List.mem_cons.mp hb with z | z
    · rw [z, ha]
      exact ⟨by simp, fun ps z => nomatch z⟩
    · exact r1.occ b z
theorem own_w {K : PySem.W.Frag} {i : Nat} : ∀ D σ H, tS K Ts (sOwn i f) D σ H → tNew K Ts f σ H (fun x H1 => gName i x σ H1 D.nx) := fun D σ H ⟨He, O₀, Vz, en, r, rp, hf, k⟩ => by
  unfold sOwn at hf
  split at hf
  · rename_i ds h1
    split at hf
    · rename_i hi
      cases hf
      obtain ⟨O, a1, a2, rp, xv⟩ := rp
      exact ⟨He, O, en, ds, rp, h1, fun a vs H' x t na ha q => k _ H' (RepS.setO a1 a2 rp hi x t na ha q xv)⟩
    · cases hf
  · cases hf
theorem s_own {i : Nat} {x : Str} {pos' : Pos} (hN : X.N.Nodup) (hi : X.N[i]? = some x) (hx : Loc X.env.scope x) (he : DNew X Ts e f) (hs : swapsWith e (some (.Name x pos')) pos.line X.env = pure false := by rfl) (hf : X.fn x = true ∨ X.env.scope.names.lookup x = some .local := by first | exact .inl rfl | exact .inr rfl | assumption) :
    DS X Ts (.Assign [.Name x pos'] e pos) (sOwn i f) := PS.imp (ps_set hN hi hx he hs hf) fun D σ H h => own_w D σ H h
theorem n_lst {es : List Expr} {gs : En → Option (List PyData)} (h : DA X Ts es gs) : DNew X Ts (.List es pos) (fLst gs) := PE.imp (pe_lst h) fun σ H Q ⟨He, O, en, ds, rp, hf, kk⟩ => by
  obtain ⟨ds', h1, hl, h2⟩ := fLst_some hf
  cases h2
  exact tDs.of rp h1 fun vs H1 x1 r1 q1 => ⟨by rw [DpAll.len q1]; exact small64 hl, fun p np => kk p vs _ (x1.trans (Xt.upd np)) (r1.tabs.new np) (x1.there np) upd_same (DpAll.mono (fun b o e => by
    obtain ⟨e1, e2⟩ := hide_some e
    have hne := ne_of_none e2 np
    exact .inl (hide_of (fun z => (List.mem_cons.mp z).elim hne e1) (by rw [upd_ne hne]; exact e2))) q1)⟩
/-- x.append(e) -/
theorem s_app {i : Nat} {x : Str} {px ap : Pos} (hN : X.N[i]? = some x := by rfl) (hv : Vis X.env.scope x := by first | exact Or.inl rfl | exact Or.inr (Or.inl rfl) | exact Or.inr (Or.inr rfl)) (ha : DE X Ts e f) (hd : (x == ("__debug__" : Str)) = false := by decide) (hcd : (x == ("__classdict__" : Str)) = false := by decide) {cpos : Pos}
    (hbase : attributeBase (.Name x px) "append" X.env (eval (.Name x px) X.env) = eval (.Name x px) X.env := by rfl)
    (hfew : ((backTo cpos (starEach [e] X.env)).all (fun x => !x.1) && (backToKw cpos (keywordEach [] X.env)).all (fun x => x.1.isSome) && decide ([e].length + ([] : List Keyword).length + (if ([] : List Keyword).isEmpty then 0 else 1) < 30)) = true := by rfl)
    (hline : (ap.endLine == cpos.line) = true := by rfl) (hs : starEach [e] X.env = (false, eval e X.env) :: starEach [] X.env := by rfl) (hplain : (backTo cpos (starEach [] X.env)).any (·.1) = false := by rfl)
    (hsw : swapsWith (.Call (.Attribute (.Name x px) "append" ap) [e] [] cpos) none pos.line X.env = pure false := by rfl) :
    DS X Ts (.Expr (.Call (.Attribute (.Name x px) "append" ap) [e] [] cpos) pos) (sApp i f) :=
  PS.imp (ps_expr (pe_bm (t := tCons (tD X.K Ts f) tNil) PySem.F.plainAttrs_list PySem.F.slot_list_append PySem.F.type_list_append mt_append (pe_var hN hv hd hcd) (pa_cons ha pa_nil hs) hbase hfew hline hs hplain) hsw) fun D σ H ⟨He, O₀, Vz, en, r, rp, hf, k⟩ => by
    unfold sApp at hf
    obtain ⟨d, h1, h2⟩ := Option.bind_eq_some_iff.mp hf
    split at h2
    · rename_i ds hd
      split at h2
      · rename_i hl
        cases h2
        obtain ⟨O, a1, a2, rp, xv⟩ := rp
        obtain ⟨a, vs, p1, p2, p3, p4, p5⟩ := rp.own i ds hd
        have hi : i < en.length := (List.getElem?_eq_some_iff.mp hd).1
        refine ⟨.ref a, p1, .inl ⟨rfl, _, .inl (.inl p4)⟩, tD.of rp h1 fun v H1 x1 r1 q1 => ?_⟩
        have p4' := x1.get a _ p4 (fun _ z => nomatch z)
        have p5' := DpAll.mono (hide_mono (O := O) x1) p5
        refine ⟨a, vs, v, rfl, rfl, p4', by rw [DpAll.len p5, sizeLine_eq]; omega, k σ _ ⟨O, a1, a2, ?_, xv.trans ((hide_mono x1).trans (hide_upd p2))⟩⟩
        have hu : Xt (hide H1 O) (hide (upd H1 a (.lst (vs ++ [v]))) O) := hide_upd p2
        refine ⟨by simp [rp.len], fun j d' h => ?_, fun j es h => ?_, fun j kk es es' aa h1 h2 h3 h4 => ?_, fun b hb => ?_, fun b o e => ?_, r1.tabs.upd fun u z => by rw [p4'] at z; cases z; exact lst_noc⟩
        · have hj : i ≠ j := fun z => by subst z; rw [List.getElem?_set_self hi] at h; cases h
          rw [List.getElem?_set_ne hj] at h
          obtain ⟨u, q1, q2⟩ := r1.dat j d' h
          exact ⟨u, q1, Dp.mono hu q2⟩
        · by_cases hj : i = j
          · subst hj
            rw [List.getElem?_set_self hi] at h
            cases h
            exact ⟨a, vs ++ [v], p1, p2, p3, upd_same, DpAll.app (DpAll.mono hu p5') (.cons (Dp.mono hu q1) .nil)⟩
          · rw [List.getElem?_set_ne hj] at h
            obtain ⟨a', vs', q1, q2, q3, q4, q5⟩ := r1.own j es h
            have hne : a' ≠ a := fun z => hj (by subst z; exact rp.inj i j ds es a' hd h p1 q1)
            exact ⟨a', vs', q1, q2, q3, by rw [upd_ne hne]; exact q4, DpAll.mono hu q5⟩
        · have toOwn : ∀ (j : Nat) (es : List PyData), (en.set i (Slot.own (ds ++ [d])))[j]? = some (Slot.own es) → ∃ es', en[j]? = some (Slot.own es') := fun j es h => by
            by_cases hj : i = j
            · subst hj; exact ⟨ds, hd⟩
            · rw [List.getElem?_set_ne hj] at h; exact ⟨es, h⟩
          obtain ⟨e1, g1⟩ := toOwn j es h1
          obtain ⟨e2, g2⟩ := toOwn kk es' h2
          exact rp.inj j kk e1 e2 aa g1 g2 h3 h4
        · by_cases z : b = a
          · rw [z, upd_same]
            exact ⟨by simp, fun ps z => nomatch z⟩
          · rw [upd_ne z]
            exact r1.occ b hb
        · have hne : b ≠ a := fun z => by rw [z, p3] at e; cases e
          rw [upd_ne hne]
          exact r1.ext b o e
      · cases h2
    · cases h2
theorem s_if {c : Expr} {a b : List Stmt} {t : En → Option Bool} (hc : DT X Ts c t) (ha : DSs X Ts a F) (hb : DSs X Ts b G) : DS X Ts (.If c a b pos) (sIf t F G) := PS.imp (ps_if hc ha hb) fun D σ H ⟨He, O₀, Vz, en, r, rp, hf, k⟩ => by
  unfold sIf at hf
  obtain ⟨O, a1, a2, rp, xv⟩ := rp
  split at hf
  · rename_i h
    exact tT.of rp h fun H1 x1 r1 => iteT ⟨He, O₀, Vz, en, r, ⟨O, a1, a2, r1, xv.trans (hide_mono x1)⟩, hf, k⟩
  · rename_i h
    exact tT.of rp h fun H1 x1 r1 => iteF ⟨He, O₀, Vz, en, r, ⟨O, a1, a2, r1, xv.trans (hide_mono x1)⟩, hf, k⟩
  · cases hf
theorem s_ret (he : DE X Ts e f) : DS X Ts (.Return (some e) pos) (sRet f) := PS.imp (ps_ret he) fun D σ H ⟨He, O₀, Vz, en, r, rp, hf, k⟩ => by
  unfold sRet at hf
  obtain ⟨d, h1, rfl⟩ := Option.map_eq_some_iff.mp hf
  obtain ⟨O, a1, a2, rp, xv⟩ := rp
  exact tD.of rp h1 fun v H1 x1 r1 q1 => k v H1 r1.ext r1.tabs (Dp.mono (hide_sub a1) q1)
theorem s_retN : DS X Ts (.Return none pos) (sRet (fLit .none)) := PS.imp ps_retN fun D σ H ⟨He, O₀, Vz, en, r, rp, hf, k⟩ => by
  cases hf
  obtain ⟨O, a1, a2, rp, xv⟩ := rp
  exact k _ H rp.ext rp.tabs .non
theorem s_expr (he : DE X Ts e f) (hs : swapsWith e none pos.line X.env = pure false := by rfl) : DS X Ts (.Expr e pos) (sExpr f) := PS.imp (ps_expr he hs) fun D σ H ⟨He, O₀, Vz, en, r, rp, hf, k⟩ => by
  unfold sExpr at hf
  obtain ⟨d, h1, rfl⟩ := Option.map_eq_some_iff.mp hf
  obtain ⟨O, a1, a2, rp, xv⟩ := rp
  exact tD.of rp h1 fun v H1 x1 r1 q1 => k σ H1 ⟨O, a1, a2, r1, xv.trans (hide_mono x1)⟩
theorem s_never : DS X Ts st sNever := PS.imp ps_never fun D σ H ⟨He, O₀, Vz, en, r, rp, hf, k⟩ => by cases hf
theorem s_pass : DS X Ts (.Pass pos) sNil := PS.imp ps_pass fun D σ H ⟨He, O₀, Vz, en, r, rp, hf, k⟩ => by cases hf; exact k σ H rp
theorem s_break : DS X Ts (.Break pos) sBk := PS.imp ps_break fun D σ H ⟨He, O₀, Vz, en, r, rp, hf, k⟩ => by cases hf; exact k σ H rp
theorem s_continue : DS X Ts (.Continue pos) sCt := PS.imp ps_continue fun D σ H ⟨He, O₀, Vz, en, r, rp, hf, k⟩ => by cases hf; exact k σ H rp
/-- a, b = x, y -/
theorem s_par {i j : Nat} {x y : Str} {a b : Expr} {px py pt : Pos} {kt k2 pt2} (hc : X.calm = true) (hN : X.N.Nodup) (hi : X.N[i]? = some x) (hj : X.N[j]? = some y) (hij : i ≠ j)
    (hx : X.env.scope.names.lookup x = some .local) (hy : X.env.scope.names.lookup y = some .local) (ha : DE X Ts a f) (hb : DE X Ts b g) (hw : swappedStores [.Tuple [.Name x px, .Name y py] kt pt] (.Tuple [a, b] k2 pt2) X.env = pure (some [x, y]))
    (hs1 : starEach [a, b] X.env = (false, eval a X.env) :: starEach [b] X.env := by rfl) (hs2 : starEach [b] X.env = (false, eval b X.env) :: starEach [] X.env := by rfl)
    (hs : swapsWithSole [.Tuple [.Name x px, .Name y py] kt pt] (.Tuple [a, b] k2 pt2) pos.line X.env = pure false := by rfl) : DS X Ts (.Assign [.Tuple [.Name x px, .Name y py] kt pt] (.Tuple [a, b] k2 pt2) pos) (sPar i j f g) :=
  PS.imp (ps_par hc hN hi hj hij hx hy (pa_cons ha (pa_cons hb pa_nil hs2) hs1) hw hs) fun D σ H ⟨He, O₀, Vz, en, r, rp, hf, k⟩ => by
    unfold sPar at hf
    obtain ⟨d1, h1, hf1⟩ := Option.bind_eq_some_iff.mp hf
    obtain ⟨d2, h2, hf2⟩ := Option.bind_eq_some_iff.mp hf1
    obtain ⟨e1, h3, hf3⟩ := Option.bind_eq_some_iff.mp hf2
    obtain ⟨e2, h4, rfl⟩ := Option.map_eq_some_iff.mp hf3
    obtain ⟨O, a1, a2, rp, xv⟩ := rp
    refine tD.of rp h1 fun v H1 x1 r1 q1 => tD.of r1 h2 fun w H2 x2 r2 q2 => ⟨v, w, rfl, k _ H2 ?_⟩
    unfold bName at h3 h4
    split at h3
    · rename_i hi'
      cases h3
      split at h4
      · rename_i hj'
        cases h4
        exact ⟨O, a1, a2, (r2.setD hi' (Dp.mono (hide_mono x2) q1)).setD hj' q2, xv.trans (hide_mono (x1.trans x2))⟩
      · cases h4
    · cases h3
/-- x += e of ints -/
theorem s_aug {i : Nat} {x : Str} {op : Operator} {h : Int → Int → Int} {pos' : Pos} (hN : X.N.Nodup) (hi : X.N[i]? = some x) (hx : Loc X.env.scope x) (he : DE X Ts e f) (ho : PIp X op (ipI h)) (hf : X.fn x = true ∨ X.env.scope.names.lookup x = some .local := by first | exact .inl rfl | exact .inr rfl | assumption) :
    DS X Ts (.AugAssign (.Name x pos') op e pos) (sAug i (gI fun a b => .int (h a b)) f) := PS.imp (ps_aug hN hi hx he ho hf) fun D σ H ⟨He, O₀, Vz, en, r, rp, hf, k⟩ => by
  unfold sAug at hf
  obtain ⟨d1, h1, hf1⟩ := Option.bind_eq_some_iff.mp hf
  obtain ⟨d2, h2, hf2⟩ := Option.bind_eq_some_iff.mp hf1
  obtain ⟨d3, h3, hf3⟩ := Option.bind_eq_some_iff.mp hf2
  obtain ⟨e1, h4, rfl⟩ := Option.map_eq_some_iff.mp hf3
  clear hf hf1 hf2 hf3
  obtain ⟨O, a1, a2, rp, xv⟩ := rp
  unfold fVar at h1
  split at h1
  · rename_i d' hd
    cases h1
    obtain ⟨v, p1, p2⟩ := rp.dat i _ hd
    refine ⟨v, p1, tD.of rp h2 fun w H1 x1 r1 q1 => ?_⟩
    cases p2 <;> cases q1 <;> simp only [gI] at h3 <;> try cases h3
    exact ⟨_, _, rfl, rfl, k _ H1 (RepS.setD a1 a2 r1 h4 (.int _) (xv.trans (hide_mono x1)))⟩
  · cases h1

/-! ### loops -/
theorem for_w {K : PySem.W.Frag} {vs : List Nat} {it : En → Option (List PyData)} {b : PyData → En → Option En} : ∀ D σ H, tS K Ts (sFor it b F) D σ H → tFor (tI K Ts it) (gD K Ts vs b) (tS K Ts F) D σ H := fun D σ H ⟨He, O₀, Vz, en, r, rp, hf, k⟩ => by
  unfold sFor at hf
  obtain ⟨ds, h1, h2⟩ := Option.bind_eq_some_iff.mp hf
  clear hf
  obtain ⟨O, a1, a2, rp, xv⟩ := rp
  refine ⟨He, O, en, ds, rp, h1, fun J H1 x1 t1 gv => ?_⟩
  have xv1 : Xt Vz (hide H1 O) := xv.trans (hide_mono x1)
  refine ⟨fun i m σ2 H2 => m = ds.length - i ∧ i ≤ ds.length ∧ ∃ en2, RepS K Ts He O₀ (hide H1 O) σ2 H2 en2 ∧ forGo b F (ds.drop i) en2 = some r,
    ⟨ds.length, by simp, Nat.zero_le _, en, ⟨O, a1, a2, rp.go x1 t1, Xt.refl _⟩, by simpa using h2⟩, fun i m σ2 H2 hW => ?_⟩
  obtain ⟨rfl, hi, en2, ⟨O2, b1, b2, r2, x12⟩, hgo⟩ := hW
  obtain ⟨g1, g2, g3⟩ := gv O2 H2 x12 (x12.trans hide_out) r2.occ
  have weak : ∀ {σ' H' en'}, RepS K Ts He O₀ (hide H1 O) σ' H' en' → RepS K Ts He O₀ Vz σ' H' en' := fun ⟨O', c1, c2, c3, c4⟩ => ⟨O', c1, c2, c3, xv1.trans c4⟩
  by_cases hlt : i < ds.length
  · rw [List.drop_eq_getElem_cons hlt] at hgo
    unfold forGo at hgo
    obtain ⟨e1, hb1, hgo1⟩ := Option.bind_eq_some_iff.mp hgo
    clear hgo
    refine .inr ⟨g1 i hlt, fun σ' H' => ∃ en2, RepS K Ts He O₀ (hide H1 O) σ' H' en2 ∧ forGo b F (ds.drop (i + 1)) en2 = some r, fun σ' H' c => ⟨ds.length - (i + 1), by omega, rfl, hlt, c⟩, fun x H3 hy => ?_⟩
    obtain ⟨d, hd, x23, t23, qd⟩ := g3 i x H3 hlt hy
    have r3 := r2.go x23 (t23 r2.tabs)
    have hd' : ds[i] = d := by rw [List.getElem?_eq_getElem hlt] at hd; exact Option.some.inj hd
    rw [hd'] at hb1
    refine ⟨He, O2, en2, d, e1, r3, qd, hb1, fun σ4 r4 _ => ?_⟩
    have rs4 : RepS K Ts He O₀ (hide H1 O) σ4 H3 e1 := ⟨O2, b1, b2, r4, x12.trans (hide_mono x23)⟩
    cases hF : F e1 with
    | none => rw [hF] at hgo1; cases hgo1
    | some fl =>
      rw [hF] at hgo1
      refine ⟨He, O₀, hide H1 O, e1, fl, rs4, hF, ?_⟩
      cases fl with
      | nx e2 => exact fun σ' H' r' => ⟨e2, r', hgo1⟩
      | ct e2 => exact fun σ' H' r' => ⟨e2, r', hgo1⟩
      | bk e2 =>
        cases hgo1
        exact fun σ' H' r' => k σ' H' (weak r')
      | rt v =>
        cases hgo1
        exact k
  · have hie : i = ds.length := by omega
    subst hie
    rw [List.drop_of_length_le (Nat.le_refl _)] at hgo
    cases hgo
    exact .inl ⟨g2, k σ2 H2 ⟨O2, b1, b2, r2, xv1.trans x12⟩⟩
theorem s_for {tg iter : Expr} {body : List Stmt} {vs : List Nat} {it : En → Option (List PyData)} {b : PyData → En → Option En} (hp : PassesOwn (model X.prog X.w) X.A X.env X.xe) (hc : X.calm = true) (hi : DI X Ts tg iter it) (hg : DG X Ts tg vs b) (hb : DSs X Ts body F)
    (hs : ∀ x, foldedSetIterable iter X.env x = pure x := by intro _; rfl) : DS X Ts (.For tg iter body [] pos) (sFor it b F) := PS.imp (ps_for hp hc hi hg hb hs) for_w
theorem while_w {K : PySem.W.Frag} {n : En → Nat} {t : En → Option Bool} : ∀ D σ H, tS K Ts (sWhile n t F) D σ H → tWhile (tT K Ts t) (tS K Ts F) D σ H := fun D σ H ⟨He, O₀, Vz, en, r, rp, hf, k⟩ => by
  unfold sWhile at hf
  refine ⟨fun m σ2 H2 => ∃ en2, RepS K Ts He O₀ Vz σ2 H2 en2 ∧ whGo t F m en2 = some r, ⟨n en, en, rp, hf⟩, fun m σ2 H2 ⟨en2, rs, hgo⟩ => ?_⟩
  cases m with
  | zero => cases hgo
  | succ m =>
    unfold whGo at hgo
    obtain ⟨O, a1, a2, rp2, xv⟩ := rs
    cases ht : t en2 with
    | none => rw [ht] at hgo; cases hgo
    | some c =>
      rw [ht] at hgo
      refine tT.of rp2 ht fun H3 x23 r3 => ?_
      have rs3 : RepS K Ts He O₀ Vz σ2 H3 en2 := ⟨O, a1, a2, r3, xv.trans (hide_mono x23)⟩
      cases c with
      | false =>
        cases hgo
        exact iteF (k σ2 H3 rs3)
      | true =>
        refine iteT ⟨fun σ' H' => ∃ en2, RepS K Ts He O₀ Vz σ' H' en2 ∧ whGo t F m en2 = some r, fun σ' H' c => ⟨m, Nat.lt_succ_self m, c⟩, ?_⟩
        cases hF : F en2 with
        | none => simp only [hF] at hgo; cases hgo
        | some fl =>
          simp only [hF] at hgo
          refine ⟨He, O₀, Vz, en2, fl, rs3, hF, ?_⟩
          cases fl with
          | nx e2 => exact fun σ' H' r' => ⟨e2, r', hgo⟩
          | ct e2 => exact fun σ' H' r' => ⟨e2, r', hgo⟩
          | bk e2 =>
            cases hgo
            exact k
          | rt v =>
            cases hgo
            exact k
theorem s_while {c : Expr} {body : List Stmt} {t : En → Option Bool} (n : En → Nat) (hp : PassesOwn (model X.prog X.w) X.A X.env X.xe) (hc : DT X Ts c t) (hb : DSs X Ts body F) : DS X Ts (.While c body [] pos) (sWhile n t F) := PS.imp (ps_while hp hc hb) while_w
end

/-! ### defs -/
/-- what a def makes of its arguments' data -/
def runD (n : Nat) (F : En → Option Fl) (ds : List PyData) : Option PyData := match F (ds.map .dat ++ List.replicate (n - ds.length) .no) with
  | some (.rt d) => some d
  | some (.nx _) => some .none
  | _ => none
/-- a def of the text as it stands, its code object told -/
structure DF (K : PySem.W.Frag) (x qual : Str) (st : Stmt) (f : Addr) (fd : FuncData) (cdv : Value) : Prop where
  ex : ∃ (oc : Value) (od : Option Addr) (dV kV doc pm : Value) (an : Option Addr) (ct : Value) (osl : Array (Option Value)),
    fd = PySem.W.fnOf x qual (defArgs st) (defBody st) (defScope st) dV kV doc pm an cdv ct ∧ K.lookup f = some ⟨oc, od, .func fd, osl⟩ ∧ PySem.W.codeIn K cdv qual = true
  kp : PySem.W.keepIn K (.ref f) = true
section
variable {P : Program} {w : World} {K : PySem.W.Frag} {mg : Str → Option Value} {base : Heap} {Ts : TsT}
theorem DF.ok {x qual : Str} {st : Stmt} {f : Addr} {fd : FuncData} {cdv : Value} {N ps : List Str} {k : Nat} {F : En → Option Fl} (D : DF K x qual st f fd cdv) (S : FnScope N ps (defScope st))
    (hbody : ∀ (A : Around) (outer : List Env) (s : Shared) (H : Hp) (E : XK), Room k (A.deeper (envOfC qual (defScope st) s.heap.objs.size f cdv)) → DSs (cxOf CX0 P w K mg base N qual (defScope st) f cdv A outer s H E).nox Ts (defBody st) F) :
    FnOk P w K mg base CX0 (k + 1) f fd ps (spD K Ts ps.length (runD N.length F)) := by
  obtain ⟨oc, od, dV, kV, doc, pm, an, ct, osl, rfl, lk, hcd⟩ := D.ex
  refine fn_of lk hcd S (fun vs H Q E h => h.1) fun A outer s H vs Q E hr hsp => ?_
  refine ⟨_, (hbody A outer s H E hr).nox, ?_⟩
  obtain ⟨hl, O, ds, d, q, t, occ, hF, kk⟩ := hsp
  unfold runD at hF
  have hlen := DpAll.len q
  have rp : Rep K Ts H O (L2.start N vs) H (ds.map .dat ++ List.replicate (N.length - ds.length) .no) := by
    refine ⟨by simp [L2.start, hlen], fun i d h => ?_, fun i es h => ?_, fun i j es es' a h => ?_, occ, Xt.refl H, t⟩
    · by_cases hi : i < ds.length
      · rw [List.getElem?_append_left (by simpa using hi), List.getElem?_map] at h
        obtain ⟨d', h1, h2⟩ := Option.map_eq_some_iff.mp h
        cases h2
        obtain ⟨v, h3, h4⟩ := DpAll.get' q h1
        refine ⟨v, ?_, h4⟩
        unfold L2.start
        rw [List.getElem?_append_left (by simp; omega), List.getElem?_map, h3]
        rfl
      · rw [List.getElem?_append_right (by simpa using hi), List.getElem?_replicate] at h
        split at h <;> cases h
    · by_cases hi : i < ds.length
      · rw [List.getElem?_append_left (by simpa using hi), List.getElem?_map] at h
        obtain ⟨d', h1, h2⟩ := Option.map_eq_some_iff.mp h
        cases h2
      · rw [List.getElem?_append_right (by simpa using hi), List.getElem?_replicate] at h
        split at h <;> cases h
    · by_cases hi : i < ds.length
      · rw [List.getElem?_append_left (by simpa using hi), List.getElem?_map] at h
        obtain ⟨d', h1, h2⟩ := Option.map_eq_some_iff.mp h
        cases h2
      · rw [List.getElem?_append_right (by simpa using hi), List.getElem?_replicate] at h
        split at h <;> cases h
  have rs : RepS K Ts H O (fun _ => none) (L2.start N vs) H (ds.map .dat ++ List.replicate (N.length - ds.length) .no) := ⟨O, fun b hb => hb, fun b hb => (occ b hb).1, rp, fun b o e => nomatch e⟩
  split at hF
  · rename_i d' hf
    cases hF
    exact ⟨H, O, _, _, _, rs, hf, fun v H' x t q => kk v H' x t q⟩
  · rename_i e' hf
    cases hF
    refine ⟨H, O, _, _, _, rs, hf, fun σ' H' r' => ?_⟩
    obtain ⟨O', a1, a2, r1, _⟩ := r'
    exact kk .non H' r1.ext r1.tabs .non
  · cases hF
theorem df_mk {x qual : Str} {st : Stmt} {f : Addr} {oc : Value} {od an : Option Addr} {osl : Array (Option Value)} {dV kV doc pm cdv ct : Value} (l : K.lookup f = some ⟨oc, od, .func (PySem.W.fnOf x qual (defArgs st) (defBody st) (defScope st) dV kV doc pm an cdv ct), osl⟩)
    (c : PySem.W.codeIn K cdv qual = true) (k : PySem.W.keepIn K (.ref f) = true) : DF K x qual st f (PySem.W.fnOf x qual (defArgs st) (defBody st) (defScope st) dV kV doc pm an cdv ct) cdv := ⟨⟨oc, od, dV, kV, doc, pm, an, ct, osl, rfl, l, c⟩, k⟩
end
end DN
set_option Elab.async false
set_option linter.all false
set_option maxRecDepth 100000
set_option maxHeartbeats 4000000
namespace DN
open PySem PySem.Spec PyProof.Rows L2
/-! ### ints or tuples, lists or tuples -/
section
variable {X : Cx} {Ts : TsT} {pos p : Pos} {tg e e2 : Expr} {f g : En → Option PyData}
def gPlus : PyData → PyData → Option PyData
  | .int i, .int j => some (.int (i + j))
  | .tuple xs, .tuple ys => if xs.length + ys.length ≤ 1000000 then some (.tuple (xs ++ ys)) else none
  | .list xs, .list ys => if xs.length + ys.length ≤ 1000000 then some (.list (xs ++ ys)) else none
  | _, _ => none
def fPlus := f2 gPlus
/-! lists of any kind, one behind the other -/
def rCatL (K : PySem.W.Frag) : R2 := fun x y H Q => ∃ a b xs ys, x = .ref a ∧ y = .ref b ∧ SqL K H a xs ∧ SqL K H b ys ∧ xs.length + ys.length ≤ sizeLine ∧ ∀ p, H p = none → Q (.ref p) (upd H p (.lst (xs ++ ys)))
theorem op_catL : OpR X (binaryOp .Add) (rCatL X.K) := by
  intro pins s σ H x y v u Q I rx ry h
  obtain ⟨a, b, xs, ys, rfl, rfl, ha, hb, hz, q⟩ := h
  cases rx
  cases ry
  obtain ⟨is1, r1, ⟨⟨c1, d1, t1, l1⟩, n1, g1, gc1, _, gd1⟩, _⟩ := I.list ha
  obtain ⟨is2, r2, ⟨⟨c2, d2, t2, l2⟩, n2, g2, gc2, _, gd2⟩, _⟩ := I.list hb
  simp only at gc1 gd1 gc2 gd2
  subst gc1 gd1 gc2 gd2
  have len1 := r1.length
  have len2 := r2.length
  have small : is1.toArray.size + is2.toArray.size ≤ sizeLine := by
    rw [List.size_toArray, List.size_toArray]
    omega
  refine concat_meets ⟨_, g1, rfl⟩ ⟨_, g2, rfl⟩ noFill_list_add seq_list_add PySem.F.slot_list_add PySem.F.entry_list_add (PySem.F.args_list_add_2 _ _)
    (list_addW a b is1.toArray is2.toArray n1 n2 d1 d2 l1 l2 small) ⟨g1, g2, ?_⟩
  have joined : is1.toArray ++ is2.toArray = (is1 ++ is2).toArray := by simp
  rw [joined]
  exact ⟨.ref _, _, I.lnew (t' := s.toks) (r1.append r2) (by rw [List.length_append]; omega), rfl, q _ I.fresh⟩
theorem op_plus : OpR X (binaryOp .Add) (fun x y H Q => rI0 (fun i j => .int (i + j)) x y H Q ∨ rCatA X.K x y H Q ∨ rCatL X.K x y H Q) := by
  intro pins s σ H x y v u Q I rx ry h
  rcases h with h | h | h
  · exact op_add pins s σ H x y v u Q I rx ry h
  · exact op_catA pins s σ H x y v u Q I rx ry h
  · exact op_catL pins s σ H x y v u Q I rx ry h
theorem d_plus (ha : DE X Ts e f) (hb : DE X Ts e2 g) : DE X Ts (.BinOp e .Add e2 pos) (fPlus f g) := PE.imp (pe_op op_plus ha hb) fun σ H Q ⟨He, O, en, d, rp, hf, kk⟩ => by
  obtain ⟨x, y, h1, h2, h3⟩ := f2_some hf
  refine tD.of rp h1 fun v H1 x1 r1 q1 => tD.of r1 h2 fun w H2 x2 r2 q2 => ?_
  have q1 := Dp.mono (hide_mono x2) q1
  cases x <;> cases y <;> simp only [gPlus] at h3 <;> try cases h3
  · cases q1
    cases q2
    exact .inl ⟨_, _, rfl, rfl, kk _ H2 (x1.trans x2) r2.tabs (.int _)⟩
  · split at h3
    · rename_i hl
      cases h3
      cases q1 with
      | lst s1 a1 =>
        cases q2 with
        | lst s2 a2 =>
          have l1 := DpAll.len a1
          have l2 := DpAll.len a2
          exact .inr (.inr ⟨_, _, _, _, rfl, rfl, sqL_mono (fun o n e => (hide_some e).2) s1, sqL_mono (fun o n e => (hide_some e).2) s2, by rw [l1, l2, sizeLine_eq]; omega, fun p np => kk _ _ (x1.trans (x2.trans (Xt.upd np))) (r2.tabs.new np) (lst_new np (new_out r2.occ np) (DpAll.app a1 a2))⟩)
    · cases h3
  · split at h3
    · rename_i hl
      cases h3
      cases q1 with
      | tup s1 a1 =>
        cases q2 with
        | tup s2 a2 =>
          have l1 := DpAll.len a1
          have l2 := DpAll.len a2
          refine .inr (.inl ⟨_, _, _, _, rfl, rfl, sqT_mono (fun o n e => (hide_some e).2) s1, sqT_mono (fun o n e => (hide_some e).2) s2, by rw [l1, l2, sizeLine_eq]; omega, fun e0 => ?_, fun _ e0 => ?_, fun _ _ p np => kk _ _ (x1.trans (x2.trans (Xt.upd np))) (r2.tabs.new np) (tup_new np (new_out r2.occ np) (DpAll.app a1 a2))⟩)
          · subst e0
            cases a1
            exact kk _ H2 (x1.trans x2) r2.tabs (.tup s2 a2)
          · subst e0
            cases a2
            rw [List.append_nil] at kk
            exact kk _ H2 (x1.trans x2) r2.tabs (.tup s1 a1)
    · cases h3
def iSq (K : PySem.W.Frag) (tl : TE) : TI := fun σ H R => tl σ H fun x H1 => (∃ a, x = .ref a ∧ (∃ xs, SqL K H1 a xs) ∧ R (Itl K a) H1) ∨ (∃ a, x = .ref a ∧ (∃ xs, SqT K H1 a xs) ∧ R (Itt K a) H1)
theorem pi_sq {l : Expr} {tl : TE} (hl : PE X l tl) : PI X tg l (iSq X.K tl) := by
  refine ⟨fun pins s σ H R I h => ?_⟩
  refine thn (hl.run pins s σ H _ I h) fun v s1 ⟨x, H1, I1, r1, q1⟩ => ?_
  rcases q1 with ⟨a, e, ⟨xs, hq⟩, q⟩ | ⟨a, e, ⟨xs, hq⟩, q⟩
  · subst e
    cases r1
    obtain ⟨its, rv, p, hz⟩ := I1.list hq
    refine wpAny_pyIter_list p.isList ?_
    refine ⟨s1.heap.objs.size, [s1.heap.objs.size], _, _, H1, rfl, I1.kept (t' := s1.toks) fun b o e => Heap.get?_push_of_some _ e, turn_list a _, ⟨_, Heap.get?_push_size _ rfl, rfl, rfl⟩, fun b hb => ?_, q⟩
    have e : b = s1.heap.objs.size := by simpa using hb
    subst e
    exact I1.fpOk (Nat.le_refl _) (I1.hok.fresh (Nat.le_refl _))
  · subst e
    cases r1
    obtain ⟨its, rv, p, hz⟩ := I1.tuple hq
    refine wpAny_pyIter_tuple (show s1.heap.IsTuple a its.toArray from p) ?_
    refine ⟨s1.heap.objs.size, [s1.heap.objs.size], _, _, H1, rfl, I1.kept (t' := s1.toks) fun b o e => Heap.get?_push_of_some _ e, turn_tuple a _, ⟨_, Heap.get?_push_size _ rfl, rfl, rfl⟩, fun b hb => ?_, q⟩
    have e : b = s1.heap.objs.size := by simpa using hb
    subst e
    exact I1.fpOk (Nat.le_refl _) (I1.hok.fresh (Nat.le_refl _))
def iSeq (f : En → Option PyData) : En → Option (List PyData) := fun en => (f en).bind items
theorem gives_list {K : PySem.W.Frag} {H1 : Hp} {O : List Addr} {l : Addr} {vs : List V} {ds : List PyData} (s : SqL K (hide H1 O) l vs) (a : DpAll K (hide H1 O) vs ds) : Gives K Ts (Itl K l) ds H1 O := fun O' H2 h1 h2 occ => by
  have s2 : SqL K H2 l vs := sqL_mono (fun o n e => h2.get _ o e n) s
  have a2 := DpAll.mono h1 a
  have hl := DpAll.len a
  refine ⟨fun i hi => ⟨vs, vs[i]'(by omega), s2, by simp [hl, hi]⟩, ⟨vs, s2, by omega⟩, fun i x H3 hi hy => ?_⟩
  obtain ⟨rfl, hx⟩ := hy
  obtain ⟨d, hd1, hd2⟩ := DpAll.get a2 (hx vs s2)
  exact ⟨d, hd1, Xt.refl _, id, hd2⟩
theorem gives_tup {K : PySem.W.Frag} {H1 : Hp} {O : List Addr} {l : Addr} {vs : List V} {ds : List PyData} (s : SqT K (hide H1 O) l vs) (a : DpAll K (hide H1 O) vs ds) : Gives K Ts (Itt K l) ds H1 O := fun O' H2 h1 h2 occ => by
  have s2 : SqT K H2 l vs := sqT_mono (fun o n e => h2.get _ o e n) s
  have a2 := DpAll.mono h1 a
  have hl := DpAll.len a
  refine ⟨fun i hi => ⟨vs, vs[i]'(by omega), s2, by simp [hl, hi]⟩, ⟨vs, s2, by omega⟩, fun i x H3 hi hy => ?_⟩
  obtain ⟨rfl, hx⟩ := hy
  obtain ⟨d, hd1, hd2⟩ := DpAll.get a2 (hx vs s2)
  exact ⟨d, hd1, Xt.refl _, id, hd2⟩
theorem di_seq (h : DE X Ts e f) : DI X Ts tg e (iSeq f) := PI.imp (pi_sq h) fun σ H R ⟨He, O, en, ds, rp, hf, kk⟩ => by
  unfold iSeq at hf
  obtain ⟨d, h1, h2⟩ := Option.bind_eq_some_iff.mp hf
  refine tD.of rp h1 fun v H1 x1 r1 q1 => ?_
  cases d <;> simp only [items] at h2 <;> cases h2
  · cases q1 with
    | lst s a => exact .inl ⟨_, rfl, ⟨_, sqL_mono (fun o n e => (hide_some e).2) s⟩, kk _ H1 x1 r1.tabs (gives_list s a)⟩
  · cases q1 with
    | tup s a => exact .inr ⟨_, rfl, ⟨_, sqT_mono (fun o n e => (hide_some e).2) s⟩, kk _ H1 x1 r1.tabs (gives_tup s a)⟩
theorem d_globE {x : Str} {i : Int} (hg : Gl X x) (hm : ∃ t, X.mg x = some (.int i t)) (hd : (x == ("__debug__" : Str)) = false := by decide) : DE X Ts (.Name x pos) (fLit (.int i)) := by
  obtain ⟨t, hm⟩ := hm
  exact d_glob hg hm hd
end
theorem room_gen {j : Nat} {A : Around} (r : Room (j + 1) A) (env : Env) : Room j (A.in1.in1.deeper env) :=
  ⟨r.hd, by have := r.dp; show A.depth + 1 + 3 * j + 5 < _; omega, by have := r.un; show A.units + 1 + 1 + 3 + 16 * j + 200 < _; omega⟩
/-- a def of the program where it stands, by its promise -/
structure CF (P : Program) (w : World) (K : PySem.W.Frag) (mg : Str → Option Value) (base : Heap) (Ts : TsT) (k : Nat) (x : Str) (n : Nat) (F : List PyData → Option PyData) : Prop where
  ex : ∃ f fd ps dvs us dd G, mg x = some (.ref f) ∧ PySem.W.keepIn K (.ref f) = true ∧ Binds K fd ps us ∧ Vals dvs us ∧ (∀ H, DpAll K H dvs dd) ∧ FnOk P w K mg base CX0 k f fd ps (spD K Ts (n + dd.length) G) ∧ ∀ xs d, xs.length = n → F xs = some d → G (xs ++ dd) = some d
theorem CF.imp {P : Program} {w : World} {K : PySem.W.Frag} {mg : Str → Option Value} {base : Heap} {Ts : TsT} {k : Nat} {x : Str} {n : Nat} {F G : List PyData → Option PyData} (c : CF P w K mg base Ts k x n F) (h : ∀ ds d, G ds = some d → F ds = some d) : CF P w K mg base Ts k x n G := by
  obtain ⟨f, fd, ps, dvs, us, dd, G', h1, h2, h3, h4, h5, h6, h7⟩ := c.ex
  exact ⟨f, fd, ps, dvs, us, dd, G', h1, h2, h3, h4, h5, h6, fun xs d hl e => h7 xs d hl (h xs d e)⟩
theorem CF.call {X : Cx} {Ts : TsT} {k : Nat} {x : Str} {n : Nat} {F : List PyData → Option PyData} (c : CF X.prog X.w X.K X.mg X.base Ts k x n F) : DFn X Ts k x n F := ⟨c.ex⟩
/-- a def without defaults -/
theorem CF.of {P : Program} {w : World} {K : PySem.W.Frag} {mg : Str → Option Value} {base : Heap} {Ts : TsT} {k : Nat} {x : Str} {n : Nat} {F : List PyData → Option PyData} {f : Addr} {fd : FuncData} {ps : List Str} (h1 : mg x = some (.ref f)) (h2 : PySem.W.keepIn K (.ref f) = true) (h3 : Binds K fd ps []) (h4 : FnOk P w K mg base CX0 k f fd ps (spD K Ts n F)) : CF P w K mg base Ts k x n F :=
  ⟨f, fd, ps, [], [], [], F, h1, h2, h3, .nil, fun _ => .nil, h4, fun xs d _ e => by rw [List.append_nil]; exact e⟩
/-- a def whose last default, an int, stands for its last argument -/
theorem CF.ofD {P : Program} {w : World} {K : PySem.W.Frag} {mg : Str → Option Value} {base : Heap} {Ts : TsT} {k : Nat} {x : Str} {n : Nat} {F : List PyData → Option PyData} {f : Addr} {fd : FuncData} {ps : List Str} {i : Int} {us : List Value} (h1 : mg x = some (.ref f)) (h2 : PySem.W.keepIn K (.ref f) = true) (h3 : Binds K fd ps us) (hv : Vals [V.int i] us) (h4 : FnOk P w K mg base CX0 k f fd ps (spD K Ts (n + 1) F)) : CF P w K mg base Ts k x n (fun ds => F (ds ++ [.int i])) :=
  ⟨f, fd, ps, [V.int i], us, [.int i], F, h1, h2, h3, hv, fun _ => .cons (.int i) .nil, h4, fun xs d _ e => e⟩
end DN
set_option Elab.async false
set_option linter.all false
set_option maxRecDepth 100000
set_option maxHeartbeats 4000000
namespace DN
open PySem PySem.Spec PyProof.Rows L2
/-! ### code that draws: a row [script, place, number, rest] is at hand; what an expression gives is any datum of some -/
def RowOk (rw : List PyData) : Prop := ∃ (ns : List Int) (i m c : Int), rw = [.list (ns.map .int), .int i, .int m, .int c] ∧ ns.length ≤ 63 ∧ 0 ≤ i ∧ 0 ≤ m ∧ m < 2147483647 ∧ 0 ≤ c
def WRep (K : PySem.W.Frag) (Ts : TsT) (ρ : Nat) (He : Hp) (O : List Addr) (σ : St) (H : Hp) (en : En) : Prop := ρ < en.length ∧ ∃ rw, RowOk rw ∧ Rep K Ts He O σ H (en.set ρ (.own rw))
/-- all but the list at a stays -/
def XtB (a : Addr) (H H' : Hp) : Prop := ∀ b o, b ≠ a → H b = some o → H' b = some o ∨ ∃ ps qs, o = .tbl ps ∧ H' b = some (.tbl qs)
theorem XtB.trans {a : Addr} {H H1 H2 : Hp} (x : XtB a H H1) (y : XtB a H1 H2) : XtB a H H2 := fun b o hb e => by
  rcases x b o hb e with q | ⟨ps, qs, e1, q⟩
  · exact y b o hb q
  · rcases y b _ hb q with q' | ⟨_, qs', _, q'⟩
    · exact .inr ⟨ps, qs, e1, q'⟩
    · exact .inr ⟨ps, qs', e1, q'⟩
theorem XtB.of {a : Addr} {H H1 : Hp} (x : Xt H H1) : XtB a H H1 := fun b o _ e => x b o e
/-- all but the row stays -/
def Xw (ρ : Nat) (σ : St) (O : List Addr) (H H' : Hp) : Prop := Xt (hide H O) (hide H' O) ∧ ∀ a, σ[ρ]? = some (some (V.ref a)) → XtB a H H'
theorem Xw.refl {ρ : Nat} {σ : St} {O : List Addr} (H : Hp) : Xw ρ σ O H H := ⟨Xt.refl _, fun _ _ => .of (Xt.refl _)⟩
theorem Xw.of {ρ : Nat} {σ : St} {O : List Addr} {H H' : Hp} (x : Xt H H') : Xw ρ σ O H H' := ⟨hide_mono x, fun _ _ => .of x⟩
theorem Xw.trans {ρ : Nat} {σ : St} {O : List Addr} {H H1 H2 : Hp} (x : Xw ρ σ O H H1) (y : Xw ρ σ O H1 H2) : Xw ρ σ O H H2 := ⟨x.1.trans y.1, fun a h => (x.2 a h).trans (y.2 a h)⟩
abbrev WF := En → (PyData → Prop) → Prop
def tW (K : PySem.W.Frag) (Ts : TsT) (ρ : Nat) (F : WF) : TE := fun σ H Q => ∃ He O en Qd, WRep K Ts ρ He O σ H en ∧ F en Qd ∧ ∀ d v H', Qd d → WRep K Ts ρ He O σ H' en → Dp K (hide H' O) v d → Xw ρ σ O H H' → Q v H'
def tWs (K : PySem.W.Frag) (Ts : TsT) (ρ : Nat) (F : En → (List PyData → Prop) → Prop) : TA := fun σ H Q => ∃ He O en Qd, WRep K Ts ρ He O σ H en ∧ F en Qd ∧ ∀ ds vs H', Qd ds → WRep K Ts ρ He O σ H' en → DpAll K (hide H' O) vs ds → Xw ρ σ O H H' → Q vs H'
def tWT (K : PySem.W.Frag) (Ts : TsT) (ρ : Nat) (F : En → (Bool → Prop) → Prop) : TT := fun σ H Q => ∃ He O en Qd, WRep K Ts ρ He O σ H en ∧ F en Qd ∧ ∀ b H', Qd b → WRep K Ts ρ He O σ H' en → Xw ρ σ O H H' → Q b H'
abbrev WE (X : Cx) (Ts : TsT) (ρ : Nat) (e : Expr) (F : WF) : Prop := PE X e (tW X.K Ts ρ F)
abbrev WA (X : Cx) (Ts : TsT) (ρ : Nat) (es : List Expr) (F : En → (List PyData → Prop) → Prop) : Prop := PA X es (tWs X.K Ts ρ F)
abbrev WT (X : Cx) (Ts : TsT) (ρ : Nat) (e : Expr) (F : En → (Bool → Prop) → Prop) : Prop := PT X e (tWT X.K Ts ρ F)
theorem WRep.tabs' {K : PySem.W.Frag} {Ts : TsT} {ρ : Nat} {He : Hp} {O : List Addr} {σ : St} {H : Hp} {en : En} (r : WRep K Ts ρ He O σ H en) : Tb Ts H := let ⟨_, _, _, r⟩ := r; r.tabs
theorem WRep.occ {K : PySem.W.Frag} {Ts : TsT} {ρ : Nat} {He : Hp} {O : List Addr} {σ : St} {H : Hp} {en : En} (r : WRep K Ts ρ He O σ H en) : ∀ b ∈ O, H b ≠ none ∧ ∀ ps, H b ≠ some (.tbl ps) := let ⟨_, _, _, r⟩ := r; r.occ
theorem WRep.go {K : PySem.W.Frag} {Ts : TsT} {ρ : Nat} {He : Hp} {O : List Addr} {σ : St} {H H' : Hp} {en : En} (r : WRep K Ts ρ He O σ H en) (x : Xt H H') (t : Tb Ts H') : WRep K Ts ρ He O σ H' en := let ⟨a, rw, b, c⟩ := r; ⟨a, rw, b, c.go x t⟩
/-- what is plain -/
def wP (ρ : Nat) (f : En → Option PyData) : WF := fun en Q => ∃ d, (∀ rw, f (en.set ρ (.own rw)) = some d) ∧ Q d
def wT (ρ : Nat) (f : En → Option Bool) : En → (Bool → Prop) → Prop := fun en Q => ∃ b, (∀ rw, f (en.set ρ (.own rw)) = some b) ∧ Q b
/-- an operator by its data -/
def Op2 (K : PySem.W.Frag) (Ts : TsT) (r : R2) (g : PyData → PyData → Option PyData) : Prop := ∀ x y v w d H O Q, g x y = some d → Dp K (hide H O) v x → Dp K (hide H O) w y → Tb Ts H → (∀ b ∈ O, H b ≠ none ∧ ∀ ps, H b ≠ some (.tbl ps)) → (∀ u H', Xt H H' → Tb Ts H' → Dp K (hide H' O) u d → Q u H') → r v w H Q
def w2 (g : PyData → PyData → Option PyData) (F G : WF) : WF := fun en Q => F en fun x => G en fun y => ∃ d, g x y = some d ∧ Q d
def w1 (g : PyData → Option PyData) (F : WF) : WF := fun en Q => F en fun x => ∃ d, g x = some d ∧ Q d
section
variable {K : PySem.W.Frag} {X : Cx} {Ts : TsT} {ρ : Nat} {pos p : Pos} {e e2 : Expr} {es : List Expr} {f : En → Option PyData} {F G : WF}
theorem we_pure (h : DE X Ts e f) : WE X Ts ρ e (wP ρ f) := PE.imp h fun σ H Q ⟨He, O, en, Qd, ⟨hl, rw, hr, rp⟩, ⟨d, hf, hq⟩, kk⟩ =>
  tD.of rp (hf rw) fun v H' x r' q => kk d v H' hq ⟨hl, rw, hr, r'⟩ q (Xw.of x)
theorem wt_pure {t : En → Option Bool} (h : DT X Ts e t) : WT X Ts ρ e (wT ρ t) := PT.imp h fun σ H Q ⟨He, O, en, Qd, ⟨hl, rw, hr, rp⟩, ⟨d, hf, hq⟩, kk⟩ =>
  tT.of rp (hf rw) fun H' x r' => kk d H' hq ⟨hl, rw, hr, r'⟩ (Xw.of x)
theorem ww_2 {r : R2} {g : PyData → PyData → Option PyData} (k : Op2 K Ts r g) : ∀ σ H Q, tW K Ts ρ (w2 g F G) σ H Q → tOp r (tW K Ts ρ F) (tW K Ts ρ G) σ H Q := fun σ H Q ⟨He, O, en, Qd, rp, hF, kk⟩ =>
  ⟨He, O, en, _, rp, hF, fun x v H1 hx r1 q1 x1 => ⟨He, O, en, _, r1, hx, fun y w H2 ⟨d, hg, hd⟩ r2 q2 x2 =>
    k x y v w d H2 O Q hg (Dp.mono x2.1 q1) q2 r2.tabs' r2.occ fun u H' x3 t3 q3 => kk d u H' hd (r2.go x3 t3) q3 (x1.trans (x2.trans (Xw.of x3)))⟩⟩
theorem op2_i {g : Int → Int → PyData} {gv : Int → Int → V} (hv : ∀ i j K H, Dp K H (gv i j) (g i j)) : Op2 K Ts (rI0 gv) (gI g) := fun x y v w d H O Q hg q1 q2 ht _ kk => by
  cases q1 <;> cases q2 <;> simp only [gI] at hg <;> try cases hg
  exact ⟨_, _, rfl, rfl, kk _ H (Xt.refl H) ht (hv ..)⟩
theorem op2_ic {C : Int → Int → Prop} {c : Int → Int → Bool} {g : Int → Int → PyData} {gv : Int → Int → V} (hC : ∀ i j, c i j = true → C i j) (hv : ∀ i j K H, Dp K H (gv i j) (g i j)) : Op2 K Ts (rI C gv) (gIc c g) := fun x y v w d H O Q hg q1 q2 ht _ kk => by
  cases q1 <;> cases q2 <;> simp only [gIc] at hg <;> try cases hg
  split at hg
  · rename_i hc
    cases hg
    exact ⟨_, _, rfl, rfl, hC _ _ hc, kk _ H (Xt.refl H) ht (hv ..)⟩
  · cases hg
theorem op2_eq : Op2 K Ts (rEqD K) gEq := fun x y v w d H O Q hg q1 q2 ht _ kk => by
  unfold gEq at hg
  split at hg
  · rename_i hs
    rw [Bool.and_eq_true] at hs
    cases hg
    exact ⟨x, y, Dp.mono hide_out q1, Dp.mono hide_out q2, hs.1, hs.2, kk _ H (Xt.refl H) ht (.bl _)⟩
  · cases hg
theorem op2_ne : Op2 K Ts (rNeD K) gNe := fun x y v w d H O Q hg q1 q2 ht _ kk => by
  unfold gNe at hg
  split at hg
  · rename_i hs
    rw [Bool.and_eq_true] at hs
    cases hg
    exact ⟨x, y, Dp.mono hide_out q1, Dp.mono hide_out q2, hs.1, hs.2, kk _ H (Xt.refl H) ht (.bl _)⟩
  · cases hg
theorem op2_plus : Op2 X.K Ts (fun x y H Q => rI0 (fun i j => .int (i + j)) x y H Q ∨ rCatA X.K x y H Q ∨ rCatL X.K x y H Q) gPlus := fun x y v w d H O Q h3 q1 q2 ht occ kk => by
  cases x <;> cases y <;> simp only [gPlus] at h3 <;> try cases h3
  · cases q1
    cases q2
    exact .inl ⟨_, _, rfl, rfl, kk _ H (Xt.refl H) ht (.int _)⟩
  · split at h3
    · rename_i hl
      cases h3
      cases q1 with
      | lst s1 a1 =>
        cases q2 with
        | lst s2 a2 =>
          have l1 := DpAll.len a1
          have l2 := DpAll.len a2
          exact .inr (.inr ⟨_, _, _, _, rfl, rfl, sqL_mono (fun o n e => (hide_some e).2) s1, sqL_mono (fun o n e => (hide_some e).2) s2, by rw [l1, l2, sizeLine_eq]; omega, fun p np => kk _ _ (Xt.upd np) (ht.new np) (lst_new np (new_out occ np) (DpAll.app a1 a2))⟩)
    · cases h3
  · split at h3
    · rename_i hl
      cases h3
      cases q1 with
      | tup s1 a1 =>
        cases q2 with
        | tup s2 a2 =>
          have l1 := DpAll.len a1
          have l2 := DpAll.len a2
          refine .inr (.inl ⟨_, _, _, _, rfl, rfl, sqT_mono (fun o n e => (hide_some e).2) s1, sqT_mono (fun o n e => (hide_some e).2) s2, by rw [l1, l2, sizeLine_eq]; omega, fun e0 => ?_, fun _ e0 => ?_, fun _ _ p np => kk _ _ (Xt.upd np) (ht.new np) (tup_new np (new_out occ np) (DpAll.app a1 a2))⟩)
          · subst e0
            cases a1
            exact kk _ H (Xt.refl H) ht (.tup s2 a2)
          · subst e0
            cases a2
            rw [List.append_nil] at kk
            exact kk _ H (Xt.refl H) ht (.tup s1 a1)
    · cases h3
theorem we_plus (ha : WE X Ts ρ e F) (hb : WE X Ts ρ e2 G) : WE X Ts ρ (.BinOp e .Add e2 pos) (w2 gPlus F G) := PE.imp (pe_op op_plus ha hb) (ww_2 op2_plus)
theorem we_sub (ha : WE X Ts ρ e F) (hb : WE X Ts ρ e2 G) : WE X Ts ρ (.BinOp e .Sub e2 pos) (w2 (gI fun i j => .int (i - j)) F G) := PE.imp (pe_op op_sub ha hb) (ww_2 (op2_i fun _ _ _ _ => .int _))
theorem we_mul (ha : WE X Ts ρ e F) (hb : WE X Ts ρ e2 G) : WE X Ts ρ (.BinOp e .Mult e2 pos) (w2 (gIc cMul fun i j => .int (i * j)) F G) := PE.imp (pe_op op_mulW ha hb) (ww_2 (op2_ic (fun i j h => show CMulW i j from @of_decide_eq_true (i.natAbs.log2 + j.natAbs.log2 < 1000000) _ h) fun _ _ _ _ => .int _))
theorem we_mod (ha : WE X Ts ρ e F) (hb : WE X Ts ρ e2 G) : WE X Ts ρ (.BinOp e .Mod e2 pos) (w2 (gIc cMod fun i j => .int (i.fmod j)) F G) := PE.imp (pe_op op_modN ha hb) (ww_2 (op2_ic (fun i j h => of_decide_eq_true (show decide (j ≠ 0) = true from h)) fun _ _ _ _ => .int _))
def wTB (F : WF) : En → (Bool → Prop) → Prop := fun en Q => F en fun d => ∃ b, d = .bool b ∧ Q b
theorem wt_of {t : TE} (h : PT X e (tTest t)) (w : ∀ σ H Q, tW X.K Ts ρ F σ H Q → t σ H Q) (hm : ∀ en Q Q', (∀ d, Q d → Q' d) → F en Q → F en Q') : WT X Ts ρ e (wTB F) := PT.imp h fun σ H Q ⟨He, O, en, Qd, rp, hF, kk⟩ =>
  w σ H _ ⟨He, O, en, _, rp, hF, fun d v H' ⟨b, hb, hq⟩ r' q x => by subst hb; cases q; exact ⟨b, rfl, kk b H' hq r' x⟩⟩
theorem wt_val (h : WE X Ts ρ e F) (he : ∀ whole, isTrue e X.env whole = (do let v ← whole; standAt e.pos; holding [v] (truthy v)) := by intro _; rfl) : WT X Ts ρ e (wTB F) :=
  PT.imp (pt_val h he) fun σ H Q ⟨He, O, en, Qd, rp, hF, kk⟩ => ⟨He, O, en, _, rp, hF, fun d v H' ⟨b, hb, hq⟩ r' q x => by subst hb; cases q; exact ⟨b, rfl, kk b H' hq r' x⟩⟩
theorem wt_cmp {op : CmpOp} {r : R2} {g : PyData → PyData → Option PyData} (ho : OpR X (compareOp op) r) (k : Op2 X.K Ts r g) (ha : WE X Ts ρ e F) (hb : WE X Ts ρ e2 G) (hm : behindInMarks op e2 = false) : WT X Ts ρ (.Compare e [op] [e2] pos) (wTB (w2 g F G)) :=
  PT.imp (pt_cmpR ho ha hb hm) fun σ H Q ⟨He, O, en, Qd, rp, hF, kk⟩ => ww_2 k σ H _ ⟨He, O, en, _, rp, hF, fun d v H' ⟨b, hb, hq⟩ r' q x => by subst hb; cases q; exact ⟨b, rfl, kk b H' hq r' x⟩⟩
theorem we_cmp {op : CmpOp} {r : R2} {g : PyData → PyData → Option PyData} (ho : OpR X (compareOp op) r) (k : Op2 X.K Ts r g) (ha : WE X Ts ρ e F) (hb : WE X Ts ρ e2 G) (hm : behindInMarks op e2 = false) : WE X Ts ρ (.Compare e [op] [e2] pos) (w2 g F G) := PE.imp (pe_cmpR ho ha hb hm) (ww_2 k)

/-! lists of arguments, displays -/
def wNil : En → (List PyData → Prop) → Prop := fun _ Q => Q []
def wCons (F : WF) (G : En → (List PyData → Prop) → Prop) : En → (List PyData → Prop) → Prop := fun en Q => F en fun x => G en fun xs => Q (x :: xs)
variable {Gs : En → (List PyData → Prop) → Prop}
theorem wa_nil : WA X Ts ρ [] wNil := PA.imp pa_nil fun σ H Q ⟨He, O, en, Qd, rp, hF, kk⟩ => kk [] [] H hF rp .nil (Xw.refl _)
theorem wa_cons (ha : WE X Ts ρ e F) (hr : WA X Ts ρ es Gs) (hs : starEach (e :: es) X.env = (false, eval e X.env) :: starEach es X.env := by rfl) : WA X Ts ρ (e :: es) (wCons F Gs) := PA.imp (pa_cons ha hr hs) fun σ H Q ⟨He, O, en, Qd, rp, hF, kk⟩ =>
  ⟨He, O, en, _, rp, hF, fun x v H1 hx r1 q1 x1 => ⟨He, O, en, _, r1, hx, fun xs vs H2 hxs r2 q2 x2 => kk _ _ H2 hxs r2 (.cons (Dp.mono x2.1 q1) q2) (x1.trans x2)⟩⟩
def wTup (G : En → (List PyData → Prop) → Prop) : WF := fun en Q => G en fun ds => ds.length ≤ 64 ∧ Q (.tuple ds)
def wLst (G : En → (List PyData → Prop) → Prop) : WF := fun en Q => G en fun ds => ds.length ≤ 64 ∧ Q (.list ds)
theorem we_tup {x1} (h : WA X Ts ρ es Gs) : WE X Ts ρ (.Tuple es x1 pos) (wTup Gs) := PE.imp (pe_tup h) fun σ H Q ⟨He, O, en, Qd, rp, hF, kk⟩ =>
  ⟨He, O, en, _, rp, hF, fun ds vs H1 ⟨hl, hq⟩ r1 q1 x1 => ⟨by rw [DpAll.len q1]; exact small64 hl, fun p np => kk _ _ _ hq (r1.go (Xt.upd np) (r1.tabs'.new np)) (tup_new np (new_out r1.occ np) q1) (x1.trans (Xw.of (Xt.upd np)))⟩⟩
theorem we_lst (h : WA X Ts ρ es Gs) : WE X Ts ρ (.List es pos) (wLst Gs) := PE.imp (pe_lst h) fun σ H Q ⟨He, O, en, Qd, rp, hF, kk⟩ =>
  ⟨He, O, en, _, rp, hF, fun ds vs H1 ⟨hl, hq⟩ r1 q1 x1 => ⟨by rw [DpAll.len q1]; exact small64 hl, fun p np => kk _ _ _ hq (r1.go (Xt.upd np) (r1.tabs'.new np)) (lst_new np (new_out r1.occ np) q1) (x1.trans (Xw.of (Xt.upd np)))⟩⟩
/-! tuple(x) -/
theorem we_tuple (hg : Gl X "tuple") (hm : X.mg "tuple" = none) (hv : bootBuiltins "tuple" = some (.type "tuple")) (ha : WE X Ts ρ e F) (he : starEach [e] X.env = (false, eval e X.env) :: starEach [] X.env := by rfl) : WE X Ts ρ (.Call (.Name "tuple" p) [e] [] pos) (w1 gTuple F) :=
  PE.imp (pe_callTy (t := tCons (tW X.K Ts ρ F) tNil) call_tuple_of hg hm hv (pa_cons ha pa_nil he) (by decide) (by decide) he (by rfl)) fun σ H Q ⟨He, O, en, Qd, rp, hF, kk⟩ =>
    ⟨He, O, en, _, rp, hF, fun d v H1 ⟨z, hz, hq⟩ r1 q1 x1 => by
      cases d <;> simp only [gTuple, items, Option.map_some, Option.map_none] at hz <;> try cases hz
      · cases q1 with
        | lst s a => exact ⟨_, _, rfl, .inl ⟨sqL_mono (fun o n e => (hide_some e).2) s, fun l nl => kk _ _ _ hq (r1.go (Xt.upd nl) (r1.tabs'.new nl)) (tup_new nl (new_out r1.occ nl) a) (x1.trans (Xw.of (Xt.upd nl)))⟩⟩
      · cases q1 with
        | tup s a => exact ⟨_, _, rfl, .inr ⟨sqT_mono (fun o n e => (hide_some e).2) s, kk _ _ H1 hq r1 (.tup s a) x1⟩⟩⟩
/-! own defs: plain ones with drawn arguments; those that draw -/
def wCall (n : Nat) (Fn : List PyData → Option PyData) (G : En → (List PyData → Prop) → Prop) : WF := fun en Q => G en fun ds => ds.length = n ∧ ∃ d, Fn ds = some d ∧ Q d
theorem we_call {k j n : Nat} {x : Str} {Fn : List PyData → Option PyData} (hr : Room j X.A) (hF : DFn X Ts k x n Fn) (hk : k ≤ j) (hg : Gl X x) (ha : WA X Ts ρ (e :: es) Gs) (hdb : (x == ("__debug__" : Str)) = false := by decide)
    (he : starEach (e :: es) X.env = (false, eval e X.env) :: starEach es X.env := by rfl) (hpl : (backTo pos (starEach es X.env)).any (·.1) = false := by rfl) : WE X Ts ρ (.Call (.Name x p) (e :: es) [] pos) (wCall n Fn Gs) := by
  obtain ⟨f, fd, ps, dvs, us, dd, G, h1, h2, h3, h3v, h3d, h4, h5⟩ := hF.ex
  refine PE.imp (pe_call h4 (hr.mono hk) hg h1 h2 h3 h3v pass0 ha hdb he hpl) fun σ H Q ⟨He, O, en, Qd, rp, hF, kk⟩ => ?_
  refine ⟨He, O, en, _, rp, hF, fun ds vs H1 ⟨hl, d, hd, hq⟩ r1 q1 x1 => ?_⟩
  show spD X.K Ts (n + dd.length) G (vs ++ dvs) H1 Q E0
  exact ⟨by rw [List.length_append, DpAll.len q1, hl, DpAll.len (h3d H1)], O, ds ++ dd, d, DpAll.app q1 (h3d _), r1.tabs', r1.occ, h5 ds d hl hd, fun v H' x t q => kk d v H' hq (r1.go x t) q (x1.trans (Xw.of x))⟩
/-- a def that draws from the row, its first argument -/
def spW (K : PySem.W.Frag) (Ts : TsT) (n : Nat) (F : List PyData → (PyData → Prop) → Prop) : Sp := fun vs H Q _ => vs.length = n + 1 ∧ ∃ a vs' O ds rw ws Qd, vs = .ref a :: vs' ∧ a ∈ O ∧ H a = some (.lst ws) ∧ DpAll K (hide H O) ws rw ∧ RowOk rw ∧ DpAll K (hide H O) vs' ds ∧ Tb Ts H ∧
  (∀ b ∈ O, H b ≠ none ∧ ∀ ps, H b ≠ some (.tbl ps)) ∧ F ds Qd ∧ ∀ d v H' rw' ws', Qd d → RowOk rw' → H' a = some (.lst ws') → DpAll K (hide H' O) ws' rw' → XtB a H H' → Tb Ts H' → Dp K (hide H' O) v d → Q v H'
theorem spW.imp {n : Nat} {F G : List PyData → (PyData → Prop) → Prop} (h : ∀ ds Q, G ds Q → F ds Q) : ∀ vs H Q E, spW K Ts n G vs H Q E → spW K Ts n F vs H Q E :=
  fun vs H Q E ⟨h1, a, vs', O, ds, rw, ws, Qd, e1, e2, e3, e4, e5, e6, e7, e8, e9, k⟩ => ⟨h1, a, vs', O, ds, rw, ws, Qd, e1, e2, e3, e4, e5, e6, e7, e8, h ds Qd e9, k⟩
structure CW (P : Program) (w : World) (K : PySem.W.Frag) (mg : Str → Option Value) (base : Heap) (Ts : TsT) (k : Nat) (x : Str) (n : Nat) (F : List PyData → (PyData → Prop) → Prop) : Prop where
  ex : ∃ f fd ps, mg x = some (.ref f) ∧ PySem.W.keepIn K (.ref f) = true ∧ Binds K fd ps [] ∧ FnOk P w K mg base CX0 k f fd ps (spW K Ts n F)
theorem CW.imp {P : Program} {w : World} {mg : Str → Option Value} {base : Heap} {k : Nat} {x : Str} {n : Nat} {F G : List PyData → (PyData → Prop) → Prop} (c : CW P w K mg base Ts k x n F) (h : ∀ ds Q, G ds Q → F ds Q) : CW P w K mg base Ts k x n G := by
  obtain ⟨f, fd, ps, h1, h2, h3, h4⟩ := c.ex
  exact ⟨f, fd, ps, h1, h2, h3, h4.imp (spW.imp h)⟩
def wDraw (n : Nat) (Fn : List PyData → (PyData → Prop) → Prop) (G : En → (List PyData → Prop) → Prop) : WF := fun en Q => G en fun ds => ds.length = n ∧ Fn ds Q
theorem WRep.back {He : Hp} {O : List Addr} {σ : St} {H H' : Hp} {en : En} {a : Addr} {rw' : List PyData} {ws' : List V} (r : WRep K Ts ρ He O σ H en) (hs : σ[ρ]? = some (some (V.ref a))) (hr : RowOk rw') (ha : H' a = some (.lst ws')) (q : DpAll K (hide H' O) ws' rw') (x : XtB a H H') (t : Tb Ts H') : WRep K Ts ρ He O σ H' en ∧ Xt (hide H O) (hide H' O) := by
  obtain ⟨hl, rw, hr0, rp⟩ := r
  have hρ : (en.set ρ (Slot.own rw))[ρ]? = some (Slot.own rw) := by rw [List.getElem?_set_self hl]
  obtain ⟨a0, vs0, p1, p2, p3, p4, p5⟩ := rp.own ρ rw hρ
  rw [hs] at p1
  cases p1
  have xh : Xt (hide H O) (hide H' O) := fun b o e => by
    obtain ⟨e1, e2⟩ := hide_some e
    have hne : b ≠ a := fun z => e1 (z ▸ p2)
    rcases x b o hne e2 with q | ⟨ps, qs, e3, q⟩
    · exact .inl (hide_of e1 q)
    · exact .inr ⟨ps, qs, e3, hide_of e1 q⟩
  have toOwn : ∀ (j : Nat) (es : List PyData), (en.set ρ (Slot.own rw'))[j]? = some (Slot.own es) → ∃ es', (en.set ρ (Slot.own rw))[j]? = some (Slot.own es') := fun j es h => by
    by_cases hj : ρ = j
    · subst hj; exact ⟨rw, hρ⟩
    · rw [List.getElem?_set_ne hj] at h ⊢; exact ⟨es, h⟩
  refine ⟨⟨hl, rw', hr, ⟨by simpa using rp.len, fun j d h => ?_, fun j es h => ?_, fun j k es es' aa h1 h2 h3 h4 => ?_, fun b hb => ?_, fun b o e => ?_, t⟩⟩, xh⟩
  · have hj : ρ ≠ j := fun z => by subst z; rw [List.getElem?_set_self hl] at h; cases h
    rw [List.getElem?_set_ne hj] at h
    obtain ⟨v, q1, q2⟩ := rp.dat j d (by rw [List.getElem?_set_ne hj]; exact h)
    exact ⟨v, q1, Dp.mono xh q2⟩
  · by_cases hj : ρ = j
    · subst hj
      rw [List.getElem?_set_self hl] at h
      cases h
      exact ⟨a, ws', hs, p2, p3, ha, q⟩
    · rw [List.getElem?_set_ne hj] at h
      obtain ⟨a', vs', q1, q2, q3, q4, q5⟩ := rp.own j es (by rw [List.getElem?_set_ne hj]; exact h)
      have hne : a' ≠ a := fun z => hj (by subst z; exact rp.inj ρ j rw es a' hρ (by rw [List.getElem?_set_ne hj]; exact h) hs q1)
      rcases x a' _ hne q4 with q | ⟨_, _, z, _⟩
      · exact ⟨a', vs', q1, q2, q3, q, DpAll.mono xh q5⟩
      · cases z
  · obtain ⟨e1, g1⟩ := toOwn j es h1
    obtain ⟨e2, g2⟩ := toOwn k es' h2
    exact rp.inj j k e1 e2 aa g1 g2 h3 h4
  · by_cases z : b = a
    · rw [z, ha]
      exact ⟨by simp, fun ps z => nomatch z⟩
    · obtain ⟨n1, n2⟩ := rp.occ b hb
      cases e : H b with
      | none => exact absurd e n1
      | some o =>
        rcases x b o z e with q | ⟨ps, qs, e3, q⟩
        · rw [q]; exact ⟨by simp, fun ps z => n2 ps (by rw [e]; exact z)⟩
        · exact absurd (by rw [e, e3]) (n2 ps)
  · have hne : b ≠ a := fun z => by rw [z, p3] at e; cases e
    rcases rp.ext b o e with q | ⟨ps, qs, e3, q⟩
    · exact x b o hne q
    · rcases x b _ hne q with q' | ⟨_, qs', _, q'⟩
      · exact .inr ⟨ps, qs, e3, q'⟩
      · exact .inr ⟨ps, qs', e3, q'⟩
theorem WRep.at {He : Hp} {O : List Addr} {σ : St} {H : Hp} {en : En} (r : WRep K Ts ρ He O σ H en) : ∃ a rw ws, σ[ρ]? = some (some (V.ref a)) ∧ a ∈ O ∧ He a = none ∧ H a = some (.lst ws) ∧ DpAll K (hide H O) ws rw ∧ RowOk rw := by
  obtain ⟨hl, rw, hr, rp⟩ := r
  obtain ⟨a, vs, p1, p2, p3, p4, p5⟩ := rp.own ρ rw (by rw [List.getElem?_set_self hl])
  exact ⟨a, rw, vs, p1, p2, p3, p4, p5, hr⟩
theorem we_draw {k j n : Nat} {x y : Str} {py : Pos} {Fn : List PyData → (PyData → Prop) → Prop} (hr : Room j X.A) (hF : CW X.prog X.w X.K X.mg X.base Ts k x n Fn) (hk : k ≤ j) (hg : Gl X x) (hN : X.N[ρ]? = some y) (hv : Vis X.env.scope y) (ha : WA X Ts ρ es Gs) (hdb : (x == ("__debug__" : Str)) = false := by decide) (hd : (y == ("__debug__" : Str)) = false := by decide)
    (hcd : (y == ("__classdict__" : Str)) = false := by decide) (he : starEach (.Name y py :: es) X.env = (false, eval (.Name y py) X.env) :: starEach es X.env := by rfl) (hpl : (backTo pos (starEach es X.env)).any (·.1) = false := by rfl) : WE X Ts ρ (.Call (.Name x p) (.Name y py :: es) [] pos) (wDraw n Fn Gs) := by
  obtain ⟨f, fd, ps, h1, h2, h3, h4⟩ := hF.ex
  refine PE.imp (pe_call h4 (hr.mono hk) hg h1 h2 h3 .nil pass0 (pa_cons (pe_var hN hv hd hcd) ha he) hdb he hpl) fun σ H Q ⟨He, O, en, Qd, rp, hF, kk⟩ => ?_
  obtain ⟨a, rw, ws, p1, p2, p3, p4, p5, p6⟩ := rp.at
  refine ⟨.ref a, p1, He, O, en, _, rp, hF, fun ds vs H1 ⟨hl, hq⟩ r1 q1 x1 => ?_⟩
  obtain ⟨a', rw1, ws1, s1, s2, s3, s4, s5, s6⟩ := r1.at
  rw [p1] at s1
  cases s1
  show spW X.K Ts n Fn ((V.ref a :: vs) ++ []) H1 Q E0
  rw [List.append_nil]
  exact ⟨by rw [List.length_cons, DpAll.len q1, hl], a, vs, O, ds, rw1, ws1, Qd, rfl, s2, s4, s5, s6, q1, r1.tabs', r1.occ, hq, fun d v H' rw' ws' hd hrw ha' hq' hx ht hdp => by
    obtain ⟨b1, b2⟩ := r1.back p1 hrw ha' hq' hx ht
    exact kk d v H' hd b1 hdp (x1.trans ⟨b2, fun a2 h2 => by rw [p1] at h2; cases h2; exact hx⟩)⟩
end
end DN
set_option Elab.async false
set_option linter.all false
set_option maxRecDepth 100000
set_option maxHeartbeats 4000000
namespace DN
open PySem PySem.Spec PyProof.Rows L2
/-! ### comprehensions that draw -/
/-- a target that leaves the row alone -/
def BOk (ρ : Nat) (b : PyData → En → Option En) : Prop := ∀ (d : PyData) (en en' : En) (rw : List PyData), b d en = some en' → b d (en.set ρ (.own rw)) = some (en'.set ρ (.own rw)) ∧ en'.length = en.length ∧
  (∀ j es, j ≠ ρ → en'[j]? = some (Slot.own es) → en[j]? = some (Slot.own es))
theorem bOk_name {ρ i : Nat} (h : i ≠ ρ) : BOk ρ (bName i) := fun d en en' rw hb => by
  unfold bName at hb ⊢
  split at hb
  · rename_i hi
    cases hb
    refine ⟨by rw [if_pos (by simpa using hi), List.set_comm _ _ (Ne.symm h)], by simp, fun j es hj h1 => ?_⟩
    have hij : i ≠ j := fun z => by subst z; rw [List.getElem?_set_self hi] at h1; cases h1
    rwa [List.getElem?_set_ne hij] at h1
  · cases hb
theorem bOk_names {ρ : Nat} : ∀ {is : List Nat}, (∀ i ∈ is, i ≠ ρ) → ∀ (ds : List PyData) (en en' : En) (rw : List PyData), bNames is ds en = some en' → bNames is ds (en.set ρ (.own rw)) = some (en'.set ρ (.own rw)) ∧ en'.length = en.length ∧
  (∀ j es, j ≠ ρ → en'[j]? = some (Slot.own es) → en[j]? = some (Slot.own es))
  | [], _, [], en, en', rw, h => by cases h; exact ⟨rfl, rfl, fun _ _ _ h => h⟩
  | [], _, _ :: _, _, _, _, h => by cases h
  | _ :: _, _, [], _, _, _, h => by cases h
  | i :: is, hi, d :: ds, en, en', rw, h => by
    obtain ⟨e1, h1, h2⟩ := Option.bind_eq_some_iff.mp h
    obtain ⟨a1, a2, a3⟩ := bOk_name (hi i List.mem_cons_self) d en e1 rw h1
    obtain ⟨b1, b2, b3⟩ := bOk_names (fun j hj => hi j (List.mem_cons_of_mem _ hj)) ds e1 en' rw h2
    exact ⟨by show (bName i d (en.set ρ (.own rw))).bind _ = _; rw [a1]; exact b1, b2.trans a2, fun j es hj h => a3 j es hj (b3 j es hj h)⟩
theorem bOk_tup {ρ : Nat} {is : List Nat} (h : ∀ i ∈ is, i ≠ ρ) : BOk ρ (bTup is) := fun d en en' rw hb => by
  cases d <;> try cases hb
  exact bOk_names h _ en en' rw hb
def tWI (K : PySem.W.Frag) (Ts : TsT) (ρ : Nat) (F : En → (List PyData → Prop) → Prop) : TI := fun σ H R => ∃ He O en Qd, WRep K Ts ρ He O σ H en ∧ F en Qd ∧ ∀ ds J H1, Qd ds → WRep K Ts ρ He O σ H1 en → Xw ρ σ O H H1 → Gives K Ts J ds H1 O → R J H1
abbrev WI (X : Cx) (Ts : TsT) (ρ : Nat) (tg iter : Expr) (F : En → (List PyData → Prop) → Prop) : Prop := PI X tg iter (tWI X.K Ts ρ F)
def gWD (K : PySem.W.Frag) (Ts : TsT) (ρ : Nat) (vs : List Nat) (b : PyData → En → Option En) : TG := fun x σ H Q => ∃ He O en d en', WRep K Ts ρ He O σ H en ∧ Dp K (hide H O) x d ∧ b d en = some en' ∧ ∀ σ', WRep K Ts ρ He O σ' H en' → wipe σ' vs = wipe σ vs → Q σ' H
section
variable {K : PySem.W.Frag} {X : Cx} {Ts : TsT} {ρ : Nat} {pos p : Pos} {e e2 tg iter elt : Expr} {es : List Expr} {f : En → Option PyData} {F G : WF} {it : En → (List PyData → Prop) → Prop} {b : PyData → En → Option En} {t : En → (Bool → Prop) → Prop}
theorem wg_of {vs : List Nat} (h : DG X Ts tg vs b) (hb : BOk ρ b) : PG X tg (gWD X.K Ts ρ vs b) := PG.imp h fun x σ H Q ⟨He, O, en, d, en', ⟨hl, rw, hr, rp⟩, q, hbd, kk⟩ =>
  ⟨He, O, _, d, _, rp, q, (hb d en en' rw hbd).1, fun σ' r' w' => kk σ' ⟨by rw [(hb d en en' rw hbd).2.1]; exact hl, rw, hr, r'⟩ w'⟩
def wIt (ρ : Nat) (f : En → Option (List PyData)) : En → (List PyData → Prop) → Prop := fun en Q => ∃ ds, (∀ rw, f (en.set ρ (.own rw)) = some ds) ∧ Q ds
theorem wi_pure {fi : En → Option (List PyData)} (h : DI X Ts tg iter fi) : WI X Ts ρ tg iter (wIt ρ fi) := PI.imp h fun σ H R ⟨He, O, en, Qd, ⟨hl, rw, hr, rp⟩, ⟨ds, hf, hq⟩, kk⟩ =>
  ⟨He, O, _, ds, rp, hf rw, fun J H1 x1 t1 gv => kk ds J H1 hq ⟨hl, rw, hr, rp.go x1 t1⟩ (Xw.of x1) gv⟩
def wRange1 (F : WF) : En → (List PyData → Prop) → Prop := fun en Q => F en fun d => ∃ j : Int, d = .int j ∧ -1000000 ≤ j ∧ j ≤ 1000000 ∧ Q (rangeD 0 j.toNat)
theorem wi_range1 (hg : Gl X "range") (hm : X.mg "range" = none) (ha : WE X Ts ρ e F) (hs : starEach [e] X.env = [(false, eval e X.env)] := by rfl) : WI X Ts ρ tg (.Call (.Name "range" p) [e] [] pos) (wRange1 F) :=
  PI.imp (pi_range1 (ta := tCons (tW X.K Ts ρ F) tNil) hg hm (pa_cons ha pa_nil hs) hs) fun σ H R ⟨He, O, en, Qd, rp, hF, kk⟩ =>
    ⟨He, O, en, _, rp, hF, fun d v H1 ⟨j, hj, h1, h2, hq⟩ r1 q1 x1 => by
      subst hj
      cases q1
      exact ⟨j, rfl, by omega, by omega, kk _ _ H1 hq r1 x1 gives_range⟩⟩
def wlcGo (b : PyData → En → Option En) (t : En → (Bool → Prop) → Prop) (f : WF) (en : En) : List PyData → (List PyData → Prop) → Prop
  | [], Q => Q []
  | d :: r, Q => ∃ e1, b d en = some e1 ∧ t e1 fun k => if k = true then f e1 fun y => wlcGo b t f en r fun o => Q (y :: o) else wlcGo b t f en r Q
def wLc (it : En → (List PyData → Prop) → Prop) (b : PyData → En → Option En) (t : En → (Bool → Prop) → Prop) (f : WF) (vs : List Nat) : WF := fun en Q => (∀ j ∈ vs, ∀ es, en[j]? ≠ some (Slot.own es)) ∧ it en fun ds => ds.length ≤ 1000000 ∧ wlcGo b t f (wipeE en vs) ds fun o => Q (.list o)
def wYes : En → (Bool → Prop) → Prop := fun _ Q => Q true
theorem wts_nil : PTs X [] (tWT X.K Ts ρ wYes) := ⟨fun pins s σ H Q I ⟨He, O, en, Qd, rp, hF, kk⟩ => pts_nil.run pins s σ H Q I (kk true H hF rp (Xw.refl _))⟩
theorem wipeE_set {en : En} {vs : List Nat} {x : Slot} (h : ρ ∉ vs) : wipeE (en.set ρ x) vs = (wipeE en vs).set ρ x := by
  induction vs with
  | nil => rfl
  | cons v vs ih =>
    have h1 : v ≠ ρ := fun e => h (by rw [e]; exact List.mem_cons_self)
    have h2 : ρ ∉ vs := fun m => h (List.mem_cons_of_mem _ m)
    show (wipeE (en.set ρ x) vs).set v .no = ((wipeE en vs).set v .no).set ρ x
    rw [ih h2, List.set_comm _ _ (Ne.symm h1)]
theorem wipeE_len (en : En) : ∀ vs : List Nat, (wipeE en vs).length = en.length
  | [] => rfl
  | v :: vs => by
    show ((wipeE en vs).set v .no).length = _
    rw [List.length_set, wipeE_len en vs]
theorem WRep.wipe {He : Hp} {O : List Addr} {σ : St} {H : Hp} {en : En} (r : WRep K Ts ρ He O σ H en) {vs : List Nat} (h : ρ ∉ vs) : WRep K Ts ρ He O (L2.wipe σ vs) H (wipeE en vs) := by
  obtain ⟨hl, rw, hr, rp⟩ := r
  refine ⟨by rw [wipeE_len]; exact hl, rw, hr, ?_⟩
  have := rp.wipe vs
  rwa [wipeE_set h] at this
theorem WRep.hid {He : Hp} {O : List Addr} {σ : St} {H : Hp} {en : En} (r : WRep K Ts ρ He O σ H en) {D : Addr} (hD : H D = none) {o : HO} (no : ∀ ps, o ≠ .tbl ps) : WRep K Ts ρ He (D :: O) σ (upd H D o) en := by
  obtain ⟨hl, rw, hr, rp⟩ := r
  exact ⟨hl, rw, hr, rp.hid hD no⟩
/-- the slots as they were, behind what another block did -/
theorem WRep.join {He : Hp} {O : List Addr} {σ σ2 : St} {H H5 : Hp} {en e2 : En} (r1 : WRep K Ts ρ He O σ H en) (r2 : WRep K Ts ρ He O σ2 H5 e2) (x : Xt (hide H O) (hide H5 O)) (hρ : σ2[ρ]? = σ[ρ]?)
    (ho : ∀ (j : Nat) (es : List PyData), j ≠ ρ → en[j]? = some (Slot.own es) → e2[j]? = some (Slot.own es) ∧ σ2[j]? = σ[j]?) : WRep K Ts ρ He O σ H5 en := by
  obtain ⟨hl, rw1, hr1, rp1⟩ := r1
  obtain ⟨hl2, rw2, hr2, rp2⟩ := r2
  have h2ρ : (e2.set ρ (Slot.own rw2))[ρ]? = some (Slot.own rw2) := by rw [List.getElem?_set_self hl2]
  have h1ρ : (en.set ρ (Slot.own rw1))[ρ]? = some (Slot.own rw1) := by rw [List.getElem?_set_self hl]
  have toOwn : ∀ (j : Nat) (es : List PyData), (en.set ρ (Slot.own rw2))[j]? = some (Slot.own es) → ∃ es', (en.set ρ (Slot.own rw1))[j]? = some (Slot.own es') := fun j es h => by
    by_cases hj : ρ = j
    · subst hj; exact ⟨rw1, h1ρ⟩
    · rw [List.getElem?_set_ne hj] at h ⊢; exact ⟨es, h⟩
  refine ⟨hl, rw2, hr2, ⟨by simpa using rp1.len, fun j d h => ?_, fun j es h => ?_, fun j k es es' aa h1 h2 h3 h4 => ?_, rp2.occ, rp2.ext, rp2.tabs⟩⟩
  · have hj : ρ ≠ j := fun z => by subst z; rw [List.getElem?_set_self hl] at h; cases h
    rw [List.getElem?_set_ne hj] at h
    obtain ⟨v, q1, q2⟩ := rp1.dat j d (by rw [List.getElem?_set_ne hj]; exact h)
    exact ⟨v, q1, Dp.mono x q2⟩
  · by_cases hj : ρ = j
    · subst hj
      rw [List.getElem?_set_self hl] at h
      cases h
      obtain ⟨a, vs, p1, p2⟩ := rp2.own ρ rw2 h2ρ
      exact ⟨a, vs, by rw [← hρ]; exact p1, p2⟩
    · rw [List.getElem?_set_ne hj] at h
      obtain ⟨q1, q2⟩ := ho j es (Ne.symm hj) h
      obtain ⟨a, vs, p1, p2⟩ := rp2.own j es (by rw [List.getElem?_set_ne hj]; exact q1)
      exact ⟨a, vs, by rw [← q2]; exact p1, p2⟩
  · obtain ⟨f1, g1⟩ := toOwn j es h1
    obtain ⟨f2, g2⟩ := toOwn k es' h2
    exact rp1.inj j k f1 f2 aa g1 g2 h3 h4
/-- an address is no longer hidden -/
theorem WRep.unhide {He : Hp} {O : List Addr} {σ : St} {H : Hp} {en : En} {D : Addr} (r : WRep K Ts ρ He (D :: O) σ H en) (no : ∀ (j : Nat) (es : List PyData) (a : Addr), (∃ rw, (en.set ρ (Slot.own rw))[j]? = some (Slot.own es)) → σ[j]? = some (some (V.ref a)) → a ≠ D) : WRep K Ts ρ He O σ H en := by
  obtain ⟨hl, rw, hr, rp⟩ := r
  have hs : Xt (hide H (D :: O)) (hide H O) := hide_sub fun b hb => List.mem_cons_of_mem _ hb
  refine ⟨hl, rw, hr, ⟨rp.len, fun j d h => let ⟨v, q1, q2⟩ := rp.dat j d h; ⟨v, q1, Dp.mono hs q2⟩, fun j es h => ?_, rp.inj, fun b hb => rp.occ b (List.mem_cons_of_mem _ hb), rp.ext, rp.tabs⟩⟩
  obtain ⟨a, vs, p1, p2, p3, p4, p5⟩ := rp.own j es h
  exact ⟨a, vs, p1, (List.mem_cons.mp p2).elim (fun z => absurd z (no j es a ⟨rw, h⟩ p1)) id, p3, p4, DpAll.mono hs p5⟩
theorem wipeE_out {en : En} {i : Nat} : ∀ {vs : List Nat}, i ∉ vs → (wipeE en vs)[i]? = en[i]?
  | [], _ => rfl
  | v :: vs, h => by
    have h1 : v ≠ i := fun e => h (by rw [e]; exact List.mem_cons_self)
    have h2 : i ∉ vs := fun m => h (List.mem_cons_of_mem _ m)
    show ((wipeE en vs).set v .no)[i]? = _
    rw [List.getElem?_set_ne h1]
    exact wipeE_out h2
/-- what the def's own lists are: elsewhere than at a free address -/
theorem WRep.free {He : Hp} {O : List Addr} {σ : St} {H : Hp} {en : En} {D : Addr} (r : WRep K Ts ρ He O σ H en) (nD : H D = none) : ∀ (j : Nat) (es : List PyData) (a : Addr), (∃ rw, (en.set ρ (Slot.own rw))[j]? = some (Slot.own es)) → σ[j]? = some (some (V.ref a)) → a ≠ D := fun j es a ⟨rw', h1⟩ h2 z => by
  obtain ⟨hl, rw0, hr0, rp0⟩ := r
  have : ∃ es', (en.set ρ (Slot.own rw0))[j]? = some (Slot.own es') := by
    by_cases hj : ρ = j
    · subst hj; exact ⟨rw0, by rw [List.getElem?_set_self hl]⟩
    · rw [List.getElem?_set_ne hj] at h1 ⊢; exact ⟨es, h1⟩
  obtain ⟨es', h3⟩ := this
  obtain ⟨a', vs', g1, g2, g3, g4, _⟩ := rp0.own j es' h3
  rw [h2] at g1
  cases g1
  rw [z, nD] at g4
  cases g4
/-- a hidden list, no slot's, grows -/
theorem WRep.grow {He : Hp} {O : List Addr} {σ : St} {H : Hp} {en : En} {D : Addr} {l l' : List V} (r : WRep K Ts ρ He O σ H en) (hm : D ∈ O) (hD : H D = some (.lst l)) (nE : He D = none) (no : ∀ (j : Nat) (es : List PyData) (a : Addr), (∃ rw, (en.set ρ (Slot.own rw))[j]? = some (Slot.own es)) → σ[j]? = some (some (V.ref a)) → a ≠ D) : WRep K Ts ρ He O σ (upd H D (.lst l')) en := by
  obtain ⟨hl, rw, hr, rp⟩ := r
  have hu : Xt (hide H O) (hide (upd H D (.lst l')) O) := hide_upd hm
  refine ⟨hl, rw, hr, ⟨rp.len, fun j dd h => let ⟨u, p, q⟩ := rp.dat j dd h; ⟨u, p, Dp.mono hu q⟩, fun j es h => ?_, rp.inj, fun bb hb => ?_, fun bb o e => ?_, rp.tabs.upd fun u z => by rw [hD] at z; cases z; exact lst_noc⟩⟩
  · obtain ⟨a, ws, p1, p2, p3, p4, p5⟩ := rp.own j es h
    exact ⟨a, ws, p1, p2, p3, by rw [upd_ne (no j es a ⟨rw, h⟩ p1)]; exact p4, DpAll.mono hu p5⟩
  · by_cases z : bb = D
    · rw [z, upd_same]
      exact ⟨by simp, fun ps q => nomatch q⟩
    · rw [upd_ne z]
      exact rp.occ bb hb
  · have hne : bb ≠ D := fun z => by rw [z, nE] at e; cases e
    rw [upd_ne hne]
    exact rp.ext bb o e
def tWNew (K : PySem.W.Frag) (Ts : TsT) (ρ : Nat) (F : WF) : TE := fun σ H Q => ∃ He O en Qd, WRep K Ts ρ He O σ H en ∧ F en Qd ∧ ∀ ds a vs H', Qd (.list ds) → WRep K Ts ρ He O σ H' en → H a = none → H' a = some (.lst vs) → DpAll K (hide H' (a :: O)) vs ds → Xt (hide H O) (hide H' (a :: O)) → (∀ r, σ[ρ]? = some (some (V.ref r)) → XtB r H H') → Q (.ref a) H'
theorem wlc_w {vs : List Nat} {σ : St} {H : Hp} {Q : VK} (hρ : ρ ∉ vs) (hbo : BOk ρ b) (hbv : ∀ (d : PyData) (en e1 : En) (j : Nat), j ∉ vs → b d en = some e1 → e1[j]? = en[j]?) (h : tWNew K Ts ρ (wLc it b t F vs) σ H Q) :
    tLc (tWI K Ts ρ it) (gWD K Ts ρ vs b) (tWT K Ts ρ t) (tW K Ts ρ F) vs σ H Q := by
  obtain ⟨He, O, en, Qd, rp, ⟨hno, hF⟩, kk⟩ := h
  refine ⟨He, O, en, _, rp, hF, fun ds J H1 ⟨hlen, hgo0⟩ r1 x1 gv D nD => ?_⟩
  have noD := r1.free nD
  obtain ⟨aρ, rwρ, wsρ, s1, s2, s3, s4, s5, s6⟩ := r1.at
  have hneρ : D ≠ aρ := fun z => by rw [← z, nD] at s4; cases s4
  have rD := r1.hid nD (o := .lst []) (fun _ z => nomatch z)
  have hDm : D ∈ D :: O := List.mem_cons_self
  have x0 : Xt (hide H1 O) (hide (upd H1 D (.lst [])) (D :: O)) := fun bb o e => by
    obtain ⟨e1, e2⟩ := hide_some e
    have hne := ne_of_none e2 nD
    exact .inl (hide_of (fun z => (List.mem_cons.mp z).elim hne e1) (by rw [upd_ne hne]; exact e2))
  have nDH : H D = none := by
    cases e : H D with
    | none => rfl
    | some o =>
      rcases x1.2 aρ s1 D o hneρ e with q | ⟨_, _, _, q⟩ <;> rw [q] at nD <;> cases nD
  have nDHe : He D = none := by
    obtain ⟨_, _, _, rp1⟩ := r1
    exact rp1.ext.there nD
  refine ⟨fun i m H2 => m = ds.length - i ∧ i ≤ ds.length ∧ Xt (hide H1 O) (hide H2 (D :: O)) ∧ XtB aρ H1 H2 ∧ WRep K Ts ρ He (D :: O) σ H2 en ∧ ∃ acc done, H2 D = some (.lst acc) ∧ DpAll K (hide H2 (D :: O)) acc done ∧ acc.length ≤ i ∧ wlcGo b t F (wipeE en vs) (ds.drop i) fun o => Qd (.list (done ++ o)),
    ⟨ds.length, by simp, Nat.zero_le _, x0, .of (Xt.upd nD), rD, [], [], upd_same, .nil, Nat.zero_le _, by simpa using hgo0⟩, fun i m H2 hW => ?_⟩
  obtain ⟨rfl, hi, x12, xb, r2, acc, done, hD, ha, hal, hgo⟩ := hW
  have occ2 : ∀ b ∈ D :: O, H2 b ≠ none ∧ ∀ ps, H2 b ≠ some (.tbl ps) := r2.occ
  obtain ⟨g1, g2, g3⟩ := gv (D :: O) H2 x12 (x12.trans hide_out) occ2
  by_cases hlt : i < ds.length
  · refine .inr ⟨g1 i hlt, fun H' => Xt (hide H1 O) (hide H' (D :: O)) ∧ XtB aρ H1 H' ∧ WRep K Ts ρ He (D :: O) σ H' en ∧ ∃ acc done, H' D = some (.lst acc) ∧ DpAll K (hide H' (D :: O)) acc done ∧ acc.length ≤ i + 1 ∧ wlcGo b t F (wipeE en vs) (ds.drop (i + 1)) fun o => Qd (.list (done ++ o)),
      fun H' ⟨a, c⟩ => ⟨ds.length - (i + 1), by omega, rfl, hlt, a, c⟩, fun x H3 hy => ?_⟩
    obtain ⟨d, hd, x23, t23, qd⟩ := g3 i x H3 hlt hy
    have r3 := r2.go x23 (t23 r2.tabs')
    rw [List.drop_eq_getElem_cons hlt] at hgo
    have hd' : ds[i] = d := by rw [List.getElem?_eq_getElem hlt] at hd; exact Option.some.inj hd
    rw [hd'] at hgo
    obtain ⟨e1, hb, hgo1⟩ := hgo
    refine ⟨He, D :: O, _, d, e1, r3.wipe hρ, qd, hb, fun σ2 r4 hw => ⟨hw.trans (wipe_wipe _ _), ?_⟩⟩
    have hsame : ∀ j, j ∉ vs → σ2[j]? = σ[j]? := fun j hj => by rw [← wipe_out hj, hw, wipe_wipe, wipe_out hj]
    have hown : ∀ (j : Nat) (es : List PyData), j ≠ ρ → en[j]? = some (Slot.own es) → e1[j]? = some (Slot.own es) ∧ σ2[j]? = σ[j]? := fun j es hj h1 => by
      have hjv : j ∉ vs := fun z => hno j z es h1
      exact ⟨by rw [hbv d _ e1 j hjv hb, wipeE_out hjv]; exact h1, hsame j hjv⟩
    have s1' : σ2[ρ]? = some (some (V.ref aρ)) := by rw [hsame ρ hρ]; exact s1
    have hD3 : H3 D = some (.lst acc) := x23.get D _ hD (fun _ z => nomatch z)
    refine ⟨He, D :: O, e1, _, r4, hgo1, fun k H4 hk r5 x34 => ?_⟩
    have hD4 : H4 D = some (.lst acc) := by
      rcases x34.2 aρ s1' D _ hneρ hD3 with q | ⟨_, _, z, _⟩
      · exact q
      · cases z
    have xh24 : Xt (hide H2 (D :: O)) (hide H4 (D :: O)) := (hide_mono x23).trans x34.1
    have xb4 : XtB aρ H1 H4 := (xb.trans (.of x23)).trans (x34.2 aρ s1')
    cases k with
    | false =>
      simp only [Bool.false_eq_true, if_false] at hk ⊢
      exact ⟨x12.trans xh24, xb4, r3.join r5 x34.1 (hsame ρ hρ) hown, acc, done, hD4, DpAll.mono xh24 ha, by omega, hk⟩
    | true =>
      simp only [if_true] at hk ⊢
      refine ⟨He, D :: O, e1, _, r5, hk, fun y v H5 hy5 r6 q6 x45 => ?_⟩
      have hD5 : H5 D = some (.lst acc) := by
        rcases x45.2 aρ s1' D _ hneρ hD4 with q | ⟨_, _, z, _⟩
        · exact q
        · cases z
      have xh25 := xh24.trans x45.1
      have xb5 : XtB aρ H1 H5 := xb4.trans (x45.2 aρ s1')
      have hu : Xt (hide H5 (D :: O)) (hide (upd H5 D (.lst (acc ++ [v]))) (D :: O)) := hide_upd hDm
      have r7 := r3.join r6 (x34.trans x45).1 (hsame ρ hρ) hown
      refine ⟨acc, hD5, by rw [sizeLine_eq]; omega, x12.trans (xh25.trans hu), fun bb o hb2 e => ?_, r7.grow hDm hD5 nDHe noD, acc ++ [v], done ++ [y], upd_same, DpAll.app (DpAll.mono (xh25.trans hu) ha) (.cons (Dp.mono hu q6) .nil), by rw [List.length_append]; simp; omega, by simpa using hy5⟩
      have hne : bb ≠ D := ne_of_none e nD
      rw [upd_ne hne]
      exact xb5 bb o hb2 e
  · have hie : i = ds.length := by omega
    subst hie
    rw [List.drop_of_length_le (Nat.le_refl _)] at hgo
    have hq : Qd (.list done) := by simpa [wlcGo] using hgo
    refine .inl ⟨g2, kk done D acc H2 hq (r2.unhide noD) nDH hD ha (x1.1.trans x12) fun r hr => ?_⟩
    have : r = aρ := by rw [s1] at hr; cases hr; rfl
    subst this
    exact (x1.2 r s1).trans xb
end
end DN
set_option Elab.async false
set_option linter.all false
set_option maxRecDepth 100000
set_option maxHeartbeats 4000000
namespace DN
open PySem PySem.Spec PyProof.Rows L2
section
variable {X : Cx} {Ts : TsT} {ρ : Nat} {pos p : Pos} {e elt tg iter : Expr} {ifs : List Expr} {scope : Scope} {own : List (Str × Nat)} {it : En → (List PyData → Prop) → Prop} {b : PyData → En → Option En} {t : En → (Bool → Prop) → Prop} {F : WF}
theorem wnew_w {K : PySem.W.Frag} {σ : St} {H : Hp} {Q : VK} (hl : ∀ en Qd, F en Qd → F en fun d => (∃ ds, d = .list ds) ∧ Qd d) (h : tW K Ts ρ F σ H Q) : tWNew K Ts ρ F σ H Q := by
  obtain ⟨He, O, en, Qd, rp, hF, kk⟩ := h
  refine ⟨He, O, en, _, rp, hl _ _ hF, fun ds a vs H' ⟨_, hq⟩ r' na ha q x xb => ?_⟩
  have nO : a ∉ O := fun z => (rp.occ a z).1 na
  have hs : Xt (hide H' (a :: O)) (hide H' O) := hide_sub fun b hb => List.mem_cons_of_mem _ hb
  exact kk _ _ H' hq r' (.lst (.inl (.inl (hide_of nO ha))) (DpAll.mono hs q)) ⟨x.trans hs, xb⟩
theorem wlcGo_imp {f : WF} (hf : ∀ en Q Q', (∀ d, Q d → Q' d) → f en Q → f en Q') (ht : ∀ en Q Q', (∀ d, Q d → Q' d) → t en Q → t en Q') : ∀ (ds : List PyData) (en : En) (Q Q' : List PyData → Prop), (∀ o, Q o → Q' o) → wlcGo b t f en ds Q → wlcGo b t f en ds Q'
  | [], _, _, _, hq, h => hq _ h
  | d :: r, en, Q, Q', hq, ⟨e1, h1, h2⟩ => ⟨e1, h1, ht _ _ _ (fun k hk => by
      cases k with
      | false => simp only [Bool.false_eq_true, if_false] at hk ⊢; exact wlcGo_imp hf ht r en Q Q' hq hk
      | true => simp only [if_true] at hk ⊢; exact hf _ _ _ (fun y hy => wlcGo_imp hf ht r en _ _ (fun o ho => hq _ ho) hy) hk) h2⟩
/-- a reading that is monotone -/
def Mn (F : WF) : Prop := ∀ en Q Q', (∀ d, Q d → Q' d) → F en Q → F en Q'
def MnT (F : En → (Bool → Prop) → Prop) : Prop := ∀ en Q Q', (∀ d, Q d → Q' d) → F en Q → F en Q'
def MnI (F : En → (List PyData → Prop) → Prop) : Prop := ∀ en Q Q', (∀ d, Q d → Q' d) → F en Q → F en Q'
theorem mnt_yes : MnT wYes := fun _ _ _ h q => h _ q
theorem wlc_list {f : WF} {vs : List Nat} (hf : Mn f) (ht : MnT t) (hi : MnI it) : ∀ en Qd, wLc it b t f vs en Qd → wLc it b t f vs en fun d => (∃ ds, d = .list ds) ∧ Qd d := fun en Qd ⟨h0, h⟩ =>
  ⟨h0, hi _ _ _ (fun ds ⟨h1, h2⟩ => ⟨h1, wlcGo_imp hf ht ds _ _ _ (fun o ho => ⟨⟨o, rfl⟩, ho⟩) h2⟩) h⟩
theorem we_lc (hc : X.calm = true) (hN : X.N.Nodup) (hi : WI X Ts ρ tg iter it) (ok : BlkOk X.N X.env.scope scope own) (hρ : ρ ∉ own.map (·.2)) (hbo : BOk ρ b) (hbv : ∀ (d : PyData) (en e1 : En) (j : Nat), j ∉ own.map (·.2) → b d en = some e1 → e1[j]? = en[j]?)
    (hg : ∀ s H C cl fp, DG (BX X scope s H C cl fp) Ts tg (own.map (·.2)) b) (ht : ∀ s H C cl fp, PTs (BX X scope s H C cl fp) ifs (tWT X.K Ts ρ t))
    (he : ∀ s H C cl fp, WE (BX X scope s H C cl fp) Ts ρ elt F) (mf : Mn F) (mt : MnT t) (mi : MnI it) (hs : ∀ x, foldedSetIterable iter X.env x = pure x := by intro _; rfl) : WE X Ts ρ (.ListComp elt [⟨tg, iter, ifs, 0⟩] scope pos) (wLc it b t F (own.map (·.2))) :=
  PE.imp (pe_lc hc hN hi ok (fun s H C cl fp => wg_of (hg s H C cl fp) hbo) (fun s H C cl fp => ht s H C cl fp) (fun s H C cl fp => he s H C cl fp) hs) fun σ H Q h => wlc_w hρ hbo hbv (wnew_w (wlc_list mf mt mi) h)
theorem bName_out {i : Nat} : ∀ (d : PyData) (en e1 : En) (j : Nat), j ∉ [i] → bName i d en = some e1 → e1[j]? = en[j]? := fun d en e1 j hj h => by
  unfold bName at h
  split at h
  · cases h
    rw [List.getElem?_set_ne (fun z => hj (by rw [z]; exact List.mem_cons_self))]
  · cases h
end
/-! ### defs that draw: return e -/
section
variable {P : Program} {w : World} {K : PySem.W.Frag} {mg : Str → Option Value} {base : Heap} {Ts : TsT}
def runW (n : Nat) (F : WF) : List PyData → (PyData → Prop) → Prop := fun ds Q => F (Slot.no :: (ds.map Slot.dat ++ List.replicate (n - 1 - ds.length) Slot.no)) Q
theorem start_get {N : List Str} {vs : List V} {i : Nat} {v : V} (h : vs[i]? = some v) : (L2.start N vs)[i]? = some (some v) := by
  have hi : i < vs.length := (List.getElem?_eq_some_iff.mp h).1
  unfold L2.start
  rw [List.getElem?_append_left (by simpa using hi), List.getElem?_map, h]
  rfl
/-- the slots at a drawing def's first statement -/
theorem wrep_start {N : List Str} {n : Nat} {vs : List V} {H : Hp} {O : List Addr} {a : Addr} {vs' : List V} {ds rw : List PyData} {ws : List V} (hn : vs.length = n + 1) (hN : vs.length ≤ N.length) (e1 : vs = .ref a :: vs') (e2 : a ∈ O) (e3 : H a = some (.lst ws)) (e4 : DpAll K (hide H O) ws rw) (e6 : DpAll K (hide H O) vs' ds) (e7 : Tb Ts H) (e8 : ∀ b ∈ O, H b ≠ none ∧ ∀ ps, H b ≠ some (.tbl ps)) :
    Rep K Ts (fun b => if b = a then none else H b) O (L2.start N vs) H (Slot.own rw :: (ds.map Slot.dat ++ List.replicate (N.length - 1 - ds.length) Slot.no)) := by
  subst e1
  have hl := DpAll.len e6
  have hlen : (Slot.own rw :: (ds.map Slot.dat ++ List.replicate (N.length - 1 - ds.length) Slot.no)).length = (L2.start N (V.ref a :: vs')).length := by
    simp [L2.start, hl]; simp at hN; omega
  refine ⟨hlen, fun i d h => ?_, fun i es h => ?_, fun i j es es' b h1 h2 h3 h4 => ?_, e8, fun b o e => ?_, e7⟩
  · cases i with
    | zero => cases h
    | succ i =>
      rw [List.getElem?_cons_succ] at h
      by_cases hi : i < ds.length
      · rw [List.getElem?_append_left (by simpa using hi), List.getElem?_map] at h
        obtain ⟨d', h1, h2⟩ := Option.map_eq_some_iff.mp h
        cases h2
        obtain ⟨v, h3, h4⟩ := DpAll.get' e6 h1
        exact ⟨v, start_get (by rw [List.getElem?_cons_succ]; exact h3), h4⟩
      · rw [List.getElem?_append_right (by simpa using hi), List.getElem?_replicate] at h
        split at h <;> cases h
  · cases i with
    | zero =>
      cases h
      exact ⟨a, ws, start_get rfl, e2, if_pos rfl, e3, e4⟩
    | succ i =>
      rw [List.getElem?_cons_succ] at h
      by_cases hi : i < ds.length
      · rw [List.getElem?_append_left (by simpa using hi), List.getElem?_map] at h
        obtain ⟨d', h1, h2⟩ := Option.map_eq_some_iff.mp h
        cases h2
      · rw [List.getElem?_append_right (by simpa using hi), List.getElem?_replicate] at h
        split at h <;> cases h
  · have zero : ∀ {k : Nat} {es : List PyData}, (Slot.own rw :: (ds.map Slot.dat ++ List.replicate (N.length - 1 - ds.length) Slot.no))[k]? = some (Slot.own es) → k = 0 := fun {k es} h => by
      cases k with
      | zero => rfl
      | succ i =>
        rw [List.getElem?_cons_succ] at h
        by_cases hi : i < ds.length
        · rw [List.getElem?_append_left (by simpa using hi), List.getElem?_map] at h
          obtain ⟨d', h1, h2⟩ := Option.map_eq_some_iff.mp h
          cases h2
        · rw [List.getElem?_append_right (by simpa using hi), List.getElem?_replicate] at h
          split at h <;> cases h
    rw [zero h1, zero h2]
  · split at e
    · cases e
    · exact .inl e
theorem DF.okW {x qual : Str} {st : Stmt} {f : Addr} {fd : FuncData} {cdv : Value} {N ps : List Str} {k n : Nat} {F : WF} {e : Expr} {pos : Pos} (D : DF K x qual st f fd cdv) (S : FnScope N ps (defScope st)) (hn : ps.length = n + 1) (hN : n + 1 ≤ N.length) (hb : defBody st = [.Return (some e) pos])
    (hbody : ∀ (A : Around) (outer : List Env) (s : Shared) (H : Hp) (E : XK), Room k (A.deeper (envOfC qual (defScope st) s.heap.objs.size f cdv)) → WE (cxOf CX0 P w K mg base N qual (defScope st) f cdv A outer s H E).nox Ts 0 e F) :
    FnOk P w K mg base CX0 (k + 1) f fd ps (spW K Ts n (runW N.length F)) := by
  obtain ⟨oc, od, dV, kV, doc, pm, an, ct, osl, rfl, lk, hcd⟩ := D.ex
  refine fn_of lk hcd S (fun vs H Q E h => h.1.trans hn.symm) fun A outer s H vs Q E hr hsp => ?_
  rw [hb]
  refine ⟨_, (pss_one (ps_ret (hbody A outer s H E hr))).nox, ?_⟩
  obtain ⟨hl, a, vs', O, ds, rw', ws, Qd, e1, e2, e3, e4, e5, e6, e7, e8, hF, kk⟩ := hsp
  have rp := wrep_start (N := N) hl (by omega) e1 e2 e3 e4 e6 e7 e8
  have hs : (L2.start N vs)[0]? = some (some (V.ref a)) := by rw [e1]; exact start_get rfl
  refine ⟨fun b => if b = a then none else H b, O, _, Qd, ⟨?_, rw', e5, ?_⟩, hF, fun d v H' hd r' q x => ?_⟩
  · simp
  · exact rp
  · obtain ⟨a', rw2, ws2, s1, s2, s3, s4, s5, s6⟩ := r'.at
    rw [hs] at s1
    cases s1
    exact kk d v H' rw2 ws2 hd s6 s4 s5 (x.2 a hs) r'.tabs' q
end
end DN
set_option Elab.async false
set_option linter.all false
set_option maxRecDepth 100000
set_option maxHeartbeats 4000000
namespace DN
open PySem PySem.Spec PyProof.Rows L2
/-! ### a body that writes the row itself -/
abbrev ZF := En → (En → Prop) → (PyData → En → Prop) → Prop
def tZ (K : PySem.W.Frag) (Ts : TsT) (ρ : Nat) (F : ZF) : TS := fun D σ H => ∃ He O en N R a, Rep K Ts He O σ H en ∧ σ[ρ]? = some (some (V.ref a)) ∧ F en N R ∧
  (∀ en' σ' H', N en' → Rep K Ts He O σ' H' en' → σ'[ρ]? = some (some (V.ref a)) → XtB a H H' → D.nx σ' H') ∧
  (∀ d en' v σ' H', R d en' → Rep K Ts He O σ' H' en' → σ'[ρ]? = some (some (V.ref a)) → XtB a H H' → Dp K (hide H' O) v d → D.rt v H')
abbrev ZS (X : Cx) (Ts : TsT) (ρ : Nat) (st : Stmt) (F : ZF) : Prop := PS X st (tZ X.K Ts ρ F)
abbrev ZSs (X : Cx) (Ts : TsT) (ρ : Nat) (st : List Stmt) (F : ZF) : Prop := PSs X st (tZ X.K Ts ρ F)
def zNil : ZF := fun en N _ => N en
def zSeq (F G : ZF) : ZF := fun en N R => F en (fun e1 => G e1 N R) R
def zSet (i : Nat) (f : En → Option PyData) : ZF := fun en N _ => ∃ d e1, f en = some d ∧ bName i d en = some e1 ∧ N e1
def zRow (ρ c : Nat) (f : En → Option PyData) : ZF := fun en N _ => ∃ d ds, f en = some d ∧ en[ρ]? = some (Slot.own ds) ∧ c < ds.length ∧ N (en.set ρ (.own (ds.set c d)))
def zIf (t : En → Option Bool) (F G : ZF) : ZF := fun en N R => ∃ b, t en = some b ∧ if b = true then F en N R else G en N R
def zRet (f : En → Option PyData) : ZF := fun en _ R => ∃ d, f en = some d ∧ R d en
theorem XtB.refl {a : Addr} (H : Hp) : XtB a H H := .of (Xt.refl H)
theorem DpAll.set {K : PySem.W.Frag} {H : Hp} {v : V} {d : PyData} : ∀ {vs : List V} {ds : List PyData} (c : Nat), DpAll K H vs ds → Dp K H v d → DpAll K H (vs.set c v) (ds.set c d)
  | _, _, _, .nil, _ => .nil
  | _, _, 0, .cons _ b, q => .cons q b
  | _, _, n + 1, .cons a b, q => .cons a (DpAll.set n b q)
/-- the list of a slot gets other elements -/
theorem Rep.own_set {K : PySem.W.Frag} {Ts : TsT} {He : Hp} {O : List Addr} {σ : St} {H : Hp} {en : En} {i : Nat} {a : Addr} {vs vs' : List V} {ds ds' : List PyData} (rp : Rep K Ts He O σ H en) (hd : en[i]? = some (Slot.own ds)) (p1 : σ[i]? = some (some (V.ref a))) (p2 : a ∈ O) (p3 : He a = none) (p4 : H a = some (.lst vs)) (q : DpAll K (hide H O) vs' ds') :
    Rep K Ts He O σ (upd H a (.lst vs')) (en.set i (.own ds')) := by
  have hi : i < en.length := (List.getElem?_eq_some_iff.mp hd).1
  have hu : Xt (hide H O) (hide (upd H a (.lst vs')) O) := hide_upd p2
  refine ⟨by simp [rp.len], fun j d' h => ?_, fun j es h => ?_, fun j kk es es' aa h1 h2 h3 h4 => ?_, fun b hb => ?_, fun b o e => ?_, rp.tabs.upd fun u z => by rw [p4] at z; cases z; exact lst_noc⟩
  · have hj : i ≠ j := fun z => by subst z; rw [List.getElem?_set_self hi] at h; cases h
    rw [List.getElem?_set_ne hj] at h
    obtain ⟨u, q1, q2⟩ := rp.dat j d' h
    exact ⟨u, q1, Dp.mono hu q2⟩
  · by_cases hj : i = j
    · subst hj
      rw [List.getElem?_set_self hi] at h
      cases h
      exact ⟨a, vs', p1, p2, p3, upd_same, DpAll.mono hu q⟩
    · rw [List.getElem?_set_ne hj] at h
      obtain ⟨a', vs2, q1, q2, q3, q4, q5⟩ := rp.own j es h
      have hne : a' ≠ a := fun z => hj (by subst z; exact rp.inj i j ds es a' hd h p1 q1)
      exact ⟨a', vs2, q1, q2, q3, by rw [upd_ne hne]; exact q4, DpAll.mono hu q5⟩
  · have toOwn : ∀ (j : Nat) (es : List PyData), (en.set i (Slot.own ds'))[j]? = some (Slot.own es) → ∃ es', en[j]? = some (Slot.own es') := fun j es h => by
      by_cases hj : i = j
      · subst hj; exact ⟨ds, hd⟩
      · rw [List.getElem?_set_ne hj] at h; exact ⟨es, h⟩
    obtain ⟨e1, g1⟩ := toOwn j es h1
    obtain ⟨e2, g2⟩ := toOwn kk es' h2
    exact rp.inj j kk e1 e2 aa g1 g2 h3 h4
  · by_cases z : b = a
    · rw [z, upd_same]
      exact ⟨by simp, fun ps z => nomatch z⟩
    · rw [upd_ne z]
      exact rp.occ b hb
  · have hne : b ≠ a := fun z => by rw [z, p3] at e; cases e
    rw [upd_ne hne]
    exact rp.ext b o e
theorem ixN_at {n j : Nat} (hj : j < n) : ixN n (j : Int) = some j := by
  unfold ixN
  rw [if_pos (by omega), if_pos (by omega)]
  simp
section
variable {X : Cx} {Ts : TsT} {ρ : Nat} {pos : Pos} {st : Stmt} {rest : List Stmt} {F G : ZF} {e : Expr} {f g : En → Option PyData}
theorem z_nil : ZSs X Ts ρ [] zNil := PSs.imp pss_nil fun D σ H ⟨He, O, en, N, R, a, rp, hs, hF, k, _⟩ => k en σ H hF rp hs (XtB.refl H)
theorem z_cons (h1 : ZS X Ts ρ st F) (h2 : ZSs X Ts ρ rest G) : ZSs X Ts ρ (st :: rest) (zSeq F G) := PSs.imp (pss_cons h1 h2) fun D σ H ⟨He, O, en, N, R, a, rp, hs, hF, k, l⟩ =>
  ⟨He, O, en, _, R, a, rp, hs, hF, fun e1 σ1 H1 hn r1 s1 x1 => ⟨He, O, e1, N, R, a, r1, s1, hn, fun e2 σ2 H2 hn2 r2 s2 x2 => k e2 σ2 H2 hn2 r2 s2 (x1.trans x2), fun d e2 v σ2 H2 hr r2 s2 x2 q => l d e2 v σ2 H2 hr r2 s2 (x1.trans x2) q⟩, l⟩
theorem z_one (h1 : ZS X Ts ρ st F) : ZSs X Ts ρ [st] F := pss_one h1
theorem z_set {i : Nat} {x : Str} {pos' : Pos} (hN : X.N.Nodup) (hi : X.N[i]? = some x) (hx : Loc X.env.scope x) (hρ : i ≠ ρ) (he : DE X Ts e f) (hs : swapsWith e (some (.Name x pos')) pos.line X.env = pure false := by rfl) (hf : X.fn x = true ∨ X.env.scope.names.lookup x = some .local := by first | exact .inl rfl | exact .inr rfl | assumption) :
    ZS X Ts ρ (.Assign [.Name x pos'] e pos) (zSet i f) := PS.imp (ps_set hN hi hx he hs hf) fun D σ H ⟨He, O, en, N, R, a, rp, hs, ⟨d, e1, h1, h2, hn⟩, k, _⟩ => by
  refine tD.of rp h1 fun v H1 x1 r1 q1 => ?_
  unfold bName at h2
  split at h2
  · rename_i hi'
    cases h2
    exact k _ _ H1 hn (r1.setD hi' q1) (by rw [List.getElem?_set_ne hρ]; exact hs) (.of x1)
  · cases h2
theorem z_row {c : Nat} {x : Str} {px ps pc : Pos} {kc : Nat} (hN : X.N[ρ]? = some x) (hv : Vis X.env.scope x) (he : DE X Ts e f) (hd : (x == ("__debug__" : Str)) = false := by decide) (hcd : (x == ("__classdict__" : Str)) = false := by decide)
    (hs : swapsWithSole [.Subscript (.Name x px) (.Constant (.int (c : Int)) kc pc) ps] e pos.line X.env = pure false := by rfl) (hw : swappedStores [.Subscript (.Name x px) (.Constant (.int (c : Int)) kc pc) ps] e X.env = pure none := by rfl) :
    ZS X Ts ρ (.Assign [.Subscript (.Name x px) (.Constant (.int (c : Int)) kc pc) ps] e pos) (zRow ρ c f) := PS.imp (ps_asg he (pg_sub (pe_var hN hv hd hcd) pe_int set_list) hs hw) fun D σ H ⟨He, O, en, N, R, a, rp, hs, ⟨d, ds, h1, h2, h3, hn⟩, k, _⟩ => by
  refine tD.of rp h1 fun v H1 x1 r1 q1 => ?_
  obtain ⟨a', vs, p1, p2, p3, p4, p5⟩ := r1.own ρ ds h2
  rw [hs] at p1
  cases p1
  have hl : c < vs.length := by rw [DpAll.len p5]; exact h3
  refine ⟨.ref a, hs, a, vs, c, c, rfl, rfl, p4, ixN_at hl, ?_⟩
  exact k _ _ _ hn (r1.own_set h2 hs p2 p3 p4 (DpAll.set c p5 q1)) hs ((XtB.of x1).trans fun b o hb e => .inl (by rw [upd_ne hb]; exact e))
theorem z_if {c : Expr} {a b : List Stmt} {t : En → Option Bool} (hc : DT X Ts c t) (ha : ZSs X Ts ρ a F) (hb : ZSs X Ts ρ b G) : ZS X Ts ρ (.If c a b pos) (zIf t F G) := PS.imp (ps_if hc ha hb) fun D σ H ⟨He, O, en, N, R, a, rp, hs, ⟨b, h1, h2⟩, k, l⟩ => by
  refine tT.of rp h1 fun H1 x1 r1 => ?_
  cases b with
  | true => exact iteT ⟨He, O, en, N, R, a, r1, hs, h2, fun e2 σ2 H2 hn2 r2 s2 x2 => k e2 σ2 H2 hn2 r2 s2 ((XtB.of x1).trans x2), fun d e2 v σ2 H2 hr r2 s2 x2 q => l d e2 v σ2 H2 hr r2 s2 ((XtB.of x1).trans x2) q⟩
  | false => exact iteF ⟨He, O, en, N, R, a, r1, hs, h2, fun e2 σ2 H2 hn2 r2 s2 x2 => k e2 σ2 H2 hn2 r2 s2 ((XtB.of x1).trans x2), fun d e2 v σ2 H2 hr r2 s2 x2 q => l d e2 v σ2 H2 hr r2 s2 ((XtB.of x1).trans x2) q⟩
theorem z_ret (he : DE X Ts e f) : ZS X Ts ρ (.Return (some e) pos) (zRet f) := PS.imp (ps_ret he) fun D σ H ⟨He, O, en, N, R, a, rp, hs, ⟨d, h1, hr⟩, k, l⟩ =>
  tD.of rp h1 fun v H1 x1 r1 q1 => l d en v σ H1 hr r1 hs (.of x1) q1
def cPow (i j : Int) : Bool := decide (0 ≤ j ∧ j ≤ 1000000 ∧ i.natAbs < 2 ^ 64)
def fPow := f2 (gIc cPow fun i j => .int (i ^ j.toNat))
theorem d_pow {a b : Expr} (ha : DE X Ts a f) (hb : DE X Ts b g) : DE X Ts (.BinOp a .Pow b pos) (fPow f g) := d_i (fun i j h => show CPow i j from @of_decide_eq_true (0 ≤ j ∧ j ≤ 1000000 ∧ i.natAbs < 2 ^ 64) _ h) (fun _ _ _ _ => .int _) (pe_op op_pow ha hb)
end
section
variable {P : Program} {w : World} {K : PySem.W.Frag} {mg : Str → Option Value} {base : Heap} {Ts : TsT}
def runZ (n : Nat) (F : ZF) : List PyData → (PyData → Prop) → Prop := fun ds Q => ∀ rw, RowOk rw → F (Slot.own rw :: (ds.map Slot.dat ++ List.replicate (n - 1 - ds.length) Slot.no)) (fun _ => False) fun d en' => (∃ rw', RowOk rw' ∧ en'[0]? = some (Slot.own rw')) ∧ Q d
theorem DF.okZ {x qual : Str} {st : Stmt} {f : Addr} {fd : FuncData} {cdv : Value} {N ps : List Str} {k n : Nat} {F : ZF} (D : DF K x qual st f fd cdv) (S : FnScope N ps (defScope st)) (hn : ps.length = n + 1) (hN : n + 1 ≤ N.length)
    (hbody : ∀ (A : Around) (outer : List Env) (s : Shared) (H : Hp) (E : XK), Room k (A.deeper (envOfC qual (defScope st) s.heap.objs.size f cdv)) → ZSs (cxOf CX0 P w K mg base N qual (defScope st) f cdv A outer s H E).nox Ts 0 (defBody st) F) :
    FnOk P w K mg base CX0 (k + 1) f fd ps (spW K Ts n (runZ N.length F)) := by
  obtain ⟨oc, od, dV, kV, doc, pm, an, ct, osl, rfl, lk, hcd⟩ := D.ex
  refine fn_of lk hcd S (fun vs H Q E h => h.1.trans hn.symm) fun A outer s H vs Q E hr hsp => ?_
  refine ⟨_, (hbody A outer s H E hr).nox, ?_⟩
  obtain ⟨hl, a, vs', O, ds, rw', ws, Qd, e1, e2, e3, e4, e5, e6, e7, e8, hF, kk⟩ := hsp
  have rp := wrep_start (N := N) hl (by omega) e1 e2 e3 e4 e6 e7 e8
  have hs : (L2.start N vs)[0]? = some (some (V.ref a)) := by rw [e1]; exact start_get rfl
  refine ⟨fun b => if b = a then none else H b, O, _, _, _, a, rp, hs, hF rw' e5, fun _ _ _ h => h.elim, fun d en' v σ' H' ⟨⟨rw2, h1, h2⟩, h3⟩ r' s' x' q => ?_⟩
  obtain ⟨a', ws2, s1, s2, s3, s4, s5⟩ := r'.own 0 rw2 h2
  rw [s'] at s1
  cases s1
  exact kk d v H' rw2 ws2 h3 h1 s4 s5 x' r'.tabs q
end
end DN
set_option Elab.async false
set_option linter.all false
set_option maxRecDepth 100000
set_option maxHeartbeats 4000000
namespace DN
open PySem PySem.Spec PyProof.Rows L2
/-! ### values of expressions; the laws' draws -/
abbrev rw_ (k : Int) : En → Option PyData := fIx (fOwn 0) (fLit (.int k))
abbrev li (k : Int) : En → Option PyData := fLit (.int k)
def F_taken : ZF := zSeq (zIf (fT (fGt (rw_ 3) (li 0))) (zSeq (zSet 2 (fMod (fInt (rw_ 3)) (fVar 1))) (zSeq (zRow 0 3 (fDiv (rw_ 3) (fVar 1))) (zRet (fVar 2)))) zNil)
  (zSeq (zRow 0 1 (fPlus (rw_ 1) (li 1)))
  (zSeq (zIf (fT (fGt (rw_ 1) (fLen (rw_ 0)))) (zSeq (zRow 0 2 (fMod (fInt (fPlus (fMul (rw_ 2) (li 48271)) (li 11))) (li 2147483647))) (zRet (fMod (fInt (fDiv (rw_ 2) (li 7))) (fVar 1)))) zNil)
  (zSeq (zSet 3 (fIx (rw_ 0) (fSub (rw_ 1) (li 1))))
  (zSeq (zRow 0 2 (fMod (fInt (fPlus (fPlus (fMul (rw_ 2) (li 48271)) (fVar 3)) (li 11))) (li 2147483647)))
  (zSeq (zIf (fT (fGe (fVar 3) (fPow (li 10) (li 18)))) (zRow 0 3 (fDiv (fVar 3) (fVar 1))) zNil)
  (zRet (fMod (fInt (fVar 3)) (fVar 1))))))))
def cTaken : List PyData → (PyData → Prop) → Prop := fun ds Q => ∃ m : Int, ds = [.int m] ∧ 0 < m ∧ m ≤ 1000000 ∧ ∀ r, 0 ≤ r → r < m → Q (.int r)
theorem rowOk {ns : List Int} {i m c : Int} (h1 : ns.length ≤ 63) (h2 : 0 ≤ i) (h3 : 0 ≤ m) (h4 : m < 2147483647) (h5 : 0 ≤ c) : RowOk [.list (ns.map .int), .int i, .int m, .int c] := ⟨ns, i, m, c, rfl, h1, h2, h3, h4, h5⟩
theorem modA {f g : En → Option PyData} {en : En} {a b : Int} (h1 : f en = some (.int a)) (h2 : g en = some (.int b)) (hb : 0 < b) : fMod f g en = some (.int (a % b)) := by
  unfold fMod f2
  rw [h1, h2]
  show (if cMod a b = true then _ else _) = _
  rw [if_pos (by unfold cMod; exact decide_eq_true (by omega))]
  show some (PyData.int (a.fmod b)) = _
  rw [Int.fmod_eq_emod_of_nonneg _ (by omega)]
theorem divA {f g : En → Option PyData} {en : En} {a b : Int} (h1 : f en = some (.int a)) (h2 : g en = some (.int b)) (hb : 0 < b) (hl : b.natAbs.log2 < 9000) : fDiv f g en = some (.int (a / b)) := by
  unfold fDiv f2
  rw [h1, h2]
  show (if cDiv a b = true then _ else _) = _
  rw [if_pos (by unfold cDiv; exact decide_eq_true ⟨hb, hl⟩)]
theorem mulA {f g : En → Option PyData} {en : En} {a b : Int} (h1 : f en = some (.int a)) (h2 : g en = some (.int b)) (hl : a.natAbs.log2 + b.natAbs.log2 < 1000000) : fMul f g en = some (.int (a * b)) := by
  unfold fMul f2
  rw [h1, h2]
  show (if cMul a b = true then _ else _) = _
  rw [if_pos (by unfold cMul; exact decide_eq_true hl)]
theorem intA {f : En → Option PyData} {en : En} {a : Int} (h1 : f en = some (.int a)) : fInt f en = some (.int a) := by
  unfold fInt f1
  rw [h1]
  rfl
theorem plusA {f g : En → Option PyData} {en : En} {a b : Int} (h1 : f en = some (.int a)) (h2 : g en = some (.int b)) : fPlus f g en = some (.int (a + b)) := by
  unfold fPlus f2
  rw [h1, h2]
  rfl
theorem subA {f g : En → Option PyData} {en : En} {a b : Int} (h1 : f en = some (.int a)) (h2 : g en = some (.int b)) : fSub f g en = some (.int (a - b)) := by
  unfold fSub f2
  rw [h1, h2]
  rfl
theorem log2_le {a : Int} {k : Nat} (h : a.natAbs < 2 ^ k) (hk : 0 < k) : a.natAbs.log2 < k := by
  by_cases h0 : a.natAbs = 0
  · rw [h0]; simpa using hk
  · exact (Nat.log2_lt h0).mpr h
theorem taken_ok : ∀ ds Q, cTaken ds Q → runZ 4 F_taken ds Q := by
  rintro ds Q ⟨m, rfl, h0, h1, hq⟩ rw ⟨ns, i, mm, c, rfl, hn, hi, hm0, hm1, hc⟩
  have lm : m.natAbs.log2 < 9000 := Nat.lt_of_lt_of_le (log2_le (k := 20) (by omega) (by decide)) (by decide)
  refine ⟨decide (0 < c), rfl, ?_⟩
  by_cases hcp : 0 < c
  · rw [if_pos (by simpa using hcp)]
    refine ⟨_, _, modA (intA (a := c) rfl) (b := m) rfl h0, rfl, ?_⟩
    refine ⟨_, _, divA (a := c) rfl (b := m) rfl h0 lm, rfl, by simp, ?_⟩
    exact ⟨_, rfl, ⟨_, rowOk hn hi hm0 hm1 (Int.ediv_nonneg hc (by omega)), rfl⟩, hq _ (Int.emod_nonneg _ (by omega)) (Int.emod_lt_of_pos _ h0)⟩
  · rw [if_neg (by simpa using hcp)]
    refine ⟨_, _, rfl, rfl, by simp, ?_⟩
    refine ⟨decide ((ns.map PyData.int).length < i + 1), rfl, ?_⟩
    have lmm : mm.natAbs.log2 + (48271 : Int).natAbs.log2 < 1000000 := by
      have := log2_le (a := mm) (k := 31) (by omega) (by decide)
      have h2 : (48271 : Int).natAbs.log2 = 15 := by decide
      omega
    by_cases hl : ((ns.map PyData.int).length : Int) < i + 1
    · rw [if_pos (by simpa using hl)]
      refine ⟨_, _, modA (intA (plusA (mulA (a := mm) rfl (b := 48271) rfl lmm) (b := 11) rfl)) (b := 2147483647) rfl (by decide), rfl, by simp, ?_⟩
      refine ⟨_, modA (intA (divA rfl (b := 7) rfl (by decide) (by decide))) (b := m) rfl h0, ⟨_, rowOk hn (i := i + 1) (by omega) (Int.emod_nonneg _ (by decide)) (Int.emod_lt_of_pos _ (by decide)) hc, rfl⟩, hq _ (Int.emod_nonneg _ (by omega)) (Int.emod_lt_of_pos _ h0)⟩
    · rw [if_neg (by simpa using hl)]
      rw [List.length_map] at hl
      have hi2 : i.toNat < ns.length := by omega
      have hcell : fIx (rw_ 0) (fSub (rw_ 1) (li 1)) [Slot.own [.list (ns.map .int), .int (i + 1), .int mm, .int c], Slot.dat (.int m), Slot.no, Slot.no] = some (.int ns[i.toNat]) := by
        show ((fIx (rw_ 0) (fSub (rw_ 1) (li 1))) _) = _
        unfold fIx f2
        rw [subA (a := i + 1) (f := rw_ 1) rfl (b := 1) rfl]
        show (some (PyData.list (ns.map .int))).bind _ = _
        show atI (ns.map PyData.int) (i + 1 - 1) = _
        have e1 : i + 1 - 1 = (i.toNat : Int) := by omega
        rw [e1]
        unfold atI
        rw [ixN_at (by rw [List.length_map]; exact hi2)]
        show (ns.map PyData.int)[i.toNat]? = _
        rw [List.getElem?_map, List.getElem?_eq_getElem hi2]
        rfl
      refine ⟨_, _, hcell, rfl, ?_⟩
      refine ⟨_, _, modA (intA (plusA (plusA (mulA (a := mm) rfl (b := 48271) rfl lmm) (b := ns[i.toNat]) rfl) (b := 11) rfl)) (b := 2147483647) rfl (by decide), rfl, by simp, ?_⟩
      refine ⟨decide ((10 : Int) ^ 18 ≤ ns[i.toNat]), rfl, ?_⟩
      have hm2 : 0 ≤ (mm * 48271 + ns[i.toNat] + 11) % 2147483647 := Int.emod_nonneg _ (by decide)
      have hm3 : (mm * 48271 + ns[i.toNat] + 11) % 2147483647 < 2147483647 := Int.emod_lt_of_pos _ (by decide)
      by_cases hg : (10 : Int) ^ 18 ≤ ns[i.toNat]
      · rw [if_pos (by simpa using hg)]
        refine ⟨_, _, divA (a := ns[i.toNat]) rfl (b := m) rfl h0 lm, rfl, by simp, ?_⟩
        refine ⟨_, modA (intA (a := ns[i.toNat]) rfl) (b := m) rfl h0, ⟨_, rowOk hn (i := i + 1) (by omega) hm2 hm3 (Int.ediv_nonneg (by omega) (by omega)), rfl⟩, hq _ (Int.emod_nonneg _ (by omega)) (Int.emod_lt_of_pos _ h0)⟩
      · rw [if_neg (by simpa using hg)]
        refine ⟨_, modA (intA (a := ns[i.toNat]) rfl) (b := m) rfl h0, ⟨_, rowOk hn (i := i + 1) (by omega) hm2 hm3 hc, rfl⟩, hq _ (Int.emod_nonneg _ (by omega)) (Int.emod_lt_of_pos _ h0)⟩

/-! pick, flow, demands -/
section
variable {X : Cx} {Ts : TsT} {ρ : Nat} {pos : Pos} {e e2 : Expr} {F G : WF}
theorem op2_ix : Op2 X.K Ts (rIx X.K) gIx := fun x y v w d H O Q hg q1 q2 ht occ kk => by
  unfold gIx at hg
  cases q2 <;> try cases hg
  rename_i i
  obtain ⟨ds, h4, h5⟩ := Option.bind_eq_some_iff.mp hg
  cases x <;> simp only [items] at h4 <;> cases h4
  · cases q1 with
    | lst s a =>
      obtain ⟨u, h6, h7⟩ := atI_dp a h5
      exact .inl ⟨_, _, i, u, rfl, rfl, sqL_mono (fun o n e => (hide_some e).2) s, h6, kk u H (Xt.refl H) ht h7⟩
  · cases q1 with
    | tup s a =>
      obtain ⟨u, h6, h7⟩ := atI_dp a h5
      exact .inr (.inl ⟨_, _, i, u, rfl, rfl, sqT_mono (fun o n e => (hide_some e).2) s, h6, kk u H (Xt.refl H) ht h7⟩)
theorem we_ix (ha : WE X Ts ρ e F) (hb : WE X Ts ρ e2 G) (hs : PlainIx e2 := by exact fun _ _ => rfl) : WE X Ts ρ (.Subscript e e2 pos) (w2 gIx F G) := PE.imp (pe_ix ix_seq ha hb hs) (ww_2 op2_ix)
end
def F_pick (c : List PyData → (PyData → Prop) → Prop) : WF := w2 gIx (wP 0 (fVar 1)) (wDraw 1 c (wCons (wP 0 (fLen (fVar 1))) wNil))
def cPick : List PyData → (PyData → Prop) → Prop := fun ds Q => ∃ es, ds = [.list es] ∧ 0 < es.length ∧ es.length ≤ 64 ∧ ∀ d ∈ es, Q d
theorem pick_ok : ∀ ds Q, cPick ds Q → runW 2 (F_pick cTaken) ds Q := by
  rintro ds Q ⟨es, rfl, h0, h1, hq⟩
  refine ⟨.list es, fun rw => rfl, ?_⟩
  refine ⟨.int es.length, fun rw => rfl, rfl, (es.length : Int), rfl, by omega, by omega, fun r hr0 hr1 => ?_⟩
  obtain ⟨k, rfl⟩ : ∃ k : Nat, r = (k : Int) := ⟨r.toNat, by omega⟩
  have hi : k < es.length := by omega
  refine ⟨es[k], ?_, hq _ (List.getElem_mem hi)⟩
  show atI es k = _
  unfold atI
  rw [ixN_at hi]
  exact List.getElem?_eq_getElem hi
def wInt (i : Int) : WF := wP 0 (fLit (.int i))
def F_flow (ct cp : List PyData → (PyData → Prop) → Prop) : WF := wDraw 1 cp (wCons (wLst (wCons (wInt 0) (wCons (wInt 1) (wCons (wInt 5) (wCons (wInt 10) (wCons (wDraw 1 ct (wCons (wInt 30) wNil)) (wCons (wDraw 1 cp (wCons (wLst (wCons (wInt 100) (wCons (wInt 1000) wNil))) wNil)) wNil))))))) wNil)
def cFlow : List PyData → (PyData → Prop) → Prop := fun ds Q => ds = [] ∧ ∀ n : Int, 0 ≤ n → n ≤ 1000 → Q (.int n)
theorem flow_ok : ∀ ds Q, cFlow ds Q → runW 1 (F_flow cTaken cPick) ds Q := by
  rintro ds Q ⟨rfl, hq⟩
  refine ⟨.int 0, fun _ => rfl, .int 1, fun _ => rfl, .int 5, fun _ => rfl, .int 10, fun _ => rfl, .int 30, fun _ => rfl, rfl, 30, rfl, by decide, by decide, fun r h0 h1 => ?_⟩
  refine ⟨.int 100, fun _ => rfl, .int 1000, fun _ => rfl, by decide, rfl, [.int 100, .int 1000], rfl, by decide, by decide, fun d hd => ?_⟩
  refine ⟨by simp, rfl, [.int 0, .int 1, .int 5, .int 10, .int r, d], rfl, by simp, by simp, fun d2 hd2 => ?_⟩
  simp only [List.mem_cons, List.not_mem_nil, or_false] at hd hd2
  rcases hd2 with rfl | rfl | rfl | rfl | rfl | rfl
  · exact hq _ (by omega) (by omega)
  · exact hq _ (by omega) (by omega)
  · exact hq _ (by omega) (by omega)
  · exact hq _ (by omega) (by omega)
  · exact hq _ (by omega) (by omega)
  · rcases hd with rfl | rfl <;> exact hq _ (by omega) (by omega)
def F_demands (cf : List PyData → (PyData → Prop) → Prop) : WF := w1 gTuple (wLc (wRange1 (wP 0 (fVar 1))) (bName 2) wYes (wDraw 0 cf wNil) [2])
/-- flows -/
def Flows (ns : List Int) : Prop := ∀ n ∈ ns, 0 ≤ n ∧ n ≤ 1000
def cDemands : List PyData → (PyData → Prop) → Prop := fun ds Q => ∃ m : Nat, ds = [.int m] ∧ m ≤ 64 ∧ ∀ ns : List Int, ns.length = m → Flows ns → Q (.tuple (ns.map .int))
theorem flows_go {en : En} {d : PyData} (hb : ∀ d : PyData, ∃ e1, bName 2 d en = some e1) : ∀ (ds : List PyData) (Q : List PyData → Prop), (∀ ns : List Int, ns.length = ds.length → Flows ns → Q (ns.map .int)) → wlcGo (bName 2) wYes (wDraw 0 cFlow wNil) en ds Q
  | [], Q, h => h [] rfl (fun _ h => nomatch h)
  | d :: r, Q, h => by
    obtain ⟨e1, he⟩ := hb d
    refine ⟨e1, he, ?_⟩
    show wDraw 0 cFlow wNil e1 _
    refine ⟨rfl, rfl, fun n h0 h1 => flows_go (d := d) hb r _ fun ns hl hf => ?_⟩
    exact h (n :: ns) (by simp [hl]) (fun x hx => (List.mem_cons.mp hx).elim (fun z => z ▸ ⟨h0, h1⟩) (hf x))
theorem demands_ok : ∀ ds Q, cDemands ds Q → runW 3 (F_demands cFlow) ds Q := by
  rintro ds Q ⟨m, rfl, hm, hq⟩
  refine ⟨fun j hj es => ?_, .int m, fun rw => rfl, (m : Int), rfl, by omega, by omega, ?_, ?_⟩
  · simp only [List.mem_cons, List.not_mem_nil, or_false] at hj
    subst hj
    simp
  · simp [rangeD]
    omega
  · refine flows_go (d := .none) (fun d => ⟨_, rfl⟩) _ _ fun ns hl hf => ⟨_, rfl, hq ns ?_ hf⟩
    rw [hl]
    simp [rangeD]
end DN
set_option Elab.async false
set_option linter.all false
set_option maxRecDepth 100000
set_option maxHeartbeats 4000000
namespace DN
open PySem PySem.Spec PyProof.Rows L2
/-! ### tuple * int, from one on -/
theorem tup_once (l : Addr) (items : Array Value) (n : Nat) (dd : Option Addr) (sl : Array (Option Value)) (x : Int) (u : Tok) (c0 : (decide (x < -(2 ^ 63)) || decide (x ≥ 2 ^ 63)) = false) (c1 : (items.isEmpty || x == 1) = true) :
    Meets (Builtin.«tuple.__mul__» ⟨[.ref l, .int x u], []⟩) (fun _ R s => s.heap.get? l = some { cls := .type "tuple", dict := dd, data := .seq items n, slots := sl } ∧ R (.ok (.ret (Value.ref l))) s) :=
  .of_wp fun prog w A R s h => by
    obtain ⟨hp, g, d, tk, os⟩ := s
    obtain ⟨hl, h⟩ := h
    have f1 := AutoSeq1.idx_int
    wp_walk using wpAny_loadPart' hl
    repeat (first
      | (refine wpAny_ite_false (decide_eq_false (by rw [c0]; exact Bool.false_ne_true)) ?_; wp_walk using wpAny_loadPart' hl)
      | (refine wpAny_ite_true (decide_eq_true (by rw [c1])) ?_; wp_walk using wpAny_loadPart' hl))
    all_goals first | exact ⟨_, rfl, h⟩ | trace_state
def rRepO (K : PySem.W.Frag) : R2 := fun x y H Q => ∃ l xs, x = .ref l ∧ y = .int 1 ∧ SqT K H l xs ∧ Q (.ref l) H
section
variable {X : Cx}
theorem op_repO : OpR X (binaryOp .Mult) (rRepO X.K) := by
  intro pins s σ H x y v u Q I rx ry h
  obtain ⟨l, xs, rfl, rfl, hT, q⟩ := h
  cases rx
  obtain ⟨t, rfl⟩ := ry
  obtain ⟨its, r, ⟨⟨cls, dd, data, sl⟩, ho, hc, n, hd⟩, hs⟩ := I.tuple hT
  simp only at hc hd
  subst hc hd
  refine wpAny_binaryOp_repeat_ref (T := "tuple") (U := "int") (by decide) ⟨_, ho, rfl⟩ (fun s' => typeIs_int s' 1 t) noFill_tuple_mul F.fills_int_mul F.slot_int_rmul repeat_tuple F.slot_int_index.lookup
    (call_meets F.slot_int_rmul (typeIs_int s 1 t) F.entry_int_rmul (F.args_int_rmul_2 _ _) (int_rmul_tuple 1 t l its.toArray n dd sl)
      ⟨ho, rfl, ⟨_, ho, rfl⟩, call_meets F.slot_tuple_mul ⟨_, ho, rfl⟩ F.entry_tuple_mul (F.args_tuple_mul_2 _ _) (tup_once l its.toArray n dd sl 1 t (by decide) (by simp)) ⟨ho, ?_⟩⟩)
  exact ⟨.ref l, H, I, rfl, q⟩
end
def gRep : PyData → PyData → Option PyData
  | .tuple ds, .int k => if ds ≠ [] ∧ 1 ≤ k ∧ k ≤ 1000 ∧ ds.length ≤ 1000 then some (.tuple (List.replicate k.toNat ds).flatten) else none
  | _, _ => none
def fRep := f2 gRep
theorem DpAll.rep {K : PySem.W.Frag} {H : Hp} {vs : List V} {ds : List PyData} (h : DpAll K H vs ds) : ∀ n : Nat, DpAll K H (List.replicate n vs).flatten (List.replicate n ds).flatten
  | 0 => .nil
  | n + 1 => DpAll.app h (DpAll.rep h n)
section
variable {X : Cx} {Ts : TsT} {pos p : Pos} {a b e : Expr} {fa fb : En → Option PyData}
theorem d_rep (ha : DE X Ts a fa) (hb : DE X Ts b fb) : DE X Ts (.BinOp a .Mult b pos) (fRep fa fb) :=
  PE.imp (pe_op (op_repT.or op_repO) ha hb) (w_2 fun x y v w d H O Q hg q1 q2 ht occ kk => by
    cases x <;> cases y <;> simp only [gRep] at hg <;> try cases hg
    rename_i ds k
    split at hg
    · rename_i hc
      obtain ⟨c1, c2, c3, c4⟩ := hc
      cases hg
      cases q2
      cases q1 with
      | tup s q =>
        have hl := DpAll.len q
        by_cases hk : k = 1
        · subst hk
          refine .inr ⟨_, _, rfl, rfl, sqT_mono (fun o n e => (hide_some e).2) s, kk _ H (Xt.refl H) ht ?_⟩
          have e1 : (List.replicate (1 : Int).toNat ds).flatten = ds := by simp
          rw [e1]
          exact .tup s q
        · refine .inl ⟨_, _, _, rfl, rfl, sqT_mono (fun o n e => (hide_some e).2) s, fun z => c1 (by subst z; cases q; rfl), by omega, c3, by omega, fun p np => kk _ _ (Xt.upd np) (ht.new np) (tup_new np (fun z => occ p z np) (DpAll.rep q _))⟩
    · cases hg)
/-! *: of ints, of a tuple and an int -/
def gTimes : PyData → PyData → Option PyData
  | .int i, .int j => if cMul i j = true then some (.int (i * j)) else none
  | .tuple ds, .int k => gRep (.tuple ds) (.int k)
  | _, _ => none
def fTimes := f2 gTimes
theorem d_times (ha : DE X Ts a fa) (hb : DE X Ts b fb) : DE X Ts (.BinOp a .Mult b pos) (fTimes fa fb) :=
  PE.imp (pe_op (op_mulW.or (op_repT.or op_repO)) ha hb) (w_2 fun x y v w d H O Q hg q1 q2 ht occ kk => by
    cases x <;> cases y <;> simp only [gTimes, gRep] at hg <;> try cases hg
    · rename_i i j
      split at hg
      · rename_i hc
        cases hg
        cases q1
        cases q2
        exact .inl ⟨_, _, rfl, rfl, show CMulW i j from @of_decide_eq_true (i.natAbs.log2 + j.natAbs.log2 < 1000000) _ hc, kk _ H (Xt.refl H) ht (.int _)⟩
      · cases hg
    · rename_i ds k
      split at hg
      · rename_i hc
        obtain ⟨c1, c2, c3, c4⟩ := hc
        cases hg
        cases q2
        cases q1 with
        | tup s q =>
          have hl := DpAll.len q
          by_cases hk : k = 1
          · subst hk
            refine .inr (.inr ⟨_, _, rfl, rfl, sqT_mono (fun o n e => (hide_some e).2) s, kk _ H (Xt.refl H) ht ?_⟩)
            have e1 : (List.replicate (1 : Int).toNat ds).flatten = ds := by simp
            rw [e1]
            exact .tup s q
          · refine .inr (.inl ⟨_, _, _, rfl, rfl, sqT_mono (fun o n e => (hide_some e).2) s, fun z => c1 (by subst z; cases q; rfl), by omega, c3, by omega, fun p np => kk _ _ (Xt.upd np) (ht.new np) (tup_new np (fun z => occ p z np) (DpAll.rep q _))⟩)
      · cases hg)
/-! is, is not a bool -/
def gIsB : PyData → PyData → Option PyData
  | .bool a, .bool b => some (.bool (decide (a = b)))
  | _, _ => none
def gNotB : PyData → PyData → Option PyData
  | .bool a, .bool b => some (.bool (!decide (a = b)))
  | _, _ => none
def fIsB := f2 gIsB
def fNotB := f2 gNotB
theorem w_isB {K : PySem.W.Frag} : ∀ σ H Q, tD K Ts (fIsB fa fb) σ H Q → tOp rIsB (tD K Ts fa) (tD K Ts fb) σ H Q :=
  w_2 fun x y v w d H O Q hg q1 q2 ht _ kk => by
    cases x <;> cases y <;> simp only [gIsB] at hg <;> try cases hg
    cases q1
    cases q2
    exact ⟨_, _, rfl, rfl, kk _ H (Xt.refl H) ht (.bl _)⟩
theorem w_notB {K : PySem.W.Frag} : ∀ σ H Q, tD K Ts (fNotB fa fb) σ H Q → tOp rNotB (tD K Ts fa) (tD K Ts fb) σ H Q :=
  w_2 fun x y v w d H O Q hg q1 q2 ht _ kk => by
    cases x <;> cases y <;> simp only [gNotB] at hg <;> try cases hg
    cases q1
    cases q2
    exact ⟨_, _, rfl, rfl, kk _ H (Xt.refl H) ht (.bl _)⟩
theorem d_isB (ha : DE X Ts a fa) (hb : DE X Ts b fb) : DE X Ts (.Compare a [.Is] [b] pos) (fIsB fa fb) := PE.imp (pe_cmpR op_isBl ha hb (nomark _)) w_isB
theorem d_notB (ha : DE X Ts a fa) (hb : DE X Ts b fb) : DE X Ts (.Compare a [.IsNot] [b] pos) (fNotB fa fb) := PE.imp (pe_cmpR op_notBl ha hb (nomark _)) w_notB
theorem dt_isB (ha : DE X Ts a fa) (hb : DE X Ts b fb) : DT X Ts (.Compare a [.Is] [b] pos) (fT (fIsB fa fb)) := dt_of (pt_cmpR op_isBl ha hb (nomark _)) w_isB
theorem dt_notB (ha : DE X Ts a fa) (hb : DE X Ts b fb) : DT X Ts (.Compare a [.IsNot] [b] pos) (fT (fNotB fa fb)) := dt_of (pt_cmpR op_notBl ha hb (nomark _)) w_notB
/-! a, b, c = x, y, z -/
def sPar3 (i j l : Nat) (f g h : En → Option PyData) : En → Option Fl := fun en => (f en).bind fun x => (g en).bind fun y => (h en).bind fun z => (bName i x en).bind fun e1 => (bName j y e1).bind fun e2 => (bName l z e2).map .nx
theorem bName_set {i : Nat} {d : PyData} {en e1 : En} (h : bName i d en = some e1) : i < en.length ∧ e1 = en.set i (.dat d) := by
  unfold bName at h
  split at h
  · cases h; exact ⟨by assumption, rfl⟩
  · cases h
theorem s_par3 {i j l : Nat} {x y z : Str} {c : Expr} {px py pz pt : Pos} {kt k2 pt2} {f g h : En → Option PyData} (hc : X.calm = true) (hN : X.N.Nodup) (hi : X.N[i]? = some x) (hj : X.N[j]? = some y) (hl : X.N[l]? = some z) (hij : i ≠ j) (hil : i ≠ l) (hjl : j ≠ l)
    (hx : X.env.scope.names.lookup x = some .local) (hy : X.env.scope.names.lookup y = some .local) (hz : X.env.scope.names.lookup z = some .local) (ha : DE X Ts a f) (hb : DE X Ts b g) (hcc : DE X Ts c h) (hw : swappedStores [.Tuple [.Name x px, .Name y py, .Name z pz] kt pt] (.Tuple [a, b, c] k2 pt2) X.env = pure (some [x, y, z]))
    (hs1 : starEach [a, b, c] X.env = (false, eval a X.env) :: starEach [b, c] X.env := by rfl) (hs2 : starEach [b, c] X.env = (false, eval b X.env) :: starEach [c] X.env := by rfl) (hs3 : starEach [c] X.env = (false, eval c X.env) :: starEach [] X.env := by rfl)
    (hs : swapsWithSole [.Tuple [.Name x px, .Name y py, .Name z pz] kt pt] (.Tuple [a, b, c] k2 pt2) pos.line X.env = pure false := by rfl) : DS X Ts (.Assign [.Tuple [.Name x px, .Name y py, .Name z pz] kt pt] (.Tuple [a, b, c] k2 pt2) pos) (sPar3 i j l f g h) :=
  PS.imp (ps_par3 hc hN hi hj hl hij hil hjl hx hy hz (pa_cons ha (pa_cons hb (pa_cons hcc pa_nil hs3) hs2) hs1) hw hs) fun D σ H ⟨He, O₀, Vz, en, r, rp, hf, k⟩ => by
    unfold sPar3 at hf
    obtain ⟨d1, h1, hf1⟩ := Option.bind_eq_some_iff.mp hf
    obtain ⟨d2, h2, hf2⟩ := Option.bind_eq_some_iff.mp hf1
    obtain ⟨d3, h3, hf3⟩ := Option.bind_eq_some_iff.mp hf2
    obtain ⟨e1, h4, hf4⟩ := Option.bind_eq_some_iff.mp hf3
    obtain ⟨e2, h5, hf5⟩ := Option.bind_eq_some_iff.mp hf4
    obtain ⟨e3, h6, rfl⟩ := Option.map_eq_some_iff.mp hf5
    obtain ⟨O, a1, a2, rp, xv⟩ := rp
    refine tD.of rp h1 fun v H1 x1 r1 q1 => tD.of r1 h2 fun w H2 x2 r2 q2 => tD.of r2 h3 fun u H3 x3 r3 q3 => ⟨v, w, u, rfl, k _ H3 ?_⟩
    obtain ⟨b1, rfl⟩ := bName_set h4
    obtain ⟨b2, rfl⟩ := bName_set h5
    obtain ⟨b3, rfl⟩ := bName_set h6
    exact ⟨O, a1, a2, ((r3.setD b1 (Dp.mono (hide_mono (x2.trans x3)) q1)).setD b2 (Dp.mono (hide_mono x3) q2)).setD b3 q3, xv.trans (hide_mono ((x1.trans x2).trans x3))⟩
/-! isinstance(x, (A, B)) -/
theorem d_isi2 {T U : String} {x y : Str} {q q' : PyData → Bool} {f : En → Option PyData} {px py pt : Pos} {kt : Nat} (hq : ∀ d, kitB (pyTy d) T = some (q d)) (hq' : ∀ d, kitB (pyTy d) U = some (q' d)) (hg : Gl X "isinstance") (hm : X.mg "isinstance" = none) (hv : bootBuiltins "isinstance" = some (.builtin "isinstance"))
    (hgT : Gl X x) (hmT : X.mg x = none) (hvT : bootBuiltins x = some (.type T)) (hgU : Gl X y) (hmU : X.mg y = none) (hvU : bootBuiltins y = some (.type U)) (ha : DE X Ts e f) (hnT : x ≠ "__name__" := by decide) (hdT : (x == ("__debug__" : Str)) = false := by decide) (hnU : y ≠ "__name__" := by decide) (hdU : (y == ("__debug__" : Str)) = false := by decide)
    (he : starEach [e, .Tuple [.Name x px, .Name y py] kt pt] X.env = (false, eval e X.env) :: starEach [.Tuple [.Name x px, .Name y py] kt pt] X.env := by rfl) (he2 : starEach [.Tuple [.Name x px, .Name y py] kt pt] X.env = (false, eval (.Tuple [.Name x px, .Name y py] kt pt) X.env) :: starEach [] X.env := by rfl)
    (ht1 : starEach [.Name x px, .Name y py] X.env = (false, eval (.Name x px) X.env) :: starEach [.Name y py] X.env := by rfl) (ht2 : starEach [.Name y py] X.env = (false, eval (.Name y py) X.env) :: starEach [] X.env := by rfl) (hpl : (backTo pos (starEach [.Tuple [.Name x px, .Name y py] kt pt] X.env)).any (·.1) = false := by rfl) :
    DE X Ts (.Call (.Name "isinstance" p) [e, .Tuple [.Name x px, .Name y py] kt pt] [] pos) (fIsi (fun d => q d || q' d) f) :=
  PE.imp (pe_callB (t := tCons (tD X.K Ts f) (tCons (tTup (tCons (tC (.ty T)) (tCons (tC (.ty U)) tNil))) tNil)) call_isiT hg hm hv (pa_cons ha (pa_cons (pe_tup (pa_cons (pe_bltn (v := .ty T) hgT hmT hvT rfl hnT hdT) (pa_cons (pe_bltn (v := .ty U) hgU hmU hvU rfl hnU hdU) pa_nil ht2) ht1)) pa_nil he2) he) (by decide) (by decide) he hpl) fun σ H Q ⟨He, O, en, d, rp, hf, kk⟩ => by
    obtain ⟨z, h1, h2⟩ := f1_some hf
    cases h2
    refine tD.of rp h1 fun v H1 x1 r1 q1 => ⟨small64 (by simp), fun tp np => ?_⟩
    refine ⟨v, tp, [.ty T, .ty U], _, [.type T, .type U], q z || q' z, rfl, upd_same, .cons (.ty T) (.cons (.ty U) .nil), tyX_of (Dp.mono (Xt.upd np) (Dp.mono hide_out q1)), kitAny_cons (kit_ty (hq z)) (fun e => ?_) (fun e => by rw [e]; rfl), kk _ _ (x1.trans (Xt.upd np)) (r1.tabs.new np) (.bl _)⟩
    refine kitAny_cons (kit_ty (hq' z)) (fun e2 => ?_) (fun e2 => by rw [e2, Bool.or_true])
    rw [e, e2]
    exact kitAny_nil
/-! not in -/
def gNotIn : PyData → PyData → Option PyData
  | x, .list ds => if (SeqAt.shaped x && SeqAt.shaped (.list ds)) = true then some (.bool (!ds.any fun z => PyData.eqv z x)) else none
  | _, _ => none
def fNotIn := f2 gNotIn
theorem w_notin {K : PySem.W.Frag} : ∀ σ H Q, tD K Ts (fNotIn fa fb) σ H Q → tOp (rNotInD K) (tD K Ts fa) (tD K Ts fb) σ H Q :=
  w_2 fun x y v w d H O Q hg q1 q2 ht _ kk => by
    cases y <;> simp only [gNotIn] at hg <;> try cases hg
    split at hg
    · rename_i hs
      rw [Bool.and_eq_true] at hs
      cases hg
      exact ⟨x, _, Dp.mono hide_out q1, Dp.mono hide_out q2, hs.1, hs.2, kk _ H (Xt.refl H) ht (.bl _)⟩
    · cases hg
theorem d_notin {k : Nat} (hr : Room k X.A) (ha : DE X Ts a fa) (hb : DE X Ts b fb) (hm : behindInMarks .NotIn b = false := by rfl) : DE X Ts (.Compare a [.NotIn] [b] pos) (fNotIn fa fb) := PE.imp (pe_cmpR (op_notInD (by have := hr.units; have := hr.un; omega)) ha hb hm) w_notin
theorem dt_notin {k : Nat} (hr : Room k X.A) (ha : DE X Ts a fa) (hb : DE X Ts b fb) (hm : behindInMarks .NotIn b = false := by rfl) : DT X Ts (.Compare a [.NotIn] [b] pos) (fT (fNotIn fa fb)) := dt_of (pt_cmpR (op_notInD (by have := hr.units; have := hr.un; omega)) ha hb hm) w_notin
/-! rows that are never come to -/
theorem ss_never {sts : List Stmt} : DSs X Ts sts sNever := ⟨fun _ _ _ _ _ _ ⟨_, _, _, _, _, _, hf, _⟩ => by cases hf⟩
end
/-! [x] * k -/
def gRepL : PyData → PyData → Option PyData
  | .list ds, .int k => if -1000000 ≤ k ∧ k ≤ 1000 ∧ ds.length ≤ 1000 then some (.list (List.replicate k.toNat ds).flatten) else none
  | _, _ => none
def fRepL := f2 gRepL
theorem d_repL {X : Cx} {Ts : TsT} {pos : Pos} {a b : Expr} {fa fb : En → Option PyData} (ha : DNew X Ts a fa) (hb : DE X Ts b fb) : DE X Ts (.BinOp a .Mult b pos) (fRepL fa fb) := PE.imp (pe_op op_rep ha hb) fun σ H Q ⟨He, O, en, d, rp, hf, kk⟩ => by
  obtain ⟨x, y, h1, h2, h3⟩ := f2_some hf
  cases x <;> cases y <;> simp only [gRepL] at h3 <;> try cases h3
  rename_i ds k
  split at h3
  · rename_i hk
    cases h3
    refine ⟨He, O, en, ds, rp, h1, fun c vs H1 x1 t1 na hc q1 => ?_⟩
    have nO : c ∉ O := rp.free na
    have r1 := rp.go x1 t1
    refine tD.of r1 h2 fun w H2 x2 r2 q2 => ?_
    cases q2
    have hs : Xt (hide H1 (c :: O)) (hide H1 O) := hide_sub fun b hb => List.mem_cons_of_mem _ hb
    have q3 : DpAll X.K (hide H2 O) vs ds := DpAll.mono (hs.trans (hide_mono x2)) q1
    have hl := DpAll.len q3
    refine ⟨c, k, vs, rfl, rfl, x2.get c _ hc (fun _ z => nomatch z), by omega, by omega, ?_, fun p np => kk _ _ (x1.trans (x2.trans (Xt.upd np))) (r2.tabs.new np) (lst_new np (new_out r2.occ np) (DpAll.rep q3 k.toNat))⟩
    rw [hl, sizeLine_eq]
    have : ds.length * k.toNat ≤ 1000 * 1000 := Nat.mul_le_mul hk.2.2 (by omega)
    omega
  · cases h3
end DN
set_option Elab.async false
set_option linter.all false
set_option maxRecDepth 100000
set_option maxHeartbeats 4000000
namespace DN
open PySem PySem.Spec PyProof.Rows L2
/-! ### a law's body: it draws first; what it returns is a bool -/
abbrev LF := En → (Fl → Prop) → Prop
def tL (K : PySem.W.Frag) (Ts : TsT) (ρ : Nat) (F : LF) : TS := fun D σ H => ∃ He O en Q, WRep K Ts ρ He O σ H en ∧ F en Q ∧ (∀ en' σ' H', Q (.nx en') → WRep K Ts ρ He O σ' H' en' → D.nx σ' H') ∧ (∀ b H', Q (.rt (.bool b)) → D.rt (.bl b) H')
abbrev LS (X : Cx) (Ts : TsT) (ρ : Nat) (st : Stmt) (F : LF) : Prop := PS X st (tL X.K Ts ρ F)
abbrev LSs (X : Cx) (Ts : TsT) (ρ : Nat) (st : List Stmt) (F : LF) : Prop := PSs X st (tL X.K Ts ρ F)
def lNil : LF := fun en Q => Q (.nx en)
def lSeq (F G : LF) : LF := fun en Q => F en fun r => match r with
  | .nx e => G e Q
  | r => Q r
def lSet (i : Nat) (F : WF) : LF := fun en Q => F en fun d => ∃ e1, bName i d en = some e1 ∧ Q (.nx e1)
def lPar (i j : Nat) (F G : WF) : LF := fun en Q => F en fun x => G en fun y => ∃ e1 e2, bName i x en = some e1 ∧ bName j y e1 = some e2 ∧ Q (.nx e2)
def lPar3 (i j l : Nat) (F G E : WF) : LF := fun en Q => F en fun x => G en fun y => E en fun z => ∃ e1 e2 e3, bName i x en = some e1 ∧ bName j y e1 = some e2 ∧ bName l z e2 = some e3 ∧ Q (.nx e3)
def lIf (t : En → (Bool → Prop) → Prop) (F G : LF) : LF := fun en Q => t en fun b => if b = true then F en Q else G en Q
def lRet (F : WF) : LF := fun en Q => F en fun d => ∃ b, d = .bool b ∧ Q (.rt (.bool b))
def lEnd (ρ : Nat) (G : En → Option Fl) : LF := fun en Q => ∀ rw, RowOk rw → ∃ b, G (en.set ρ (.own rw)) = some (.rt (.bool b)) ∧ Q (.rt (.bool b))
section
variable {X : Cx} {Ts : TsT} {ρ : Nat} {pos : Pos} {st : Stmt} {rest : List Stmt} {F G : LF} {e a b : Expr} {f g : WF}
theorem WRep.setD {K : PySem.W.Frag} {He : Hp} {O : List Addr} {σ : St} {H : Hp} {en e1 : En} {i : Nat} {v : V} {d : PyData} (r : WRep K Ts ρ He O σ H en) (hi : i ≠ ρ) (hb : bName i d en = some e1) (q : Dp K (hide H O) v d) : WRep K Ts ρ He O (σ.set i (some v)) H e1 := by
  obtain ⟨b1, rfl⟩ := bName_set hb
  obtain ⟨hl, rw, hr, rp⟩ := r
  refine ⟨by simpa using hl, rw, hr, ?_⟩
  rw [List.set_comm _ _ hi]
  exact rp.setD (by simpa using b1) q
theorem l_nil : LSs X Ts ρ [] lNil := PSs.imp pss_nil fun D σ H ⟨He, O, en, Q, rp, hF, k, _⟩ => k en σ H hF rp
theorem l_cons (h1 : LS X Ts ρ st F) (h2 : LSs X Ts ρ rest G) : LSs X Ts ρ (st :: rest) (lSeq F G) := PSs.imp (pss_cons h1 h2) fun D σ H ⟨He, O, en, Q, rp, hF, k, l⟩ =>
  ⟨He, O, en, _, rp, hF, fun e1 σ1 H1 hq r1 => ⟨He, O, e1, Q, r1, hq, k, l⟩, fun b H' hq => l b H' hq⟩
theorem l_one (h1 : LS X Ts ρ st F) : LSs X Ts ρ [st] F := pss_one h1
theorem l_set {i : Nat} {x : Str} {pos' : Pos} (hN : X.N.Nodup) (hi : X.N[i]? = some x) (hx : Loc X.env.scope x) (hρ : i ≠ ρ) (he : WE X Ts ρ e f) (hs : swapsWith e (some (.Name x pos')) pos.line X.env = pure false := by rfl) (hf : X.fn x = true ∨ X.env.scope.names.lookup x = some .local := by first | exact .inl rfl | exact .inr rfl | assumption) :
    LS X Ts ρ (.Assign [.Name x pos'] e pos) (lSet i f) := PS.imp (ps_set hN hi hx he hs hf) fun D σ H ⟨He, O, en, Q, rp, hF, k, _⟩ =>
  ⟨He, O, en, _, rp, hF, fun d v H' ⟨e1, h1, hq⟩ r' q x => k e1 _ H' hq (r'.setD hρ h1 q)⟩
theorem l_par {i j : Nat} {x y : Str} {px py pt : Pos} {kt k2 pt2} (hc : X.calm = true) (hN : X.N.Nodup) (hi : X.N[i]? = some x) (hj : X.N[j]? = some y) (hij : i ≠ j) (hiρ : i ≠ ρ) (hjρ : j ≠ ρ)
    (hx : X.env.scope.names.lookup x = some .local) (hy : X.env.scope.names.lookup y = some .local) (ha : WE X Ts ρ a f) (hb : WE X Ts ρ b g) (hw : swappedStores [.Tuple [.Name x px, .Name y py] kt pt] (.Tuple [a, b] k2 pt2) X.env = pure (some [x, y]))
    (hs1 : starEach [a, b] X.env = (false, eval a X.env) :: starEach [b] X.env := by rfl) (hs2 : starEach [b] X.env = (false, eval b X.env) :: starEach [] X.env := by rfl)
    (hs : swapsWithSole [.Tuple [.Name x px, .Name y py] kt pt] (.Tuple [a, b] k2 pt2) pos.line X.env = pure false := by rfl) : LS X Ts ρ (.Assign [.Tuple [.Name x px, .Name y py] kt pt] (.Tuple [a, b] k2 pt2) pos) (lPar i j f g) :=
  PS.imp (ps_par hc hN hi hj hij hx hy (pa_cons ha (pa_cons hb pa_nil hs2) hs1) hw hs) fun D σ H ⟨He, O, en, Q, rp, hF, k, _⟩ =>
    ⟨He, O, en, _, rp, hF, fun d v H1 h1 r1 q1 x1 => ⟨He, O, en, _, r1, h1, fun d2 w H2 ⟨e1, e2, b1, b2, hq⟩ r2 q2 x2 => ⟨v, w, rfl, k e2 _ H2 hq ((r2.setD hiρ b1 (Dp.mono x2.1 q1)).setD hjρ b2 q2)⟩⟩⟩
theorem l_par3 {i j l : Nat} {x y z : Str} {c : Expr} {h : WF} {px py pz pt : Pos} {kt k2 pt2} (hc : X.calm = true) (hN : X.N.Nodup) (hi : X.N[i]? = some x) (hj : X.N[j]? = some y) (hl : X.N[l]? = some z) (hij : i ≠ j) (hil : i ≠ l) (hjl : j ≠ l) (hiρ : i ≠ ρ) (hjρ : j ≠ ρ) (hlρ : l ≠ ρ)
    (hx : X.env.scope.names.lookup x = some .local) (hy : X.env.scope.names.lookup y = some .local) (hz : X.env.scope.names.lookup z = some .local) (ha : WE X Ts ρ a f) (hb : WE X Ts ρ b g) (hcc : WE X Ts ρ c h) (hw : swappedStores [.Tuple [.Name x px, .Name y py, .Name z pz] kt pt] (.Tuple [a, b, c] k2 pt2) X.env = pure (some [x, y, z]))
    (hs1 : starEach [a, b, c] X.env = (false, eval a X.env) :: starEach [b, c] X.env := by rfl) (hs2 : starEach [b, c] X.env = (false, eval b X.env) :: starEach [c] X.env := by rfl) (hs3 : starEach [c] X.env = (false, eval c X.env) :: starEach [] X.env := by rfl)
    (hs : swapsWithSole [.Tuple [.Name x px, .Name y py, .Name z pz] kt pt] (.Tuple [a, b, c] k2 pt2) pos.line X.env = pure false := by rfl) : LS X Ts ρ (.Assign [.Tuple [.Name x px, .Name y py, .Name z pz] kt pt] (.Tuple [a, b, c] k2 pt2) pos) (lPar3 i j l f g h) :=
  PS.imp (ps_par3 hc hN hi hj hl hij hil hjl hx hy hz (pa_cons ha (pa_cons hb (pa_cons hcc pa_nil hs3) hs2) hs1) hw hs) fun D σ H ⟨He, O, en, Q, rp, hF, k, _⟩ =>
    ⟨He, O, en, _, rp, hF, fun d v H1 h1 r1 q1 x1 => ⟨He, O, en, _, r1, h1, fun d2 w H2 h2 r2 q2 x2 => ⟨He, O, en, _, r2, h2, fun d3 u H3 ⟨e1, e2, e3, b1, b2, b3, hq⟩ r3 q3 x3 => ⟨v, w, u, rfl, k e3 _ H3 hq (((r3.setD hiρ b1 (Dp.mono (x2.trans x3).1 q1)).setD hjρ b2 (Dp.mono x3.1 q2)).setD hlρ b3 q3)⟩⟩⟩⟩
/-- names = values, where a name is a cell -/
def lBind (b : PyData → En → Option En) (F : WF) : LF := fun en Q => F en fun d => ∃ e1, b d en = some e1 ∧ Q (.nx e1)
theorem l_bind {tg : Expr} {vs : List Nat} {b : PyData → En → Option En} (he : WE X Ts ρ e f) (hg : DG X Ts tg vs b) (hb : BOk ρ b) (hs : swapsWithSole [tg] e pos.line X.env = pure false := by rfl) (hw : swappedStores [tg] e X.env = pure none := by rfl)
    (h1 : (assignEach [tg] X.env).map (·.2) = [assign tg X.env] := by rfl) : LS X Ts ρ (.Assign [tg] e pos) (lBind b f) := PS.imp (ps_asg he (wg_of hg hb) hs hw h1) fun D σ H ⟨He, O, en, Q, rp, hF, k, _⟩ =>
  ⟨He, O, en, _, rp, hF, fun d v H1 ⟨e1, h1, hq⟩ r1 q1 x1 => ⟨He, O, en, d, e1, r1, q1, h1, fun σ' r' _ => k e1 σ' H1 hq r'⟩⟩
theorem l_if {c : Expr} {a b : List Stmt} {t : En → (Bool → Prop) → Prop} (hc : WT X Ts ρ c t) (ha : LSs X Ts ρ a F) (hb : LSs X Ts ρ b G) : LS X Ts ρ (.If c a b pos) (lIf t F G) := PS.imp (ps_if hc ha hb) fun D σ H ⟨He, O, en, Q, rp, hF, k, l⟩ =>
  ⟨He, O, en, _, rp, hF, fun b H' hq r' x => by
    cases b with
    | true => exact iteT ⟨He, O, en, Q, r', hq, k, l⟩
    | false => exact iteF ⟨He, O, en, Q, r', hq, k, l⟩⟩
theorem l_ret (he : WE X Ts ρ e f) : LS X Ts ρ (.Return (some e) pos) (lRet f) := PS.imp (ps_ret he) fun D σ H ⟨He, O, en, Q, rp, hF, k, l⟩ =>
  ⟨He, O, en, _, rp, hF, fun d v H' ⟨b, hb, hq⟩ r' q x => by subst hb; cases q; exact l b H' hq⟩
/-- from here on nothing is drawn -/
theorem l_end {G : En → Option Fl} (h : DSs X Ts rest G) : LSs X Ts ρ rest (lEnd ρ G) := PSs.imp h fun D σ H ⟨He, O, en, Q, ⟨hl, rw, hr, rp⟩, hF, k, l⟩ => by
  obtain ⟨b, h1, h2⟩ := hF rw hr
  exact ⟨He, [], fun _ => none, _, _, ⟨O, fun _ z => (nomatch z), fun _ z => (nomatch z), rp, fun _ _ z => (nomatch z)⟩, h1, fun v H' _ _ q => by cases q; exact l b H' h2⟩
end
section
variable {P : Program} {w : World} {K : PySem.W.Frag} {mg : Str → Option Value} {base : Heap} {Ts : TsT}
def spLaw (K : PySem.W.Frag) (Ts : TsT) : Sp := fun vs H Q _ => ∃ (a : Addr) (ns : List Int), vs = [.ref a] ∧ SqL K H a (ns.map V.int) ∧ ns.length ≤ 63 ∧ Tb Ts H ∧ ∀ H', Q (.bl true) H'
def lawEn (n : Nat) (ns : List Int) : En := Slot.dat (.list (ns.map .int)) :: List.replicate (n - 1) Slot.no
theorem DF.okL {x qual : Str} {st st1 : Stmt} {rest : List Stmt} {f : Addr} {fd : FuncData} {cdv : Value} {N : List Str} {sc : Str} {k ρ : Nat} {f1 : En → Option PyData} {F : LF} (D : DF K x qual st f fd cdv) (S : FnScope N [sc] (defScope st)) (hN : 1 ≤ N.length) (hb : defBody st = st1 :: rest) (hρ : ρ < N.length)
    (h1 : ∀ (A : Around) (outer : List Env) (s : Shared) (H : Hp) (E : XK), Room k (A.deeper (envOfC qual (defScope st) s.heap.objs.size f cdv)) → DS (cxOf CX0 P w K mg base N qual (defScope st) f cdv A outer s H E).nox Ts st1 (sOwn ρ f1))
    (h2 : ∀ (A : Around) (outer : List Env) (s : Shared) (H : Hp) (E : XK), Room k (A.deeper (envOfC qual (defScope st) s.heap.objs.size f cdv)) → LSs (cxOf CX0 P w K mg base N qual (defScope st) f cdv A outer s H E).nox Ts ρ rest F)
    (hF : ∀ ns : List Int, ns.length ≤ 63 → ∃ rw, RowOk rw ∧ f1 (lawEn N.length ns) = some (.list rw) ∧ ∀ en', (∃ rw', en' = (lawEn N.length ns).set ρ (.own rw')) → F en' fun r => r = .rt (.bool true)) :
    FnOk P w K mg base CX0 (k + 1) f fd [sc] (spLaw K Ts) := by
  obtain ⟨oc, od, dV, kV, doc, pm, an, ct, osl, rfl, lk, hcd⟩ := D.ex
  refine fn_of lk hcd S (fun vs H Q E ⟨a, ns, h, _⟩ => by rw [h]; rfl) fun A outer s H vs Q E hr hsp => ?_
  rw [hb]
  refine ⟨_, (pss_cons (h1 A outer s H E hr) (h2 A outer s H E hr)).nox, ?_⟩
  obtain ⟨a, ns, rfl, hS, hns, ht, kk⟩ := hsp
  obtain ⟨rw, hrw, hf1, hFF⟩ := hF ns hns
  have hlen : (lawEn N.length ns).length = N.length := by simp [lawEn]; omega
  have rp : Rep K Ts H [] (L2.start N [.ref a]) H (lawEn N.length ns) := by
    have noX : ∀ {i : Nat} {x : Slot}, (lawEn N.length ns)[i + 1]? = some x → x = Slot.no := fun {i x} h => by
      unfold lawEn at h
      rw [List.getElem?_cons_succ, List.getElem?_replicate] at h
      split at h <;> cases h
      rfl
    refine ⟨by rw [hlen]; simp [L2.start]; omega, fun i d h => ?_, fun i es h => ?_, fun i j es es' a h => ?_, fun _ z => (nomatch z), Xt.refl H, ht⟩
    · cases i with
      | zero =>
        cases h
        exact ⟨.ref a, start_get rfl, .lst (sqL_mono (fun o n e => hide_of (fun z => nomatch z) e) hS) (DpAll.of_ints ns)⟩
      | succ i => exact absurd (noX h) (fun z => nomatch z)
    · cases i with
      | zero => cases h
      | succ i => exact absurd (noX h) (fun z => nomatch z)
    · cases i with
      | zero => cases h
      | succ i => exact absurd (noX h) (fun z => nomatch z)
  refine ⟨H, [], fun _ => none, lawEn N.length ns, .nx ((lawEn N.length ns).set ρ (.own rw)), ⟨[], fun _ z => (nomatch z), fun _ z => (nomatch z), rp, fun _ _ z => (nomatch z)⟩, ?_, fun σ' H' r' => ?_⟩
  · unfold sOwn
    rw [hf1]
    show (if ρ < (lawEn N.length ns).length then _ else _) = _
    rw [if_pos (by rw [hlen]; exact hρ)]
  · obtain ⟨O, a1, a2, rp', _⟩ := r'
    refine ⟨H, O, (lawEn N.length ns).set ρ (.own rw), _, ⟨by rw [List.length_set, hlen]; exact hρ, rw, hrw, by rw [List.set_set]; exact rp'⟩, hFF _ ⟨rw, rfl⟩, fun en' σ2 H2 hq => ?_, fun b H2 hq => ?_⟩
    · cases hq
    · cases hq
      exact kk H2
end
end DN
set_option Elab.async false
set_option linter.all false
set_option maxRecDepth 100000
set_option maxHeartbeats 4000000
namespace DN
open PySem PySem.Spec PyProof.Rows L2
/-! ### zip of three, each a list (true) or a tuple (false) -/
def SqB (K : PySem.W.Frag) (b : Bool) (H : Hp) (a : Addr) (xs : List V) : Prop := match b with | true => SqL K H a xs | false => SqT K H a xs
def ItB (b : Bool) (h : Heap) (i a : Addr) (k : Nat) : Prop := match b with | true => h.IsListIter i a k | false => h.IsTupleIter i a k
def IsB (b : Bool) (h : Heap) (a : Addr) (its : Array Value) : Prop := match b with | true => h.IsList a its | false => h.IsTuple a its
def obB (b : Bool) (a : Addr) : Obj := match b with | true => { cls := .type "list_iterator", data := .fields #[.ref a, .int 0 0] } | false => { cls := .type "tuple_iterator", data := .fields #[.ref a, .int 0 0] }
theorem ItB.at {b : Bool} {h h' : Heap} {i a : Addr} {k : Nat} (x : ItB b h i a k) (hk : ∀ o, h.get? i = some o → h'.get? i = some o) : ItB b h' i a k := by
  cases b with
  | true => exact Heap.IsListIter.at (h := h) x hk
  | false => exact Heap.IsTupleIter.at (h := h) x hk
theorem ItB.obj {b : Bool} {h : Heap} {i a : Addr} {k : Nat} (x : ItB b h i a k) : ∃ o, h.get? i = some o ∧ ∀ v, o.data ≠ .cell v := by
  cases b with
  | true => obtain ⟨o, e, _, d⟩ := x; exact ⟨o, e, fun v q => by rw [d] at q; cases q⟩
  | false => obtain ⟨o, e, _, d⟩ := x; exact ⟨o, e, fun v q => by rw [d] at q; cases q⟩
theorem drB {prog : Program} {w : World} {A : Around} (hh : A.handled = none) (b : Bool) (it a : Addr) (hne : a ≠ it) (items : Array Value) :
    Draws prog w A it [it, a] items.size (fun i v => items[i]? = some v) (fun i h => ItB b h it a i ∧ IsB b h a items) := by
  cases b with
  | true => exact Draws.list hh it a hne items
  | false => exact Draws.tuple hh it a hne items
theorem SqB.inv {X : Cx} {pins : List (Addr × Obj)} {σ : L2.St} {H : Hp} {s : Shared} (I : Inv X pins σ H s) {b : Bool} {a : Addr} {xs : List V} (q : SqB X.K b H a xs) : ∃ its, Vals xs its ∧ IsB b s.heap a its.toArray ∧ a < s.heap.objs.size := by
  cases b with
  | true =>
    obtain ⟨its, rv, p, _⟩ := I.list q
    exact ⟨its, rv, p.isList, p.lt⟩
  | false =>
    obtain ⟨its, rv, p, _⟩ := I.tuple q
    obtain ⟨o, ho, _⟩ := id p
    exact ⟨its, rv, p, Heap.lt_size ho⟩
theorem SqB.inj {X : Cx} {pins : List (Addr × Obj)} {σ : L2.St} {H : Hp} {s : Shared} (I : Inv X pins σ H s) {b : Bool} {a : Addr} {xs ys : List V} (q : SqB X.K b H a xs) (r : SqB X.K b H a ys) : xs = ys := by
  cases b with
  | true => exact I.list_inj q r
  | false => exact I.tuple_inj q r
theorem SqB.mono {K : PySem.W.Frag} {b : Bool} {H H' : Hp} {a : Addr} {xs : List V} (h : ∀ o, (∀ ps, o ≠ .tbl ps) → H a = some o → H' a = some o) (q : SqB K b H a xs) : SqB K b H' a xs := by
  cases b with
  | true => exact sqL_mono (fun o n e => h o n e) q
  | false => exact sqT_mono (fun o n e => h o n e) q
theorem begB (b : Bool) (a : Addr) (items : Array Value) : Begins (.ref a) (obB b a) fun h => IsB b h a items := by
  cases b with
  | true => exact begins_list a items
  | false => exact begins_tuple a items
theorem ItB.start {b : Bool} {h : Heap} {i a : Addr} (e : h.get? i = some (obB b a)) : ItB b h i a 0 := by
  cases b with
  | true => exact ⟨_, e, rfl, rfl⟩
  | false => exact ⟨_, e, rfl, rfl⟩
def Itz3 (K : PySem.W.Frag) (b1 b2 b3 : Bool) (a1 a2 a3 : Addr) : It :=
  ⟨fun i H => ∃ (xs ys zs : List V) (x y z : V), SqB K b1 H a1 xs ∧ SqB K b2 H a2 ys ∧ SqB K b3 H a3 zs ∧ xs[i]? = some x ∧ ys[i]? = some y ∧ zs[i]? = some z,
    fun i H v H' => ∃ T x y z, v = .ref T ∧ H T = none ∧ H' = upd H T (.tup [x, y, z]) ∧ (∀ xs, SqB K b1 H a1 xs → xs[i]? = some x) ∧ (∀ ys, SqB K b2 H a2 ys → ys[i]? = some y) ∧ ∀ zs, SqB K b3 H a3 zs → zs[i]? = some z,
    fun i H => ∃ xs ys zs : List V, SqB K b1 H a1 xs ∧ SqB K b2 H a2 ys ∧ SqB K b3 H a3 zs ∧ i ≤ xs.length ∧ i ≤ ys.length ∧ i ≤ zs.length ∧ (i = xs.length ∨ i = ys.length ∨ i = zs.length)⟩
theorem turn_zip3 {P : Program} {w : World} {K : PySem.W.Frag} {elts : List Expr} {kk : Nat} {tpos : Pos} {b1 b2 b3 : Bool} {a1 a2 a3 z TI TO i1 i2 i3 : Addr} (S : ZipSep3 z TI TO i1 i2 i3 [i1, a1] [i2, a2] [i3, a3]) (n1 : a1 ≠ i1) (n2 : a2 ≠ i2) (n3 : a3 ≠ i3) :
    Turn P w K (.Tuple elts kk tpos) (Itz3 K b1 b2 b3 a1 a2 a3) [z, TI, TO, i1, i2, i3] z (fun i h => IsZip h z TI TO .none ∧ IsTupOf3 h TI (.ref i1) (.ref i2) (.ref i3) ∧ (∃ x y u, IsTupOf3 h TO x y u) ∧ ItB b1 h i1 a1 i ∧ ItB b2 h i2 a2 i ∧ ItB b3 h i3 a3 i) where
  mem := by simp
  obj := fun i h st c hc => by
    obtain ⟨hz, hTI, ⟨x, y, u, hTO⟩, e1, e2, e3⟩ := st
    have e' : c = z ∨ c = TI ∨ c = TO ∨ c = i1 ∨ c = i2 ∨ c = i3 := by simpa using hc
    rcases e' with q | q | q | q | q | q
    · rw [q]; exact ⟨_, hz, fun v q => nomatch q⟩
    · rw [q]; exact ⟨_, hTI, fun v q => nomatch q⟩
    · rw [q]; exact ⟨_, hTO, fun v q => nomatch q⟩
    · rw [q]; exact e1.obj
    · rw [q]; exact e2.obj
    · rw [q]; exact e3.obj
  keep := fun i h h' st k => by
    obtain ⟨hz, hTI, ⟨x, y, u, hTO⟩, h1, h2, h3⟩ := st
    exact ⟨k z (by simp) _ hz, k TI (by simp) _ hTI, ⟨x, y, u, k TO (by simp) _ hTO⟩, h1.at fun o q => k i1 (by simp) o q, h2.at fun o q => k i2 (by simp) o q, h3.at fun o q => k i3 (by simp) o q⟩
  item := by
    intro X hP hw hK hc i pins s σ H E I hf st hg
    subst hP hw hK
    obtain ⟨hz, hTI, ⟨x0, y0, u0, hTO⟩, h1, h2, h3⟩ := st
    obtain ⟨xs, ys, zs, x, y, v, hqx, hqy, hqz, hx, hy, hv⟩ := hg
    obtain ⟨its, rv, p, _⟩ := hqx.inv I
    obtain ⟨its2, rv2, p2, _⟩ := hqy.inv I
    obtain ⟨its3, rv3, p3, _⟩ := hqz.inv I
    obtain ⟨u, hu, ru⟩ := rv.get hx
    obtain ⟨u2, hu2, ru2⟩ := rv2.get hy
    obtain ⟨u3, hu3, ru3⟩ := rv3.get hv
    have hzl : z < s.heap.objs.size := Heap.lt_size hz
    have hh : X.A.in1.handled = none := I.ok.hd hc
    have D1 := drB (prog := X.prog) (w := X.w) hh b1 i1 a1 n1 its.toArray
    have D2 := drB (prog := X.prog) (w := X.w) hh b2 i2 a2 n2 its2.toArray
    have D3 := drB (prog := X.prog) (w := X.w) hh b3 i3 a3 n3 its3.toArray
    have l1 : i < its.length := (List.getElem?_eq_some_iff.mp hu).1
    have l2 : i < its2.length := (List.getElem?_eq_some_iff.mp hu2).1
    have l3 : i < its3.length := (List.getElem?_eq_some_iff.mp hu3).1
    refine wpAny_pyNext_zipD3_item S D1 D2 D3 hz hTI hTO ⟨h1, p⟩ ⟨h2, p2⟩ ⟨h3, p3⟩ (by simpa using l1) (by simpa using l2) (by simpa using l3) fun x1 x2 x3 h' tk y1 y2 y3 z' TO' d1 d2 d3 hT hsz hk => ?_
    have y1 : its[i]? = some x1 := by simpa using y1
    have y2 : its2[i]? = some x2 := by simpa using y2
    have y3 : its3[i]? = some x3 := by simpa using y3
    rw [hu] at y1; cases y1
    rw [hu2] at y2; cases y2
    rw [hu3] at y3; cases y3
    refine ⟨_, rfl, wpAny_letOwnedTupleGo_zip (s := { s with heap := h', toks := tk }) z' fun h'' z'' sb => ?_⟩
    have hT2 : h''.get? s.heap.objs.size = some { cls := .type "tuple", data := .seq #[u, u2, u3] } := (sb.2 _ (Nat.ne_of_gt hzl)).trans hT
    have new : ObjOk X.prog X.w (upd H s.heap.objs.size (.tup [x, y, v])) h'' s.heap.objs.size (.tup [x, y, v]) :=
      ⟨by show 3 ≤ sizeLine; decide, [u, u2, u3], .cons ru (.cons ru2 (.cons ru3 .nil)), ⟨_, hT2, rfl, _, rfl⟩⟩
    have I1 : Inv X pins σ (upd H s.heap.objs.size (.tup [x, y, v])) { s with heap := h'', toks := tk } :=
      I.turnedNew (t' := tk) (ch := [z, TI, TO, i1, i2, i3]) (fun c o hb q => (sb.2 c (fun q' => hb (by simp [q']))).trans (hk c o (fun q' => hb (by simp [q'])) (fun q' => hb (by simp [q'])) (fun q' => hb (by simp [q'])) (fun q' => hb (by simp [q'])) (fun q' => hb (by simp [q'])) q)) hf (Nat.le_refl _) new
    have f1 : ∀ {b : Bool} {ia aa : Addr} {k : Nat}, ia ≠ z → ItB b h' ia aa k → ItB b h'' ia aa k := fun hne q => q.at fun o e => (sb.2 _ hne).trans e
    refine ⟨.ref s.heap.objs.size, _, I1, rfl, ⟨_, x, y, v, rfl, I.hok.fresh (Nat.le_refl _), rfl, fun l hl => by rw [hl.inj I hqx]; exact hx, fun l hl => by rw [hl.inj I hqy]; exact hy, fun l hl => by rw [hl.inj I hqz]; exact hv⟩, ⟨z'', ?_, ⟨u, u2, u3, ?_⟩, f1 S.zi1.symm d1.1, f1 S.zi2.symm d2.1, f1 S.zi3.symm d3.1⟩, fun c hcm => ?_⟩
    · exact (sb.2 _ S.TIz).trans (hk _ _ S.TIz S.TITO S.TIi1 S.TIi2 S.TIi3 hTI)
    · exact (sb.2 _ S.TOz).trans TO'
    · have hlt : c < s.heap.objs.size := by
        have e' : c = z ∨ c = TI ∨ c = TO ∨ c = i1 ∨ c = i2 ∨ c = i3 := by simpa using hcm
        rcases e' with q | q | q | q | q | q
        · rw [q]; exact hzl
        · rw [q]; exact Heap.lt_size hTI
        · rw [q]; exact Heap.lt_size hTO
        · rw [q]; obtain ⟨_, e1, _⟩ := h1.obj; exact Heap.lt_size e1
        · rw [q]; obtain ⟨_, e2, _⟩ := h2.obj; exact Heap.lt_size e2
        · rw [q]; obtain ⟨_, e3, _⟩ := h3.obj; exact Heap.lt_size e3
      rw [upd_ne (Nat.ne_of_lt hlt)]
      exact (hf c hcm).1
  done := by
    intro X hP hw hK hc i pins s σ H E I hf st hg
    subst hP hw hK
    obtain ⟨hz, hTI, ⟨x0, y0, u0, hTO⟩, h1, h2, h3⟩ := st
    obtain ⟨xs, ys, zs, hqx, hqy, hqz, k1, k2, k3, hend⟩ := hg
    obtain ⟨its, rv, p, _⟩ := hqx.inv I
    obtain ⟨its2, rv2, p2, _⟩ := hqy.inv I
    obtain ⟨its3, rv3, p3, _⟩ := hqz.inv I
    have l1 := rv.length
    have l2 := rv2.length
    have l3 := rv3.length
    have hh : X.A.in1.handled = none := I.ok.hd hc
    have D1 := drB (prog := X.prog) (w := X.w) hh b1 i1 a1 n1 its.toArray
    have D2 := drB (prog := X.prog) (w := X.w) hh b2 i2 a2 n2 its2.toArray
    have D3 := drB (prog := X.prog) (w := X.w) hh b3 i3 a3 n3 its3.toArray
    exact wpAny_pyNext_zipD3_end S D1 D2 D3 hz hTI hTO ⟨h1, p⟩ ⟨h2, p2⟩ ⟨h3, p3⟩ (by simp; omega) (by simp; omega) (by simp; omega) (by simp; omega) fun h' tk hk => ⟨rfl, I.turnedL (t' := tk) (ch := [z, TI, TO, i1, i2, i3]) (fun c o hb q =>
      hk c o (fun q' => hb (by simp [q'])) (fun q' => hb (by simp [q'])) (fun q' => hb (by simp [q'])) (fun q' => hb (by simp [q'])) (fun q' => hb (by simp [q'])) q) hf⟩
  self := fun A i s Q E st h => wpAny_pyIter_zip st.1 h
def iZip3A (K : PySem.W.Frag) (ta : TA) : TI := fun σ H R => ta σ H fun vs H1 => ∃ b1 b2 b3 a1 a2 a3 xs ys zs, vs = [.ref a1, .ref a2, .ref a3] ∧ SqB K b1 H1 a1 xs ∧ SqB K b2 H1 a2 ys ∧ SqB K b3 H1 a3 zs ∧ R (Itz3 K b1 b2 b3 a1 a2 a3) H1
theorem pi_zip3A {X : Cx} {e e2 e3 : Expr} {ta : TA} {p pos tpos : Pos} {elts : List Expr} {kk : Nat} (hg : Gl X "zip") (hm : X.mg "zip" = none) (ha : PA X [e, e2, e3] ta)
    (hs : starEach [e, e2, e3] X.env = (false, eval e X.env) :: starEach [e2, e3] X.env := by rfl) (hpl : (backTo pos (starEach [e2, e3] X.env)).any (·.1) = false := by rfl) :
    PI X (.Tuple elts kk tpos) (.Call (.Name "zip" p) [e, e2, e3] [] pos) (iZip3A X.K ta) := by
  refine ⟨fun pins s σ H R I h => ?_⟩
  refine Call_ (ld_blt I hg hm PyProof.Rows.boot_zip (PyProof.Rows.callWith_type1 (thn (ha.run pos pins s σ H _ I h) fun us s1 ⟨vs, H1, I1, r1, q1⟩ => ?_) hs hpl))
  obtain ⟨b1, b2, b3, a1, a2, a3, xs, ys, zs, ex, q1, q2, q3, qR⟩ := q1
  subst ex
  cases r1 with
  | cons r rr =>
    cases rr with
    | cons r' rr =>
      cases rr with
      | cons r'' rr =>
        cases rr
        cases r
        cases r'
        cases r''
        obtain ⟨its, rv, p1, k1⟩ := q1.inv I1
        obtain ⟨its2, rv2, p2, k2⟩ := q2.inv I1
        obtain ⟨its3, rv3, p3, k3⟩ := q3.inv I1
        refine zip_begins3 (begB b1 a1 its.toArray) (begB b2 a2 its2.toArray) (begB b3 a3 its3.toArray) p1 p2 p3 fun h' hz hTI hTO g1 g2 g3 hsz hk => wpAny_pyIter_zip hz ?_
        have I2 : Inv X pins σ H1 { s1 with heap := h' } := I1.kept (t' := s1.toks) hk
        refine ⟨s1.heap.objs.size + 5, [s1.heap.objs.size + 5, s1.heap.objs.size + 3, s1.heap.objs.size + 4, s1.heap.objs.size, s1.heap.objs.size + 1, s1.heap.objs.size + 2], _, _, H1, rfl, I2, turn_zip3 (b1 := b1) (b2 := b2) (b3 := b3) (a1 := a1) (a2 := a2) (a3 := a3) (zip_sep3 (fun b hb => by rw [List.mem_singleton.mp hb]; exact k1) (fun b hb => by rw [List.mem_singleton.mp hb]; exact k2) (fun b hb => by rw [List.mem_singleton.mp hb]; exact k3)) (Nat.ne_of_lt k1) (Nat.ne_of_lt (Nat.lt_succ_of_lt k2)) (Nat.ne_of_lt (Nat.lt_succ_of_lt (Nat.lt_succ_of_lt k3))), ⟨hz, hTI, ⟨_, _, _, hTO⟩, .start g1, .start g2, .start g3⟩, fun c hcm => ?_, qR⟩
        have e' : c = s1.heap.objs.size + 5 ∨ c = s1.heap.objs.size + 3 ∨ c = s1.heap.objs.size + 4 ∨ c = s1.heap.objs.size ∨ c = s1.heap.objs.size + 1 ∨ c = s1.heap.objs.size + 2 := by simpa using hcm
        have hle : s1.heap.objs.size ≤ c := by
          rcases e' with z | z | z | z | z | z
          · rw [z]; exact Nat.le_add_right _ _
          · rw [z]; exact Nat.le_add_right _ _
          · rw [z]; exact Nat.le_add_right _ _
          · rw [z]; exact Nat.le_refl _
          · rw [z]; exact Nat.le_add_right _ _
          · rw [z]; exact Nat.le_add_right _ _
        exact I1.fpOk hle (I1.hok.fresh hle)

/-! zip of two, each a list or a tuple -/
def Itz2 (K : PySem.W.Frag) (b1 b2 : Bool) (a1 a2 : Addr) : It :=
  ⟨fun i H => ∃ (xs ys : List V) (x y : V), SqB K b1 H a1 xs ∧ SqB K b2 H a2 ys ∧ xs[i]? = some x ∧ ys[i]? = some y,
    fun i H v H' => ∃ T x y, v = .ref T ∧ H T = none ∧ H' = upd H T (.tup [x, y]) ∧ (∀ xs, SqB K b1 H a1 xs → xs[i]? = some x) ∧ (∀ ys, SqB K b2 H a2 ys → ys[i]? = some y),
    fun i H => ∃ xs ys : List V, SqB K b1 H a1 xs ∧ SqB K b2 H a2 ys ∧ i ≤ xs.length ∧ i ≤ ys.length ∧ (i = xs.length ∨ i = ys.length)⟩
theorem turn_zip2 {P : Program} {w : World} {K : PySem.W.Frag} {elts : List Expr} {kk : Nat} {tpos : Pos} {b1 b2 : Bool} {a1 a2 z TI TO i1 i2 : Addr} (S : ZipSep2 z TI TO i1 i2 [i1, a1] [i2, a2]) (n1 : a1 ≠ i1) (n2 : a2 ≠ i2) :
    Turn P w K (.Tuple elts kk tpos) (Itz2 K b1 b2 a1 a2) [z, TI, TO, i1, i2] z (fun i h => IsZip h z TI TO .none ∧ IsTupOf2 h TI (.ref i1) (.ref i2) ∧ (∃ x y, IsTupOf2 h TO x y) ∧ ItB b1 h i1 a1 i ∧ ItB b2 h i2 a2 i) where
  mem := by simp
  obj := fun i h st c hc => by
    obtain ⟨hz, hTI, ⟨x, y, hTO⟩, e1, e2⟩ := st
    have e' : c = z ∨ c = TI ∨ c = TO ∨ c = i1 ∨ c = i2 := by simpa using hc
    rcases e' with q | q | q | q | q
    · rw [q]; exact ⟨_, hz, fun v q => nomatch q⟩
    · rw [q]; exact ⟨_, hTI, fun v q => nomatch q⟩
    · rw [q]; exact ⟨_, hTO, fun v q => nomatch q⟩
    · rw [q]; exact e1.obj
    · rw [q]; exact e2.obj
  keep := fun i h h' st k => by
    obtain ⟨hz, hTI, ⟨x, y, hTO⟩, h1, h2⟩ := st
    exact ⟨k z (by simp) _ hz, k TI (by simp) _ hTI, ⟨x, y, k TO (by simp) _ hTO⟩, h1.at fun o q => k i1 (by simp) o q, h2.at fun o q => k i2 (by simp) o q⟩
  item := by
    intro X hP hw hK hc i pins s σ H E I hf st hg
    subst hP hw hK
    obtain ⟨hz, hTI, ⟨x0, y0, hTO⟩, h1, h2⟩ := st
    obtain ⟨xs, ys, x, y, hqx, hqy, hx, hy⟩ := hg
    obtain ⟨its, rv, p, _⟩ := hqx.inv I
    obtain ⟨its2, rv2, p2, _⟩ := hqy.inv I
    obtain ⟨u, hu, ru⟩ := rv.get hx
    obtain ⟨u2, hu2, ru2⟩ := rv2.get hy
    have hzl : z < s.heap.objs.size := Heap.lt_size hz
    have hh : X.A.in1.handled = none := I.ok.hd hc
    have D1 := drB (prog := X.prog) (w := X.w) hh b1 i1 a1 n1 its.toArray
    have D2 := drB (prog := X.prog) (w := X.w) hh b2 i2 a2 n2 its2.toArray
    have l1 : i < its.length := (List.getElem?_eq_some_iff.mp hu).1
    have l2 : i < its2.length := (List.getElem?_eq_some_iff.mp hu2).1
    refine wpAny_pyNext_zipD2_item S D1 D2 hz hTI hTO ⟨h1, p⟩ ⟨h2, p2⟩ (by simpa using l1) (by simpa using l2) fun x1 x2 h' tk y1 y2 z' TO' d1 d2 hT hsz hk => ?_
    have y1 : its[i]? = some x1 := by simpa using y1
    have y2 : its2[i]? = some x2 := by simpa using y2
    rw [hu] at y1; cases y1
    rw [hu2] at y2; cases y2
    refine ⟨_, rfl, wpAny_letOwnedTupleGo_zip (s := { s with heap := h', toks := tk }) z' fun h'' z'' sb => ?_⟩
    have hT2 : h''.get? s.heap.objs.size = some { cls := .type "tuple", data := .seq #[u, u2] } := (sb.2 _ (Nat.ne_of_gt hzl)).trans hT
    have new : ObjOk X.prog X.w (upd H s.heap.objs.size (.tup [x, y])) h'' s.heap.objs.size (.tup [x, y]) :=
      ⟨by show 2 ≤ sizeLine; decide, [u, u2], .cons ru (.cons ru2 .nil), ⟨_, hT2, rfl, _, rfl⟩⟩
    have I1 : Inv X pins σ (upd H s.heap.objs.size (.tup [x, y])) { s with heap := h'', toks := tk } :=
      I.turnedNew (t' := tk) (ch := [z, TI, TO, i1, i2]) (fun c o hb q => (sb.2 c (fun q' => hb (by simp [q']))).trans (hk c o (fun q' => hb (by simp [q'])) (fun q' => hb (by simp [q'])) (fun q' => hb (by simp [q'])) (fun q' => hb (by simp [q'])) q)) hf (Nat.le_refl _) new
    have f1 : ∀ {b : Bool} {ia aa : Addr} {k : Nat}, ia ≠ z → ItB b h' ia aa k → ItB b h'' ia aa k := fun hne q => q.at fun o e => (sb.2 _ hne).trans e
    refine ⟨.ref s.heap.objs.size, _, I1, rfl, ⟨_, x, y, rfl, I.hok.fresh (Nat.le_refl _), rfl, fun l hl => by rw [hl.inj I hqx]; exact hx, fun l hl => by rw [hl.inj I hqy]; exact hy⟩, ⟨z'', ?_, ⟨u, u2, ?_⟩, f1 S.zi1.symm d1.1, f1 S.zi2.symm d2.1⟩, fun c hcm => ?_⟩
    · exact (sb.2 _ S.TIz).trans (hk _ _ S.TIz S.TITO S.TIi1 S.TIi2 hTI)
    · exact (sb.2 _ S.TOz).trans TO'
    · have hlt : c < s.heap.objs.size := by
        have e' : c = z ∨ c = TI ∨ c = TO ∨ c = i1 ∨ c = i2 := by simpa using hcm
        rcases e' with q | q | q | q | q
        · rw [q]; exact hzl
        · rw [q]; exact Heap.lt_size hTI
        · rw [q]; exact Heap.lt_size hTO
        · rw [q]; obtain ⟨_, e1, _⟩ := h1.obj; exact Heap.lt_size e1
        · rw [q]; obtain ⟨_, e2, _⟩ := h2.obj; exact Heap.lt_size e2
      rw [upd_ne (Nat.ne_of_lt hlt)]
      exact (hf c hcm).1
  done := by
    intro X hP hw hK hc i pins s σ H E I hf st hg
    subst hP hw hK
    obtain ⟨hz, hTI, ⟨x0, y0, hTO⟩, h1, h2⟩ := st
    obtain ⟨xs, ys, hqx, hqy, k1, k2, hend⟩ := hg
    obtain ⟨its, rv, p, _⟩ := hqx.inv I
    obtain ⟨its2, rv2, p2, _⟩ := hqy.inv I
    have l1 := rv.length
    have l2 := rv2.length
    have hh : X.A.in1.handled = none := I.ok.hd hc
    have D1 := drB (prog := X.prog) (w := X.w) hh b1 i1 a1 n1 its.toArray
    have D2 := drB (prog := X.prog) (w := X.w) hh b2 i2 a2 n2 its2.toArray
    exact wpAny_pyNext_zipD2_end S D1 D2 hz hTI hTO ⟨h1, p⟩ ⟨h2, p2⟩ (by simp; omega) (by simp; omega) (by simp; omega) fun h' tk hk => ⟨rfl, I.turnedL (t' := tk) (ch := [z, TI, TO, i1, i2]) (fun c o hb q =>
      hk c o (fun q' => hb (by simp [q'])) (fun q' => hb (by simp [q'])) (fun q' => hb (by simp [q'])) (fun q' => hb (by simp [q'])) q) hf⟩
  self := fun A i s Q E st h => wpAny_pyIter_zip st.1 h
def iZip2A (K : PySem.W.Frag) (ta : TA) : TI := fun σ H R => ta σ H fun vs H1 => ∃ b1 b2 a1 a2 xs ys, vs = [.ref a1, .ref a2] ∧ SqB K b1 H1 a1 xs ∧ SqB K b2 H1 a2 ys ∧ R (Itz2 K b1 b2 a1 a2) H1
theorem pi_zip2A {X : Cx} {e e2 : Expr} {ta : TA} {p pos tpos : Pos} {elts : List Expr} {kk : Nat} (hg : Gl X "zip") (hm : X.mg "zip" = none) (ha : PA X [e, e2] ta)
    (hs : starEach [e, e2] X.env = (false, eval e X.env) :: starEach [e2] X.env := by rfl) (hpl : (backTo pos (starEach [e2] X.env)).any (·.1) = false := by rfl) :
    PI X (.Tuple elts kk tpos) (.Call (.Name "zip" p) [e, e2] [] pos) (iZip2A X.K ta) := by
  refine ⟨fun pins s σ H R I h => ?_⟩
  refine Call_ (ld_blt I hg hm PyProof.Rows.boot_zip (PyProof.Rows.callWith_type1 (thn (ha.run pos pins s σ H _ I h) fun us s1 ⟨vs, H1, I1, r1, q1⟩ => ?_) hs hpl))
  obtain ⟨b1, b2, a1, a2, xs, ys, ex, q1, q2, qR⟩ := q1
  subst ex
  cases r1 with
  | cons r rr =>
    cases rr with
    | cons r' rr =>
      cases rr
      cases r
      cases r'
      obtain ⟨its, rv, p1, k1⟩ := q1.inv I1
      obtain ⟨its2, rv2, p2, k2⟩ := q2.inv I1
      refine zip_begins2 (begB b1 a1 its.toArray) (begB b2 a2 its2.toArray) p1 p2 fun h' hz hTI hTO g1 g2 hsz hk => wpAny_pyIter_zip hz ?_
      have I2 : Inv X pins σ H1 { s1 with heap := h' } := I1.kept (t' := s1.toks) hk
      refine ⟨s1.heap.objs.size + 4, [s1.heap.objs.size + 4, s1.heap.objs.size + 2, s1.heap.objs.size + 3, s1.heap.objs.size, s1.heap.objs.size + 1], _, _, H1, rfl, I2, turn_zip2 (b1 := b1) (b2 := b2) (a1 := a1) (a2 := a2) (zip_sep2 (fun b hb => by rw [List.mem_singleton.mp hb]; exact k1) (fun b hb => by rw [List.mem_singleton.mp hb]; exact k2)) (Nat.ne_of_lt k1) (Nat.ne_of_lt (Nat.lt_succ_of_lt k2)), ⟨hz, hTI, ⟨_, _, hTO⟩, .start g1, .start g2⟩, fun c hcm => ?_, qR⟩
      have e' : c = s1.heap.objs.size + 4 ∨ c = s1.heap.objs.size + 2 ∨ c = s1.heap.objs.size + 3 ∨ c = s1.heap.objs.size ∨ c = s1.heap.objs.size + 1 := by simpa using hcm
      have hle : s1.heap.objs.size ≤ c := by
        rcases e' with z | z | z | z | z
        · rw [z]; exact Nat.le_add_right _ _
        · rw [z]; exact Nat.le_add_right _ _
        · rw [z]; exact Nat.le_add_right _ _
        · rw [z]; exact Nat.le_refl _
        · rw [z]; exact Nat.le_add_right _ _
      exact I1.fpOk hle (I1.hok.fresh hle)
def trips : List PyData → List PyData → List PyData → List PyData
  | x :: xs, y :: ys, z :: zs => .tuple [x, y, z] :: trips xs ys zs
  | _, _, _ => []
theorem trips_len : ∀ xs ys zs : List PyData, (trips xs ys zs).length = min xs.length (min ys.length zs.length)
  | [], _, _ => by simp [trips]
  | _ :: _, [], _ => by simp [trips]
  | _ :: _, _ :: _, [] => by simp [trips]
  | x :: xs, y :: ys, z :: zs => by
    show (trips xs ys zs).length + 1 = _
    rw [trips_len xs ys zs, List.length_cons, List.length_cons, List.length_cons]
    omega
theorem trips_get : ∀ {xs ys zs : List PyData} {i : Nat} {x y z : PyData}, xs[i]? = some x → ys[i]? = some y → zs[i]? = some z → (trips xs ys zs)[i]? = some (.tuple [x, y, z])
  | [], _, _, _, _, _, _, h, _, _ => by simp at h
  | _ :: _, [], _, _, _, _, _, _, h, _ => by simp at h
  | _ :: _, _ :: _, [], _, _, _, _, _, _, h => by simp at h
  | a :: xs, b :: ys, c :: zs, 0, x, y, z, h1, h2, h3 => by
    simp at h1 h2 h3
    subst h1 h2 h3
    rfl
  | a :: xs, b :: ys, c :: zs, i + 1, x, y, z, h1, h2, h3 => by
    rw [List.getElem?_cons_succ] at h1 h2 h3
    show (trips xs ys zs)[i]? = _
    exact trips_get h1 h2 h3
/-- the items of a list or tuple -/
def lt_items : PyData → Option (List PyData)
  | .tuple xs => some xs
  | .list xs => some xs
  | _ => none
def iZip3 (f g h : En → Option PyData) : En → Option (List PyData) := fun en => (f en).bind fun x => (g en).bind fun y => (h en).bind fun z => (lt_items x).bind fun xs => (lt_items y).bind fun ys => (lt_items z).bind fun zs => some (trips xs ys zs)
theorem dp_sqB {K : PySem.W.Frag} {H : Hp} {v : V} {x : PyData} {xs : List PyData} (q : Dp K H v x) (h : lt_items x = some xs) : ∃ b a vs, v = .ref a ∧ SqB K b H a vs ∧ DpAll K H vs xs := by
  cases x <;> simp only [lt_items] at h <;> cases h
  · cases q with
    | lst s a => exact ⟨true, _, _, rfl, s, a⟩
  · cases q with
    | tup s a => exact ⟨false, _, _, rfl, s, a⟩
section
variable {X : Cx} {Ts : TsT} {pos p tpos : Pos} {e e2 e3 : Expr} {f g h : En → Option PyData} {elts : List Expr} {kk : Nat}
theorem gives_zip3 {K : PySem.W.Frag} {H1 : Hp} {O : List Addr} {b1 b2 b3 : Bool} {a1 a2 a3 : Addr} {xs ys zs : List V} {ds es fs : List PyData} (s1 : SqB K b1 (hide H1 O) a1 xs) (s2 : SqB K b2 (hide H1 O) a2 ys) (s3 : SqB K b3 (hide H1 O) a3 zs)
    (q1 : DpAll K (hide H1 O) xs ds) (q2 : DpAll K (hide H1 O) ys es) (q3 : DpAll K (hide H1 O) zs fs) : Gives K Ts (Itz3 K b1 b2 b3 a1 a2 a3) (trips ds es fs) H1 O := fun O' H2 h1 h2 occ => by
  have u1 := s1.mono fun o n e => h2.get _ o e n
  have u2 := s2.mono fun o n e => h2.get _ o e n
  have u3 := s3.mono fun o n e => h2.get _ o e n
  have la := DpAll.len q1
  have lb := DpAll.len q2
  have lc := DpAll.len q3
  have q1 := DpAll.mono h1 q1
  have q2 := DpAll.mono h1 q2
  have q3 := DpAll.mono h1 q3
  refine ⟨fun i hi => ?_, ?_, fun i v H3 hi hy => ?_⟩
  · rw [trips_len] at hi
    exact ⟨xs, ys, zs, xs[i]'(by omega), ys[i]'(by omega), zs[i]'(by omega), u1, u2, u3, List.getElem?_eq_getElem _, List.getElem?_eq_getElem _, List.getElem?_eq_getElem _⟩
  · rw [trips_len]
    exact ⟨xs, ys, zs, u1, u2, u3, by omega, by omega, by omega, by omega⟩
  · obtain ⟨T, x, y, z, rfl, nT, rfl, ex, ey, ez⟩ := hy
    obtain ⟨d1, hd1, r1⟩ := DpAll.get q1 (ex _ u1)
    obtain ⟨d2, hd2, r2⟩ := DpAll.get q2 (ey _ u2)
    obtain ⟨d3, hd3, r3⟩ := DpAll.get q3 (ez _ u3)
    exact ⟨.tuple [d1, d2, d3], trips_get hd1 hd2 hd3, Xt.upd nT, fun t => t.new nT, tup_new nT (fun z => (occ T z).1 nT) (.cons r1 (.cons r2 (.cons r3 .nil)))⟩
theorem di_zip3 (hg : Gl X "zip") (hm : X.mg "zip" = none) (ha : DE X Ts e f) (hb : DE X Ts e2 g) (hc : DE X Ts e3 h)
    (hs : starEach [e, e2, e3] X.env = (false, eval e X.env) :: starEach [e2, e3] X.env := by rfl) (hs2 : starEach [e2, e3] X.env = (false, eval e2 X.env) :: starEach [e3] X.env := by rfl) (hs3 : starEach [e3] X.env = (false, eval e3 X.env) :: starEach [] X.env := by rfl) (hpl : (backTo pos (starEach [e2, e3] X.env)).any (·.1) = false := by rfl) :
    DI X Ts (.Tuple elts kk tpos) (.Call (.Name "zip" p) [e, e2, e3] [] pos) (iZip3 f g h) :=
  PI.imp (pi_zip3A (ta := tCons (tD X.K Ts f) (tCons (tD X.K Ts g) (tCons (tD X.K Ts h) tNil))) hg hm (pa_cons ha (pa_cons hb (pa_cons hc pa_nil hs3) hs2) hs) hs hpl) fun σ H R ⟨He, O, en, ds, rp, hf, kk⟩ => by
    unfold iZip3 at hf
    obtain ⟨x, h1, hf1⟩ := Option.bind_eq_some_iff.mp hf
    obtain ⟨y, h2, hf2⟩ := Option.bind_eq_some_iff.mp hf1
    obtain ⟨z, h3, hf3⟩ := Option.bind_eq_some_iff.mp hf2
    obtain ⟨xs, h4, hf4⟩ := Option.bind_eq_some_iff.mp hf3
    obtain ⟨ys, h5, hf5⟩ := Option.bind_eq_some_iff.mp hf4
    obtain ⟨zs, h6, hf6⟩ := Option.bind_eq_some_iff.mp hf5
    cases hf6
    refine tD.of rp h1 fun v H1 x1 r1 q1 => tD.of r1 h2 fun w H2 x2 r2 q2 => tD.of r2 h3 fun u H3 x3 r3 q3 => ?_
    have q1 := Dp.mono (hide_mono (x2.trans x3)) q1
    have q2 := Dp.mono (hide_mono x3) q2
    obtain ⟨b1, a1, vs1, rfl, s1, t1⟩ := dp_sqB q1 h4
    obtain ⟨b2, a2, vs2, rfl, s2, t2⟩ := dp_sqB q2 h5
    obtain ⟨b3, a3, vs3, rfl, s3, t3⟩ := dp_sqB q3 h6
    exact ⟨b1, b2, b3, a1, a2, a3, vs1, vs2, vs3, rfl, s1.mono fun o n e => (hide_some e).2, s2.mono fun o n e => (hide_some e).2, s3.mono fun o n e => (hide_some e).2, kk _ H3 ((x1.trans x2).trans x3) r3.tabs (gives_zip3 s1 s2 s3 t1 t2 t3)⟩
end
end DN
set_option Elab.async false
set_option linter.all false
set_option maxRecDepth 100000
set_option maxHeartbeats 4000000
namespace DN
open PySem PySem.Spec PyProof.Rows L2
/-! ### zip, gcd -/
def pairs : List PyData → List PyData → List PyData
  | x :: xs, y :: ys => .tuple [x, y] :: pairs xs ys
  | _, _ => []
theorem pairs_len : ∀ xs ys : List PyData, (pairs xs ys).length = min xs.length ys.length
  | [], _ => by simp [pairs]
  | _ :: _, [] => by simp [pairs]
  | x :: xs, y :: ys => by
    show (pairs xs ys).length + 1 = _
    rw [pairs_len xs ys, List.length_cons, List.length_cons]
    omega
theorem pairs_get : ∀ {xs ys : List PyData} {i : Nat} {x y : PyData}, xs[i]? = some x → ys[i]? = some y → (pairs xs ys)[i]? = some (.tuple [x, y])
  | [], _, _, _, _, h, _ => by simp at h
  | _ :: _, [], _, _, _, _, h => by simp at h
  | a :: xs, b :: ys, 0, x, y, h1, h2 => by
    simp at h1 h2
    subst h1 h2
    rfl
  | a :: xs, b :: ys, i + 1, x, y, h1, h2 => by
    rw [List.getElem?_cons_succ] at h1 h2
    show (pairs xs ys)[i]? = _
    exact pairs_get h1 h2
def iZip (f g : En → Option PyData) : En → Option (List PyData) := fun en => (f en).bind fun x => (g en).bind fun y => match x, y with
  | .tuple xs, .tuple ys => some (pairs xs ys)
  | .list xs, .list ys => some (pairs xs ys)
  | .tuple xs, .list ys => some (pairs xs ys)
  | .list xs, .tuple ys => some (pairs xs ys)
  | _, _ => none
section
variable {X : Cx} {Ts : TsT} {pos p tpos : Pos} {e e2 : Expr} {f g : En → Option PyData} {elts : List Expr} {kk : Nat}
theorem gives_zip2 {K : PySem.W.Frag} {H1 : Hp} {O : List Addr} {b1 b2 : Bool} {a1 a2 : Addr} {xs ys : List V} {ds es : List PyData} (s1 : SqB K b1 (hide H1 O) a1 xs) (s2 : SqB K b2 (hide H1 O) a2 ys)
    (q1 : DpAll K (hide H1 O) xs ds) (q2 : DpAll K (hide H1 O) ys es) : Gives K Ts (Itz2 K b1 b2 a1 a2) (pairs ds es) H1 O := fun O' H2 h1 h2 occ => by
  have u1 := s1.mono fun o n e => h2.get _ o e n
  have u2 := s2.mono fun o n e => h2.get _ o e n
  have la := DpAll.len q1
  have lb := DpAll.len q2
  have q1 := DpAll.mono h1 q1
  have q2 := DpAll.mono h1 q2
  refine ⟨fun i hi => ?_, ?_, fun i v H3 hi hy => ?_⟩
  · rw [pairs_len] at hi
    exact ⟨xs, ys, xs[i]'(by omega), ys[i]'(by omega), u1, u2, List.getElem?_eq_getElem _, List.getElem?_eq_getElem _⟩
  · rw [pairs_len]
    exact ⟨xs, ys, u1, u2, by omega, by omega, by omega⟩
  · obtain ⟨T, x, y, rfl, nT, rfl, ex, ey⟩ := hy
    obtain ⟨d1, hd1, r1⟩ := DpAll.get q1 (ex _ u1)
    obtain ⟨d2, hd2, r2⟩ := DpAll.get q2 (ey _ u2)
    exact ⟨.tuple [d1, d2], pairs_get hd1 hd2, Xt.upd nT, fun t => t.new nT, tup_new nT (fun z => (occ T z).1 nT) (.cons r1 (.cons r2 .nil))⟩
theorem di_zip (hg : Gl X "zip") (hm : X.mg "zip" = none) (ha : DE X Ts e f) (hb : DE X Ts e2 g)
    (hs : starEach [e, e2] X.env = (false, eval e X.env) :: starEach [e2] X.env := by rfl) (hs2 : starEach [e2] X.env = (false, eval e2 X.env) :: starEach [] X.env := by rfl) (hpl : (backTo pos (starEach [e2] X.env)).any (·.1) = false := by rfl) :
    DI X Ts (.Tuple elts kk tpos) (.Call (.Name "zip" p) [e, e2] [] pos) (iZip f g) :=
  PI.imp (pi_zip2A (ta := tCons (tD X.K Ts f) (tCons (tD X.K Ts g) tNil)) hg hm (pa_cons ha (pa_cons hb pa_nil hs2) hs) hs hpl) fun σ H R ⟨He, O, en, ds, rp, hf, kk⟩ => by
    unfold iZip at hf
    obtain ⟨x, h1, hf1⟩ := Option.bind_eq_some_iff.mp hf
    obtain ⟨y, h2, hf2⟩ := Option.bind_eq_some_iff.mp hf1
    refine tD.of rp h1 fun v H1 x1 r1 q1 => tD.of r1 h2 fun w H2 x2 r2 q2 => ?_
    have q1 := Dp.mono (hide_mono x2) q1
    have fin : ∀ xs ys, lt_items x = some xs → lt_items y = some ys → ds = pairs xs ys → ∃ b1 b2 a1 a2 us ws, [v, w] = [V.ref a1, V.ref a2] ∧ SqB X.K b1 H2 a1 us ∧ SqB X.K b2 H2 a2 ws ∧ R (Itz2 X.K b1 b2 a1 a2) H2 := fun xs ys h4 h5 e => by
      subst e
      obtain ⟨b1, a1, vs1, rfl, s1, t1⟩ := dp_sqB q1 h4
      obtain ⟨b2, a2, vs2, rfl, s2, t2⟩ := dp_sqB q2 h5
      exact ⟨b1, b2, a1, a2, vs1, vs2, rfl, s1.mono fun o n e => (hide_some e).2, s2.mono fun o n e => (hide_some e).2, kk _ H2 (x1.trans x2) r2.tabs (gives_zip2 s1 s2 t1 t2)⟩
    cases x <;> cases y <;> simp only at hf2 <;> cases hf2 <;> exact fin _ _ rfl rfl rfl
theorem d_gcd {x : Str} (hg : Gl X x) (hm : X.mg x = some (.builtin "math.gcd")) (ha : DE X Ts e f) (hb : DE X Ts e2 g) (hdb : (x == ("__debug__" : Str)) = false := by decide)
    (hs : starEach [e, e2] X.env = (false, eval e X.env) :: starEach [e2] X.env := by rfl) (hs2 : starEach [e2] X.env = (false, eval e2 X.env) :: starEach [] X.env := by rfl) (hpl : (backTo pos (starEach [e2] X.env)).any (·.1) = false := by rfl) :
    DE X Ts (.Call (.Name x p) [e, e2] [] pos) (fGcd f g) :=
  PE.imp (pe_callBfun cr_gcd hg hm (pa_cons ha (pa_cons hb pa_nil hs2) hs) hdb hs hpl) fun σ H Q ⟨He, O, en, d, rp, hf, kk⟩ => by
    unfold fGcd at hf
    obtain ⟨x, y, h1, h2, h3⟩ := f2_some hf
    refine tD.of rp h1 fun v H1 x1 r1 q1 => tD.of r1 h2 fun w H2 x2 r2 q2 => ?_
    cases x <;> cases y <;> simp only [gI] at h3 <;> try cases h3
    cases q1
    cases q2
    exact ⟨_, _, rfl, kk _ H2 (x1.trans x2) r2.tabs (.int _)⟩
end
end DN
set_option Elab.async false
set_option linter.all false
set_option maxRecDepth 100000
set_option maxHeartbeats 4000000
namespace DN
open PySem PySem.Spec PyProof.Rows L2
/-! ### the greatest, the least of a list or tuple of ints -/
def minL : List Int → Int
  | [] => 0
  | x :: r => r.foldl min x
theorem reads_ints {h : Heap} : ∀ {ns : List Int} {its : List Value}, Vals (ns.map V.int) its → ReadsAll h its (ns.map .int) []
  | [], _, .nil => .nil
  | n :: ns, _, .cons r t => by
    obtain ⟨k, rfl⟩ := r
    exact .cons (.int n k) (reads_ints t)
theorem ints_alike : ∀ ns : List Int, PySem.W.AlikeAll (ns.map .int) := fun ns => by
  refine ⟨fun x hx y hy => ?_, fun x hx z => ?_⟩
  · obtain ⟨a, _, rfl⟩ := List.mem_map.mp hx
    obtain ⟨b, _, rfl⟩ := List.mem_map.mp hy
    rfl
  · obtain ⟨a, _, rfl⟩ := List.mem_map.mp hx
    cases z
theorem ints_depth : ∀ ns : List Int, PyData.depthAll (ns.map .int) = 0
  | [] => by simp only [List.map_nil, PyData.depthAll]
  | n :: r => by simp only [List.map_cons, PyData.depthAll, PyData.depth, ints_depth r]; rfl
def rMaxT (K : PySem.W.Frag) : List V → Hp → VK → Prop := fun vs H Q => ∃ (a : Addr) (n : Int) (ns : List Int), vs = [V.ref a] ∧ SqT K H a ((n :: ns).map V.int) ∧ Q (.int (maxL (n :: ns))) H
def rMinT (K : PySem.W.Frag) : List V → Hp → VK → Prop := fun vs H Q => ∃ (a : Addr) (n : Int) (ns : List Int), vs = [V.ref a] ∧ SqT K H a ((n :: ns).map V.int) ∧ Q (.int (minL (n :: ns))) H
section
variable {X : Cx} {Ts : TsT} {pos p : Pos} {e : Expr} {f : En → Option PyData} {k : Nat}
theorem cr_maxT (hc : X.calm = true) (hu : X.A.units + 1 < cLine) : CallR X (.builtin "max") (rMaxT X.K) := by
  intro pins s σ H vs us Q I r h
  obtain ⟨a, n, ns, rfl, hs, q⟩ := h
  obtain ⟨its, rv, hl, _⟩ := I.tuple hs
  rw [Vals.ref1 r]
  refine PySem.W.max_tuple_data (I.ok.hd hc) hl (by simpa using reads_ints (ns := n :: ns) rv) (ints_alike (n :: ns)) (by rw [show (PyData.int n :: ns.map .int) = (n :: ns).map .int from rfl, ints_depth]; omega) fun i v h' tk bs hv hr hk => ?_
  rw [PySem.W.maxD_ints] at hr
  cases hr
  exact ⟨.int _, H, I.kept hk, ⟨_, rfl⟩, q⟩
theorem cr_minT (hc : X.calm = true) (hu : X.A.units + 1 < cLine) : CallR X (.builtin "min") (rMinT X.K) := by
  intro pins s σ H vs us Q I r h
  obtain ⟨a, n, ns, rfl, hs, q⟩ := h
  obtain ⟨its, rv, hl, _⟩ := I.tuple hs
  rw [Vals.ref1 r]
  refine PySem.W.min_tuple_data (I.ok.hd hc) hl (by simpa using reads_ints (ns := n :: ns) rv) (ints_alike (n :: ns)) (by rw [show (PyData.int n :: ns.map .int) = (n :: ns).map .int from rfl, ints_depth]; omega) fun i v h' tk bs hv hr hk => ?_
  rw [PySem.W.minD_ints] at hr
  cases hr
  exact ⟨.int _, H, I.kept hk, ⟨_, rfl⟩, q⟩
def gMaxT : PyData → Option PyData
  | .tuple ds => (intsOf ds).bind fun ns => if ns.isEmpty = true then none else some (.int (maxL ns))
  | _ => none
def gMinT : PyData → Option PyData
  | .tuple ds => (intsOf ds).bind fun ns => if ns.isEmpty = true then none else some (.int (minL ns))
  | _ => none
def fMaxT := f1 gMaxT
def fMinT := f1 gMinT
theorem d_maxT (hr : Room k X.A) (hc : X.calm = true) (hg : Gl X "max") (hm : X.mg "max" = none) (hb : bootBuiltins "max" = some (.builtin "max")) (ha : DB X Ts e f) (he : starEach [e] X.env = (false, eval e X.env) :: starEach [] X.env := by rfl) : DE X Ts (.Call (.Name "max" p) [e] [] pos) (fMaxT f) :=
  b_arg1 (cr_maxT hc (by have := hr.units; have := hr.un; omega)) hg hm hb ha (he := he) fun d z v H O Q hz q t occ kk => by
    cases d <;> simp only [gMaxT] at hz <;> try cases hz
    rename_i ds
    obtain ⟨ns, h1, h2⟩ := Option.bind_eq_some_iff.mp hz
    have e := intsOf_some h1
    subst e
    split at h2
    · cases h2
    · rename_i hn
      cases h2
      obtain ⟨a, vs, rfl, h1, h2⟩ := q.tup
      obtain rfl := DpAll.ints h2
      cases ns with
      | nil => exact absurd rfl hn
      | cons x r => exact ⟨a, x, r, rfl, h1, kk _ H (Xt.refl H) t (.int _)⟩
theorem d_minT (hr : Room k X.A) (hc : X.calm = true) (hg : Gl X "min") (hm : X.mg "min" = none) (hb : bootBuiltins "min" = some (.builtin "min")) (ha : DB X Ts e f) (he : starEach [e] X.env = (false, eval e X.env) :: starEach [] X.env := by rfl) : DE X Ts (.Call (.Name "min" p) [e] [] pos) (fMinT f) :=
  b_arg1 (cr_minT hc (by have := hr.units; have := hr.un; omega)) hg hm hb ha (he := he) fun d z v H O Q hz q t occ kk => by
    cases d <;> simp only [gMinT] at hz <;> try cases hz
    rename_i ds
    obtain ⟨ns, h1, h2⟩ := Option.bind_eq_some_iff.mp hz
    have e := intsOf_some h1
    subst e
    split at h2
    · cases h2
    · rename_i hn
      cases h2
      obtain ⟨a, vs, rfl, h1, h2⟩ := q.tup
      obtain rfl := DpAll.ints h2
      cases ns with
      | nil => exact absurd rfl hn
      | cons x r => exact ⟨a, x, r, rfl, h1, kk _ H (Xt.refl H) t (.int _)⟩
end
end DN
set_option Elab.async false
set_option linter.all false
set_option maxRecDepth 100000
set_option maxHeartbeats 4000000
/-! Bodies that draw: statements of all kinds; they return any datum. -/
namespace DN
open PySem PySem.Spec PyProof.Rows L2
theorem Rep.setO1 {K : PySem.W.Frag} {Ts : TsT} {He : Hp} {O : List Addr} {σ : St} {H H1 : Hp} {en : En} {i : Nat} {a : Addr} {vs : List V} {ds : List PyData} (rp : Rep K Ts He O σ H en) (hi : i < en.length) (x : Xt H H1) (t : Tb Ts H1) (na : H a = none) (ha : H1 a = some (.lst vs)) (q : DpAll K (hide H1 (a :: O)) vs ds):
    Rep K Ts He (a :: O) (σ.set i (some (.ref a))) H1 (en.set i (.own ds)) ∧ Xt (hide H O) (hide H1 (a :: O)) := by
  have r1 := rp.go x t
  have hs : i < σ.length := by rw [← rp.len]; exact hi
  have nA : a ∉ O := rp.free na
  have hHe : He a = none := rp.ext.there na
  -- nothing that the slots hold leans on a
  have back : Xt (hide H O) (hide H1 (a :: O)) := fun b o e => by
    obtain ⟨e1, e2⟩ := hide_some e
    have nb : b ∉ a :: O := fun z => by
      rcases List.mem_cons.mp z with z | z
      · rw [z, na] at e2; cases e2
      · exact e1 z
    rcases x b o e2 with q | ⟨ps, qs, e3, q⟩
    · exact .inl (hide_of nb q)
    · exact .inr ⟨ps, qs, e3, hide_of nb q⟩
  refine ⟨⟨by simp [rp.len], fun j d h => ?_, fun j es h => ?_, fun j k es es' aa h1 h2 h3 h4 => ?_, fun b hb => ?_, r1.ext, t⟩, back⟩
  · have hj : i ≠ j := fun z => by subst z; rw [List.getElem?_set_self hi] at h; cases h
    rw [List.getElem?_set_ne hj] at h
    obtain ⟨v, q1, q2⟩ := rp.dat j d h
    exact ⟨v, by rw [List.getElem?_set_ne hj]; exact q1, Dp.mono back q2⟩
  · by_cases hj : i = j
    · subst hj
      rw [List.getElem?_set_self hi] at h
      cases h
      exact ⟨a, vs, by rw [List.getElem?_set_self hs], List.mem_cons_self, hHe, ha, q⟩
    · rw [List.getElem?_set_ne hj] at h
      obtain ⟨a', vs', q1, q2, q3, q4, q5⟩ := rp.own j es h
      exact ⟨a', vs', by rw [List.getElem?_set_ne hj]; exact q1, List.mem_cons_of_mem _ q2, q3, x.get a' _ q4 (fun _ z => nomatch z), DpAll.mono back q5⟩
  · have old : ∀ (j : Nat) (es : List PyData) (aa : Addr), i ≠ j → (en.set i (Slot.own ds))[j]? = some (Slot.own es) → (σ.set i (some (V.ref a)))[j]? = some (some (V.ref aa)) → aa ≠ a := fun j es aa hj h1 h2 z => by
      rw [List.getElem?_set_ne hj] at h1 h2
      obtain ⟨a', vs', q1, q2, _⟩ := rp.own j es h1
      rw [h2] at q1
      cases q1
      exact nA (z ▸ q2)
    by_cases hj : i = j
    · by_cases hk : i = k
      · exact hj.symm.trans hk
      · subst hj
        rw [List.getElem?_set_self hs] at h3
        cases h3
        exact absurd rfl (old k es' _ hk h2 h4)
    · by_cases hk : i = k
      · subst hk
        rw [List.getElem?_set_self hs] at h4
        cases h4
        exact absurd rfl (old j es _ hj h1 h3)
      · rw [List.getElem?_set_ne hj] at h1 h3
        rw [List.getElem?_set_ne hk] at h2 h4
        exact rp.inj j k es es' aa h1 h2 h3 h4
  · rcases List.mem_cons.mp hb with z | z
    · rw [z, ha]
      exact ⟨by simp, fun ps z => nomatch z⟩
    · exact r1.occ b z
/-- the slots within such a body: the row stands at a; the caller's hidden addresses O₀ -/
def RepV (K : PySem.W.Frag) (Ts : TsT) (ρ : Nat) (a : Addr) (He : Hp) (O₀ : List Addr) (Vz : Hp) (σ : St) (H : Hp) (en : En) : Prop :=
  ∃ O, (∀ b ∈ O₀, b ∈ O) ∧ WRep K Ts ρ He O σ H en ∧ σ[ρ]? = some (some (V.ref a)) ∧ Xt Vz (hide H O)
def tV (K : PySem.W.Frag) (Ts : TsT) (ρ : Nat) (fin : Bool) (F : LF) : TS := fun D σ H => ∃ a He O₀ Vz en Q, RepV K Ts ρ a He O₀ Vz σ H en ∧ F en Q ∧
  (∀ en' σ' H', Q (.nx en') → RepV K Ts ρ a He O₀ Vz σ' H' en' → D.nx σ' H') ∧
  ((∀ d v en' σ' H', Q (.rt d) → RepV K Ts ρ a He O₀ Vz σ' H' en' → Dp K (hide H' O₀) v d → D.rt v H') ∧ (fin = true → ∀ b H', Q (.rt (.bool b)) → D.rt (.bl b) H'))
abbrev VS (X : Cx) (Ts : TsT) (ρ : Nat) (fin : Bool) (st : Stmt) (F : LF) : Prop := PS X st (tV X.K Ts ρ fin F)
abbrev VSs (X : Cx) (Ts : TsT) (ρ : Nat) (fin : Bool) (st : List Stmt) (F : LF) : Prop := PSs X st (tV X.K Ts ρ fin F)
def lOwn (ρ i : Nat) (f : En → Option PyData) : LF := fun en Q => ∃ ds, (∀ rw, f (en.set ρ (.own rw)) = some (.list ds)) ∧ i < en.length ∧ Q (.nx (en.set i (.own ds)))
def lApp (i : Nat) (F : WF) : LF := fun en Q => ∃ ds, en[i]? = some (.own ds) ∧ ds.length ≤ 1000000 ∧ F en fun d => Q (.nx (en.set i (.own (ds ++ [d]))))
def lforGo (b : PyData → En → Option En) (F : LF) : List PyData → LF
  | [], en, Q => Q (.nx en)
  | d :: r, en, Q => ∃ e1, b d en = some e1 ∧ F e1 fun fl => match fl with
    | .nx e2 => lforGo b F r e2 Q
    | .rt v => Q (.rt v)
    | _ => False
def lFor (it : En → (List PyData → Prop) → Prop) (b : PyData → En → Option En) (F : LF) : LF := fun en Q => it en fun ds => lforGo b F ds en Q
def lExpr (F : WF) : LF := fun en Q => F en fun _ => Q (.nx en)
def lRetV (F : WF) : LF := fun en Q => F en fun d => Q (.rt d)
section
variable {X : Cx} {Ts : TsT} {ρ : Nat} {fin : Bool} {pos : Pos} {st : Stmt} {rest : List Stmt} {F G : LF} {e a b : Expr} {f g : WF}
theorem v_nil : VSs X Ts ρ fin [] lNil := PSs.imp pss_nil fun D σ H ⟨a, He, O₀, Vz, en, Q, rp, hF, k, _⟩ => k en σ H hF rp
theorem v_cons (h1 : VS X Ts ρ fin st F) (h2 : VSs X Ts ρ fin rest G) : VSs X Ts ρ fin (st :: rest) (lSeq F G) := PSs.imp (pss_cons h1 h2) fun D σ H ⟨a, He, O₀, Vz, en, Q, rp, hF, k, l⟩ =>
  ⟨a, He, O₀, Vz, en, _, rp, hF, fun e1 σ1 H1 hq r1 => ⟨a, He, O₀, Vz, e1, Q, r1, hq, k, l⟩, ⟨fun d v en' σ' H' hq => l.1 d v en' σ' H' hq, fun hf b H' hq => l.2 hf b H' hq⟩⟩
theorem v_one (h1 : VS X Ts ρ fin st F) : VSs X Ts ρ fin [st] F := pss_one h1
theorem v_set {i : Nat} {x : Str} {pos' : Pos} (hN : X.N.Nodup) (hi : X.N[i]? = some x) (hx : Loc X.env.scope x) (hρ : i ≠ ρ) (he : WE X Ts ρ e f) (hs : swapsWith e (some (.Name x pos')) pos.line X.env = pure false := by rfl) (hf : X.fn x = true ∨ X.env.scope.names.lookup x = some .local := by first | exact .inl rfl | exact .inr rfl | assumption) :
    VS X Ts ρ fin (.Assign [.Name x pos'] e pos) (lSet i f) := PS.imp (ps_set hN hi hx he hs hf) fun D σ H ⟨aa, He, O₀, Vz, en, Q, ⟨O, s1, rp, ha, xv⟩, hF, k, _⟩ =>
  ⟨He, O, en, _, rp, hF, fun d v H' ⟨e1, h1, hq⟩ r' q x => k e1 _ H' hq ⟨O, s1, r'.setD hρ h1 q, by rw [List.getElem?_set_ne hρ]; exact ha, xv.trans x.1⟩⟩
theorem v_par {i j : Nat} {x y : Str} {px py pt : Pos} {kt k2 pt2} (hc : X.calm = true) (hN : X.N.Nodup) (hi : X.N[i]? = some x) (hj : X.N[j]? = some y) (hij : i ≠ j) (hiρ : i ≠ ρ) (hjρ : j ≠ ρ)
    (hx : X.env.scope.names.lookup x = some .local) (hy : X.env.scope.names.lookup y = some .local) (ha : WE X Ts ρ a f) (hb : WE X Ts ρ b g) (hw : swappedStores [.Tuple [.Name x px, .Name y py] kt pt] (.Tuple [a, b] k2 pt2) X.env = pure (some [x, y]))
    (hs1 : starEach [a, b] X.env = (false, eval a X.env) :: starEach [b] X.env := by rfl) (hs2 : starEach [b] X.env = (false, eval b X.env) :: starEach [] X.env := by rfl)
    (hs : swapsWithSole [.Tuple [.Name x px, .Name y py] kt pt] (.Tuple [a, b] k2 pt2) pos.line X.env = pure false := by rfl) : VS X Ts ρ fin (.Assign [.Tuple [.Name x px, .Name y py] kt pt] (.Tuple [a, b] k2 pt2) pos) (lPar i j f g) :=
  PS.imp (ps_par hc hN hi hj hij hx hy (pa_cons ha (pa_cons hb pa_nil hs2) hs1) hw hs) fun D σ H ⟨aa, He, O₀, Vz, en, Q, ⟨O, s1, rp, hA, xv⟩, hF, k, _⟩ =>
    ⟨He, O, en, _, rp, hF, fun d v H1 h1 r1 q1 x1 => ⟨He, O, en, _, r1, h1, fun d2 w H2 ⟨e1, e2, b1, b2, hq⟩ r2 q2 x2 => ⟨v, w, rfl, k e2 _ H2 hq ⟨O, s1, (r2.setD hiρ b1 (Dp.mono x2.1 q1)).setD hjρ b2 q2, by rw [List.getElem?_set_ne hjρ, List.getElem?_set_ne hiρ]; exact hA, xv.trans (x1.trans x2).1⟩⟩⟩⟩
theorem v_par3 {i j l : Nat} {x y z : Str} {c : Expr} {h : WF} {px py pz pt : Pos} {kt k2 pt2} (hc : X.calm = true) (hN : X.N.Nodup) (hi : X.N[i]? = some x) (hj : X.N[j]? = some y) (hl : X.N[l]? = some z) (hij : i ≠ j) (hil : i ≠ l) (hjl : j ≠ l) (hiρ : i ≠ ρ) (hjρ : j ≠ ρ) (hlρ : l ≠ ρ)
    (hx : X.env.scope.names.lookup x = some .local) (hy : X.env.scope.names.lookup y = some .local) (hz : X.env.scope.names.lookup z = some .local) (ha : WE X Ts ρ a f) (hb : WE X Ts ρ b g) (hcc : WE X Ts ρ c h) (hw : swappedStores [.Tuple [.Name x px, .Name y py, .Name z pz] kt pt] (.Tuple [a, b, c] k2 pt2) X.env = pure (some [x, y, z]))
    (hs1 : starEach [a, b, c] X.env = (false, eval a X.env) :: starEach [b, c] X.env := by rfl) (hs2 : starEach [b, c] X.env = (false, eval b X.env) :: starEach [c] X.env := by rfl) (hs3 : starEach [c] X.env = (false, eval c X.env) :: starEach [] X.env := by rfl)
    (hs : swapsWithSole [.Tuple [.Name x px, .Name y py, .Name z pz] kt pt] (.Tuple [a, b, c] k2 pt2) pos.line X.env = pure false := by rfl) : VS X Ts ρ fin (.Assign [.Tuple [.Name x px, .Name y py, .Name z pz] kt pt] (.Tuple [a, b, c] k2 pt2) pos) (lPar3 i j l f g h) :=
  PS.imp (ps_par3 hc hN hi hj hl hij hil hjl hx hy hz (pa_cons ha (pa_cons hb (pa_cons hcc pa_nil hs3) hs2) hs1) hw hs) fun D σ H ⟨aa, He, O₀, Vz, en, Q, ⟨O, s1, rp, hA, xv⟩, hF, k, _⟩ =>
    ⟨He, O, en, _, rp, hF, fun d v H1 h1 r1 q1 x1 => ⟨He, O, en, _, r1, h1, fun d2 w H2 h2 r2 q2 x2 => ⟨He, O, en, _, r2, h2, fun d3 u H3 ⟨e1, e2, e3, b1, b2, b3, hq⟩ r3 q3 x3 => ⟨v, w, u, rfl, k e3 _ H3 hq ⟨O, s1, (((r3.setD hiρ b1 (Dp.mono (x2.trans x3).1 q1)).setD hjρ b2 (Dp.mono x3.1 q2)).setD hlρ b3 q3), by rw [List.getElem?_set_ne hlρ, List.getElem?_set_ne hjρ, List.getElem?_set_ne hiρ]; exact hA, xv.trans (x1.trans (x2.trans x3)).1⟩⟩⟩⟩⟩
theorem v_bind {tg : Expr} {vs : List Nat} {b : PyData → En → Option En} (he : WE X Ts ρ e f) (hg : DG X Ts tg vs b) (hb : BOk ρ b) (hv : ρ ∉ vs) (hs : swapsWithSole [tg] e pos.line X.env = pure false := by rfl) (hw : swappedStores [tg] e X.env = pure none := by rfl)
    (h1 : (assignEach [tg] X.env).map (·.2) = [assign tg X.env] := by rfl) : VS X Ts ρ fin (.Assign [tg] e pos) (lBind b f) := PS.imp (ps_asg he (wg_of hg hb) hs hw h1) fun D σ H ⟨aa, He, O₀, Vz, en, Q, ⟨O, s1, rp, hA, xv⟩, hF, k, _⟩ =>
  ⟨He, O, en, _, rp, hF, fun d v H1 ⟨e1, h1, hq⟩ r1 q1 x1 => ⟨He, O, en, d, e1, r1, q1, h1, fun σ' r' hw' => k e1 σ' H1 hq ⟨O, s1, r', by rw [← wipe_out (vs := vs) hv, hw', wipe_out hv]; exact hA, xv.trans x1.1⟩⟩⟩
theorem v_if {c : Expr} {a b : List Stmt} {t : En → (Bool → Prop) → Prop} (hc : WT X Ts ρ c t) (ha : VSs X Ts ρ fin a F) (hb : VSs X Ts ρ fin b G) : VS X Ts ρ fin (.If c a b pos) (lIf t F G) := PS.imp (ps_if hc ha hb) fun D σ H ⟨aa, He, O₀, Vz, en, Q, ⟨O, s1, rp, hA, xv⟩, hF, k, l⟩ =>
  ⟨He, O, en, _, rp, hF, fun b H' hq r' x => by
    cases b with
    | true => exact iteT ⟨aa, He, O₀, Vz, en, Q, ⟨O, s1, r', hA, xv.trans x.1⟩, hq, k, l⟩
    | false => exact iteF ⟨aa, He, O₀, Vz, en, Q, ⟨O, s1, r', hA, xv.trans x.1⟩, hq, k, l⟩⟩
theorem v_ret (he : WE X Ts ρ e f) : VS X Ts ρ fin (.Return (some e) pos) (lRetV f) := PS.imp (ps_ret he) fun D σ H ⟨aa, He, O₀, Vz, en, Q, ⟨O, s1, rp, hA, xv⟩, hF, k, l⟩ =>
  ⟨He, O, en, _, rp, hF, fun d v H' hq r' q x => l.1 d v en σ H' hq ⟨O, s1, r', hA, xv.trans x.1⟩ (Dp.mono (hide_sub s1) q)⟩
theorem v_expr (he : WE X Ts ρ e f) (hs : swapsWith e none pos.line X.env = pure false := by rfl) : VS X Ts ρ fin (.Expr e pos) (lExpr f) := PS.imp (ps_expr he hs) fun D σ H ⟨aa, He, O₀, Vz, en, Q, ⟨O, s1, rp, hA, xv⟩, hF, k, l⟩ =>
  ⟨He, O, en, _, rp, hF, fun d v H' hq r' q x => k en σ H' hq ⟨O, s1, r', hA, xv.trans x.1⟩⟩
/-- a new list of the body's own, of what is plain -/
theorem v_own {i : Nat} {x : Str} {pos' : Pos} {f : En → Option PyData} (hN : X.N.Nodup) (hi : X.N[i]? = some x) (hx : Loc X.env.scope x) (hρ : i ≠ ρ) (he : DNew X Ts e f) (hs : swapsWith e (some (.Name x pos')) pos.line X.env = pure false := by rfl) (hf : X.fn x = true ∨ X.env.scope.names.lookup x = some .local := by first | exact .inl rfl | exact .inr rfl | assumption) :
    VS X Ts ρ fin (.Assign [.Name x pos'] e pos) (lOwn ρ i f) := PS.imp (ps_set hN hi hx he hs hf) fun D σ H ⟨aa, He, O₀, Vz, en, Q, ⟨O, s1, ⟨hl, rw, hr, rp⟩, hA, xv⟩, ⟨ds, hf, hi', hq⟩, k, l⟩ =>
  ⟨He, O, _, ds, rp, hf rw, fun p vs H' x t na ha q => by
    obtain ⟨r1, r2⟩ := rp.setO1 (i := i) (by simpa using hi') x t na ha q
    refine k _ _ H' hq ⟨p :: O, fun b hb => List.mem_cons_of_mem _ (s1 b hb), ⟨by simpa using hl, rw, hr, ?_⟩, by rw [List.getElem?_set_ne hρ]; exact hA, xv.trans r2⟩
    rw [List.set_comm _ _ hρ]
    exact r1⟩
/-- x.append(e) -/
theorem v_app {i : Nat} {x : Str} {px ap : Pos} (hρ : i ≠ ρ) (hN : X.N[i]? = some x := by rfl) (hv : Vis X.env.scope x := by first | exact Or.inl rfl | exact Or.inr (Or.inl rfl) | exact Or.inr (Or.inr rfl)) (ha : WE X Ts ρ e f) (hd : (x == ("__debug__" : Str)) = false := by decide) (hcd : (x == ("__classdict__" : Str)) = false := by decide) {cpos : Pos}
    (hbase : attributeBase (.Name x px) "append" X.env (eval (.Name x px) X.env) = eval (.Name x px) X.env := by rfl)
    (hfew : ((backTo cpos (starEach [e] X.env)).all (fun x => !x.1) && (backToKw cpos (keywordEach [] X.env)).all (fun x => x.1.isSome) && decide ([e].length + ([] : List Keyword).length + (if ([] : List Keyword).isEmpty then 0 else 1) < 30)) = true := by rfl)
    (hline : (ap.endLine == cpos.line) = true := by rfl) (hs : starEach [e] X.env = (false, eval e X.env) :: starEach [] X.env := by rfl) (hplain : (backTo cpos (starEach [] X.env)).any (·.1) = false := by rfl)
    (hsw : swapsWith (.Call (.Attribute (.Name x px) "append" ap) [e] [] cpos) none pos.line X.env = pure false := by rfl) :
    VS X Ts ρ fin (.Expr (.Call (.Attribute (.Name x px) "append" ap) [e] [] cpos) pos) (lApp i f) :=
  PS.imp (ps_expr (pe_bm (t := tCons (tW X.K Ts ρ f) tNil) PySem.F.plainAttrs_list PySem.F.slot_list_append PySem.F.type_list_append mt_append (pe_var hN hv hd hcd) (pa_cons ha pa_nil hs) hbase hfew hline hs hplain) hsw) fun D σ H ⟨aa, He, O₀, Vz, en, Q, ⟨O, s1, rp, hA, xv⟩, hF, k, l⟩ => by
    have key : ∀ {H1 : Hp} {ds : List PyData}, WRep X.K Ts ρ He O σ H1 en → en[i]? = some (.own ds) → ∃ p vs, σ[i]? = some (some (V.ref p)) ∧ p ∈ O ∧ He p = none ∧ H1 p = some (.lst vs) ∧ DpAll X.K (hide H1 O) vs ds := fun r hd => by
      obtain ⟨hl, rw, hr, rp⟩ := r
      exact rp.own i _ (by rw [List.getElem?_set_ne (Ne.symm hρ)]; exact hd)
    obtain ⟨ds, hd, hlen, hF⟩ := hF
    obtain ⟨p, vs, p1, p2, p3, p4, p5⟩ := key rp hd
    refine ⟨.ref p, p1, .inl ⟨rfl, _, .inl (.inl p4)⟩, He, O, en, _, rp, hF, fun d v H1 hq r1 q1 x1 => ?_⟩
    obtain ⟨p', vs', s1', s2', s3', s4', s5'⟩ := key r1 hd
    rw [p1] at s1'
    cases s1'
    have hl2 := DpAll.len s5'
    refine ⟨p, vs', v, rfl, rfl, s4', by rw [hl2, sizeLine_eq]; omega, k _ σ _ hq ⟨O, s1, ?_, hA, xv.trans (x1.1.trans (hide_upd p2))⟩⟩
    obtain ⟨hl, rw, hr, rp1⟩ := r1
    refine ⟨by simpa using hl, rw, hr, ?_⟩
    rw [List.set_comm _ _ hρ]
    exact rp1.own_set (by rw [List.getElem?_set_ne (Ne.symm hρ)]; exact hd) p1 p2 p3 s4' (DpAll.app s5' (.cons q1 .nil))
theorem v_for {tg iter : Expr} {body : List Stmt} {vs : List Nat} {it : En → (List PyData → Prop) → Prop} {b : PyData → En → Option En} (hp : PassesOwn (model X.prog X.w) X.A X.env X.xe) (hc : X.calm = true) (hi : WI X Ts ρ tg iter it) (hg : DG X Ts tg vs b) (hbo : BOk ρ b) (hv : ρ ∉ vs) (hb : VSs X Ts ρ fin body F)
    (hs : ∀ x, foldedSetIterable iter X.env x = pure x := by intro _; rfl) : VS X Ts ρ fin (.For tg iter body [] pos) (lFor it b F) := PS.imp (ps_for hp hc hi (wg_of hg hbo) hb hs) fun D σ H ⟨aa, He, O₀, Vz, en, Q, ⟨O, s1, rp, hA, xv⟩, hF, k, l⟩ => by
  refine ⟨He, O, en, _, rp, hF, fun ds J H1 hgo0 r1 x1 gv => ?_⟩
  have xv1 : Xt Vz (hide H1 O) := xv.trans x1.1
  have weak : ∀ {σ' H' en'}, RepV X.K Ts ρ aa He O₀ (hide H1 O) σ' H' en' → RepV X.K Ts ρ aa He O₀ Vz σ' H' en' := fun ⟨O', c1, c2, c3, c4⟩ => ⟨O', c1, c2, c3, xv1.trans c4⟩
  refine ⟨fun i m σ2 H2 => m = ds.length - i ∧ i ≤ ds.length ∧ ∃ en2, RepV X.K Ts ρ aa He O₀ (hide H1 O) σ2 H2 en2 ∧ lforGo b F (ds.drop i) en2 Q,
    ⟨ds.length, by simp, Nat.zero_le _, en, ⟨O, s1, r1, hA, Xt.refl _⟩, by simpa using hgo0⟩, fun i m σ2 H2 hW => ?_⟩
  obtain ⟨rfl, hi', en2, ⟨O2, b1, r2, hA2, x12⟩, hgo⟩ := hW
  obtain ⟨g1, g2, g3⟩ := gv O2 H2 x12 (x12.trans hide_out) r2.occ
  by_cases hlt : i < ds.length
  · rw [List.drop_eq_getElem_cons hlt] at hgo
    obtain ⟨e1, hb1, hgo1⟩ := hgo
    refine .inr ⟨g1 i hlt, fun σ' H' => ∃ en2, RepV X.K Ts ρ aa He O₀ (hide H1 O) σ' H' en2 ∧ lforGo b F (ds.drop (i + 1)) en2 Q, fun σ' H' c => ⟨ds.length - (i + 1), by omega, rfl, hlt, c⟩, fun x H3 hy => ?_⟩
    obtain ⟨d, hd, x23, t23, qd⟩ := g3 i x H3 hlt hy
    have r3 := r2.go x23 (t23 r2.tabs')
    have hd' : ds[i] = d := by rw [List.getElem?_eq_getElem hlt] at hd; exact Option.some.inj hd
    rw [hd'] at hb1
    refine ⟨He, O2, en2, d, e1, r3, qd, hb1, fun σ4 r4 hw => ?_⟩
    have hA4 : σ4[ρ]? = some (some (V.ref aa)) := by rw [← wipe_out (vs := vs) hv, hw, wipe_out hv]; exact hA2
    refine ⟨aa, He, O₀, hide H1 O, e1, _, ⟨O2, b1, r4, hA4, x12.trans (hide_mono x23)⟩, hgo1, fun e2 σ' H' hq r' => ⟨e2, r', hq⟩, ⟨fun d v e2 σ' H' hq r' q => l.1 d v e2 σ' H' hq (weak r') q, fun hf b H' hq => l.2 hf b H' hq⟩⟩
  · have hie : i = ds.length := by omega
    subst hie
    rw [List.drop_of_length_le (Nat.le_refl _)] at hgo
    exact .inl ⟨g2, k en2 σ2 H2 hgo ⟨O2, b1, r2, hA2, xv1.trans x12⟩⟩
end
section
variable {P : Program} {w : World} {K : PySem.W.Frag} {mg : Str → Option Value} {base : Heap} {Ts : TsT}
def runV (n : Nat) (F : LF) : List PyData → (PyData → Prop) → Prop := fun ds Q => F (Slot.no :: (ds.map Slot.dat ++ List.replicate (n - 1 - ds.length) Slot.no)) fun r => ∃ d, r = .rt d ∧ Q d
theorem DF.okV {x qual : Str} {st : Stmt} {f : Addr} {fd : FuncData} {cdv : Value} {N ps : List Str} {k n : Nat} {F : LF} (D : DF K x qual st f fd cdv) (S : FnScope N ps (defScope st)) (hn : ps.length = n + 1) (hN : n + 1 ≤ N.length)
    (hbody : ∀ (A : Around) (outer : List Env) (s : Shared) (H : Hp) (E : XK), Room k (A.deeper (envOfC qual (defScope st) s.heap.objs.size f cdv)) → VSs (cxOf CX0 P w K mg base N qual (defScope st) f cdv A outer s H E).nox Ts 0 false (defBody st) F) :
    FnOk P w K mg base CX0 (k + 1) f fd ps (spW K Ts n (runV N.length F)) := by
  obtain ⟨oc, od, dV, kV, doc, pm, an, ct, osl, rfl, lk, hcd⟩ := D.ex
  refine fn_of lk hcd S (fun vs H Q E h => h.1.trans hn.symm) fun A outer s H vs Q E hr hsp => ?_
  refine ⟨_, (hbody A outer s H E hr).nox, ?_⟩
  obtain ⟨hl, a, vs', O, ds, rw', ws, Qd, e1, e2, e3, e4, e5, e6, e7, e8, hF, kk⟩ := hsp
  have rp := wrep_start (N := N) hl (by omega) e1 e2 e3 e4 e6 e7 e8
  have hs : (L2.start N vs)[0]? = some (some (V.ref a)) := by rw [e1]; exact start_get rfl
  refine ⟨a, fun b => if b = a then none else H b, O, fun _ => none, (Slot.no :: (ds.map Slot.dat ++ List.replicate (N.length - 1 - ds.length) Slot.no)), _, ⟨O, fun _ z => z, ⟨by simp, rw', e5, rp⟩, hs, fun _ _ z => (nomatch z)⟩, hF, fun en' σ' H' hq _ => ?_, ⟨fun d v en' σ' H' hq r' q => ?_, fun z => nomatch z⟩⟩
  · obtain ⟨_, z, _⟩ := hq
    cases z
  · obtain ⟨d', z, hq⟩ := hq
    cases z
    obtain ⟨O', s1, r2, hA, _⟩ := r'
    obtain ⟨hl2, rw2, hr2, rp2⟩ := r2
    obtain ⟨a', ws2, p1, p2, p3, p4, p5⟩ := rp2.own 0 rw2 (by rw [List.getElem?_set_self hl2])
    rw [hA] at p1
    cases p1
    refine kk d v H' rw2 ws2 hq hr2 p4 (DpAll.mono (hide_sub s1) p5) (fun b o hb e => ?_) rp2.tabs q
    exact rp2.ext b o (by show (if b = a then none else H b) = some o; rw [if_neg hb]; exact e)
theorem v_end {X : Cx} {ρ : Nat} {rest : List Stmt} {G : En → Option Fl} (h : DSs X Ts rest G) : VSs X Ts ρ true rest (lEnd ρ G) := PSs.imp h fun D σ H ⟨a, He, O₀, Vz, en, Q, ⟨O, s1, ⟨hl, rw, hr, rp⟩, hA, xv⟩, hF, k, l⟩ => by
  obtain ⟨b, h1, h2⟩ := hF rw hr
  exact ⟨He, [], fun _ => none, _, _, ⟨O, fun _ z => (nomatch z), fun _ z => (nomatch z), rp, fun _ _ z => (nomatch z)⟩, h1, fun v H' _ _ q => by cases q; exact l.2 rfl b H' h2⟩
theorem DF.okVL {x qual : Str} {st st1 : Stmt} {rest : List Stmt} {f : Addr} {fd : FuncData} {cdv : Value} {N : List Str} {sc : Str} {k ρ : Nat} {f1 : En → Option PyData} {F : LF} (D : DF K x qual st f fd cdv) (S : FnScope N [sc] (defScope st)) (hN : 1 ≤ N.length) (hb : defBody st = st1 :: rest) (hρ : ρ < N.length)
    (h1 : ∀ (A : Around) (outer : List Env) (s : Shared) (H : Hp) (E : XK), Room k (A.deeper (envOfC qual (defScope st) s.heap.objs.size f cdv)) → DS (cxOf CX0 P w K mg base N qual (defScope st) f cdv A outer s H E).nox Ts st1 (sOwn ρ f1))
    (h2 : ∀ (A : Around) (outer : List Env) (s : Shared) (H : Hp) (E : XK), Room k (A.deeper (envOfC qual (defScope st) s.heap.objs.size f cdv)) → VSs (cxOf CX0 P w K mg base N qual (defScope st) f cdv A outer s H E).nox Ts ρ true rest F)
    (hF : ∀ ns : List Int, ns.length ≤ 63 → ∃ rw, RowOk rw ∧ f1 (lawEn N.length ns) = some (.list rw) ∧ ∀ en', (∃ rw', en' = (lawEn N.length ns).set ρ (.own rw')) → F en' fun r => r = .rt (.bool true)) :
    FnOk P w K mg base CX0 (k + 1) f fd [sc] (spLaw K Ts) := by
  obtain ⟨oc, od, dV, kV, doc, pm, an, ct, osl, rfl, lk, hcd⟩ := D.ex
  refine fn_of lk hcd S (fun vs H Q E ⟨a, ns, h, _⟩ => by rw [h]; rfl) fun A outer s H vs Q E hr hsp => ?_
  rw [hb]
  refine ⟨_, (pss_cons (h1 A outer s H E hr) (h2 A outer s H E hr)).nox, ?_⟩
  obtain ⟨a, ns, rfl, hS, hns, ht, kk⟩ := hsp
  obtain ⟨rw, hrw, hf1, hFF⟩ := hF ns hns
  have hlen : (lawEn N.length ns).length = N.length := by simp [lawEn]; omega
  have rp : Rep K Ts H [] (L2.start N [.ref a]) H (lawEn N.length ns) := by
    have noX : ∀ {i : Nat} {x : Slot}, (lawEn N.length ns)[i + 1]? = some x → x = Slot.no := fun {i x} h => by
      unfold lawEn at h
      rw [List.getElem?_cons_succ, List.getElem?_replicate] at h
      split at h <;> cases h
      rfl
    refine ⟨by rw [hlen]; simp [L2.start]; omega, fun i d h => ?_, fun i es h => ?_, fun i j es es' a h => ?_, fun _ z => (nomatch z), Xt.refl H, ht⟩
    · cases i with
      | zero =>
        cases h
        exact ⟨.ref a, start_get rfl, .lst (sqL_mono (fun o n e => hide_of (fun z => nomatch z) e) hS) (DpAll.of_ints ns)⟩
      | succ i => exact absurd (noX h) (fun z => nomatch z)
    · cases i with
      | zero => cases h
      | succ i => exact absurd (noX h) (fun z => nomatch z)
    · cases i with
      | zero => cases h
      | succ i => exact absurd (noX h) (fun z => nomatch z)
  refine ⟨H, [], fun _ => none, lawEn N.length ns, .nx ((lawEn N.length ns).set ρ (.own rw)), ⟨[], fun _ z => (nomatch z), fun _ z => (nomatch z), rp, fun _ _ z => (nomatch z)⟩, ?_, fun σ' H' r' => ?_⟩
  · unfold sOwn
    rw [hf1]
    show (if ρ < (lawEn N.length ns).length then _ else _) = _
    rw [if_pos (by rw [hlen]; exact hρ)]
  · obtain ⟨O, a1, a2, rp', _⟩ := r'
    obtain ⟨aa, vs2, p1, _⟩ := rp'.own ρ rw (by rw [List.getElem?_set_self (by rw [hlen]; exact hρ)])
    refine ⟨aa, H, [], fun _ => none, (lawEn N.length ns).set ρ (.own rw), _, ⟨O, fun _ z => (nomatch z), ⟨by rw [List.length_set, hlen]; exact hρ, rw, hrw, by rw [List.set_set]; exact rp'⟩, p1, fun _ _ z => (nomatch z)⟩, hFF _ ⟨rw, rfl⟩, fun en' σ2 H2 hq => ?_, ⟨fun d v en' σ2 H2 hq _ q => ?_, fun _ b H2 hq => ?_⟩⟩
    · cases hq
    · cases hq
      cases q
      exact kk H2
    · cases hq
      exact kk H2
/-- a if t else b, with draws -/
def wIf (t : En → (Bool → Prop) → Prop) (F G : WF) : WF := fun en Q => t en fun b => if b = true then F en Q else G en Q
theorem we_if {X : Cx} {ρ : Nat} {pos : Pos} {c a b : Expr} {t : En → (Bool → Prop) → Prop} {F G : WF} (hc : WT X Ts ρ c t) (ha : WE X Ts ρ a F) (hb : WE X Ts ρ b G) : WE X Ts ρ (.IfExp c a b pos) (wIf t F G) := PE.imp (pe_ifExp hc ha hb) fun σ H Q ⟨He, O, en, Qd, rp, hF, kk⟩ =>
  ⟨He, O, en, _, rp, hF, fun b H' hq r' x => by
    cases b with
    | true => exact iteT ⟨He, O, en, Qd, r', hq, fun d v H2 h1 h2 h3 h4 => kk d v H2 h1 h2 h3 (x.trans h4)⟩
    | false => exact iteF ⟨He, O, en, Qd, r', hq, fun d v H2 h1 h2 h3 h4 => kk d v H2 h1 h2 h3 (x.trans h4)⟩⟩
end
/-! what is monotone -/
section
variable {ρ n : Nat} {F G : WF}
def MnA (F : En → (List PyData → Prop) → Prop) : Prop := ∀ en Q Q', (∀ d, Q d → Q' d) → F en Q → F en Q'
def McC (c : List PyData → (PyData → Prop) → Prop) : Prop := ∀ ds Q Q', (∀ d, Q d → Q' d) → c ds Q → c ds Q'
theorem mn_p {f : En → Option PyData} : Mn (wP ρ f) := fun en Q Q' h ⟨d, a, b⟩ => ⟨d, a, h _ b⟩
theorem mna_nil : MnA wNil := fun en Q Q' h a => h _ a
theorem mna_cons {Gs : En → (List PyData → Prop) → Prop} (hF : Mn F) (hG : MnA Gs) : MnA (wCons F Gs) := fun en Q Q' h a => hF en _ _ (fun x hx => hG en _ _ (fun xs hxs => h _ hxs) hx) a
theorem mn_draw {c : List PyData → (PyData → Prop) → Prop} {Gs : En → (List PyData → Prop) → Prop} (hc : McC c) (hG : MnA Gs) : Mn (wDraw n c Gs) := fun en Q Q' h a => hG en _ _ (fun ds ⟨h1, h2⟩ => ⟨h1, hc ds _ _ h h2⟩) a
theorem mn_call {c : List PyData → Option PyData} {Gs : En → (List PyData → Prop) → Prop} (hG : MnA Gs) : Mn (wCall n c Gs) := fun en Q Q' h a => hG en _ _ (fun ds ⟨h1, d, h2, h3⟩ => ⟨h1, d, h2, h _ h3⟩) a
theorem mn_2 {g : PyData → PyData → Option PyData} (hF : Mn F) (hG : Mn G) : Mn (w2 g F G) := fun en Q Q' h a => hF en _ _ (fun x hx => hG en _ _ (fun y ⟨d, h1, h2⟩ => ⟨d, h1, h _ h2⟩) hx) a
theorem mn_1 {g : PyData → Option PyData} (hF : Mn F) : Mn (w1 g F) := fun en Q Q' h a => hF en _ _ (fun x ⟨d, h1, h2⟩ => ⟨d, h1, h _ h2⟩) a
theorem mn_tup {Gs : En → (List PyData → Prop) → Prop} (hG : MnA Gs) : Mn (wTup Gs) := fun en Q Q' h a => hG en _ _ (fun ds ⟨h1, h2⟩ => ⟨h1, h _ h2⟩) a
theorem mn_lst {Gs : En → (List PyData → Prop) → Prop} (hG : MnA Gs) : Mn (wLst Gs) := fun en Q Q' h a => hG en _ _ (fun ds ⟨h1, h2⟩ => ⟨h1, h _ h2⟩) a
theorem mni_range (hF : Mn F) : MnI (wRange1 F) := fun en Q Q' h a => hF en _ _ (fun d ⟨j, h1, h2, h3, h4⟩ => ⟨j, h1, h2, h3, h _ h4⟩) a
theorem mni_it {f : En → Option (List PyData)} : MnI (wIt ρ f) := fun en Q Q' h ⟨d, a, b⟩ => ⟨d, a, h _ b⟩
theorem mc_taken : McC cTaken := fun ds Q Q' h ⟨m, h0, h1, h2, h3⟩ => ⟨m, h0, h1, h2, fun r a b => h _ (h3 r a b)⟩
theorem mc_pick : McC cPick := fun ds Q Q' h ⟨es, h0, h1, h2, h3⟩ => ⟨es, h0, h1, h2, fun d hd => h _ (h3 d hd)⟩
theorem mc_flow : McC cFlow := fun ds Q Q' h ⟨h0, h1⟩ => ⟨h0, fun n a b => h _ (h1 n a b)⟩
theorem mc_demands : McC cDemands := fun ds Q Q' h ⟨m, h0, h1, h2⟩ => ⟨m, h0, h1, fun ns a b => h _ (h2 ns a b)⟩
/-- items that are drawn one by one, each any of some -/
inductive All2 {α β : Type} (P : α → β → Prop) : List α → List β → Prop
  | nil : All2 P [] []
  | cons {x : α} {y : β} {xs : List α} {ys : List β} : P x y → All2 P xs ys → All2 P (x :: xs) (y :: ys)
theorem All2.len {α β : Type} {P : α → β → Prop} : ∀ {xs : List α} {ys : List β}, All2 P xs ys → ys.length = xs.length
  | _, _, .nil => rfl
  | _, _, .cons _ t => by rw [List.length_cons, List.length_cons, t.len]
theorem All2.all {α β : Type} {P : α → β → Prop} {R : β → Prop} (h : ∀ x y, P x y → R y) : ∀ {xs : List α} {ys : List β}, All2 P xs ys → ∀ y ∈ ys, R y
  | _, _, .nil => fun _ z => nomatch z
  | _, _, .cons a t => fun y hy => (List.mem_cons.mp hy).elim (fun e => e ▸ h _ _ a) (fun m => t.all h y m)
theorem wlc_all {α β : Type} {b : PyData → En → Option En} {F : WF} {en : En} {ea : α → PyData} {eb : β → PyData} {P : α → β → Prop} (hb : ∀ x, ∃ e1, b (ea x) en = some e1 ∧ ∀ Q : PyData → Prop, (∀ y, P x y → Q (eb y)) → F e1 Q) :
    ∀ (xs : List α) (Q : List PyData → Prop), (∀ ys : List β, All2 P xs ys → Q (ys.map eb)) → wlcGo b wYes F en (xs.map ea) Q
  | [], Q, h => h [] .nil
  | x :: r, Q, h => by
    obtain ⟨e1, h1, h2⟩ := hb x
    refine ⟨e1, h1, ?_⟩
    refine (show (if true = true then F e1 (fun y => wlcGo b wYes F en (r.map ea) fun o => Q (y :: o)) else wlcGo b wYes F en (r.map ea) Q) from ?_)
    rw [if_pos rfl]
    exact h2 _ fun y hy => wlc_all hb r _ fun ys hys => h (y :: ys) (.cons hy hys)
end
/-! a, b = x, [..]: the list is the body's own -/
def sParO (i j : Nat) (f g : En → Option PyData) : En → Option Fl := fun en => (f en).bind fun x => match g en with
  | some (.list ds) => if i < en.length ∧ j < en.length then some (.nx ((en.set i (.dat x)).set j (.own ds))) else none
  | _ => none
def lParO (ρ i j : Nat) (F : WF) (g : En → Option PyData) : LF := fun en Q => F en fun x => ∃ ds, (∀ rw, g (en.set ρ (.own rw)) = some (.list ds)) ∧ i < en.length ∧ j < en.length ∧ Q (.nx ((en.set i (.dat x)).set j (.own ds)))
def lPar3O (ρ i j l : Nat) (F G : WF) (g : En → Option PyData) : LF := fun en Q => F en fun x => G en fun y => ∃ ds, (∀ rw, g (en.set ρ (.own rw)) = some (.list ds)) ∧ i < en.length ∧ j < en.length ∧ l < en.length ∧ Q (.nx (((en.set i (.dat x)).set j (.dat y)).set l (.own ds)))
section
variable {X : Cx} {Ts : TsT} {ρ : Nat} {fin : Bool} {pos : Pos} {a b c : Expr}
theorem s_parO {i j : Nat} {x y : Str} {px py pt : Pos} {kt k2 pt2} {f g : En → Option PyData} (hc : X.calm = true) (hN : X.N.Nodup) (hi : X.N[i]? = some x) (hj : X.N[j]? = some y) (hij : i ≠ j)
    (hx : X.env.scope.names.lookup x = some .local) (hy : X.env.scope.names.lookup y = some .local) (ha : DE X Ts a f) (hb : DNew X Ts b g) (hw : swappedStores [.Tuple [.Name x px, .Name y py] kt pt] (.Tuple [a, b] k2 pt2) X.env = pure (some [x, y]))
    (hs1 : starEach [a, b] X.env = (false, eval a X.env) :: starEach [b] X.env := by rfl) (hs2 : starEach [b] X.env = (false, eval b X.env) :: starEach [] X.env := by rfl)
    (hs : swapsWithSole [.Tuple [.Name x px, .Name y py] kt pt] (.Tuple [a, b] k2 pt2) pos.line X.env = pure false := by rfl) : DS X Ts (.Assign [.Tuple [.Name x px, .Name y py] kt pt] (.Tuple [a, b] k2 pt2) pos) (sParO i j f g) :=
  PS.imp (ps_par hc hN hi hj hij hx hy (pa_cons ha (pa_cons hb pa_nil hs2) hs1) hw hs) fun D σ H ⟨He, O₀, Vz, en, r, rp, hf, k⟩ => by
    unfold sParO at hf
    obtain ⟨d1, h1, hf1⟩ := Option.bind_eq_some_iff.mp hf
    split at hf1
    · rename_i ds h2
      split at hf1
      · rename_i hlt
        cases hf1
        obtain ⟨O, a1, a2, rp, xv⟩ := rp
        refine tD.of rp h1 fun v H1 x1 r1 q1 => ⟨He, O, en, ds, r1, h2, fun p ws H2 x2 t2 na ha2 q2 => ⟨v, .ref p, rfl, k _ H2 ?_⟩⟩
        obtain ⟨r3, r4⟩ := (r1.setD hlt.1 q1).setO1 (i := j) (by simpa using hlt.2) x2 t2 na ha2 q2
        exact ⟨p :: O, fun b hb => List.mem_cons_of_mem _ (a1 b hb), a2, r3, xv.trans ((hide_mono x1).trans r4)⟩
      · cases hf1
    · cases hf1
theorem v_parO {i j : Nat} {x y : Str} {px py pt : Pos} {kt k2 pt2} {f : WF} {g : En → Option PyData} (hc : X.calm = true) (hN : X.N.Nodup) (hi : X.N[i]? = some x) (hj : X.N[j]? = some y) (hij : i ≠ j) (hiρ : i ≠ ρ) (hjρ : j ≠ ρ)
    (hx : X.env.scope.names.lookup x = some .local) (hy : X.env.scope.names.lookup y = some .local) (ha : WE X Ts ρ a f) (hb : DNew X Ts b g) (hw : swappedStores [.Tuple [.Name x px, .Name y py] kt pt] (.Tuple [a, b] k2 pt2) X.env = pure (some [x, y]))
    (hs1 : starEach [a, b] X.env = (false, eval a X.env) :: starEach [b] X.env := by rfl) (hs2 : starEach [b] X.env = (false, eval b X.env) :: starEach [] X.env := by rfl)
    (hs : swapsWithSole [.Tuple [.Name x px, .Name y py] kt pt] (.Tuple [a, b] k2 pt2) pos.line X.env = pure false := by rfl) : VS X Ts ρ fin (.Assign [.Tuple [.Name x px, .Name y py] kt pt] (.Tuple [a, b] k2 pt2) pos) (lParO ρ i j f g) :=
  PS.imp (ps_par hc hN hi hj hij hx hy (pa_cons ha (pa_cons hb pa_nil hs2) hs1) hw hs) fun D σ H ⟨aa, He, O₀, Vz, en, Q, ⟨O, s1, rp, hA, xv⟩, hF, k, _⟩ =>
    ⟨He, O, en, _, rp, hF, fun d v H1 ⟨ds, h2, hi', hj', hq⟩ r1 q1 x1 => by
      obtain ⟨hl, rw, hr, rp1⟩ := r1
      refine ⟨He, O, _, ds, rp1, h2 rw, fun p ws H2 x2 t2 na ha2 q2 => ⟨v, .ref p, rfl, k _ _ H2 hq ?_⟩⟩
      have r2 := rp1.setD (i := i) (by simpa using hi') q1
      obtain ⟨r3, r4⟩ := r2.setO1 (i := j) (by simpa using hj') x2 t2 na ha2 q2
      refine ⟨p :: O, fun b hb => List.mem_cons_of_mem _ (s1 b hb), ⟨by simpa using hl, rw, hr, ?_⟩, by rw [List.getElem?_set_ne hjρ, List.getElem?_set_ne hiρ]; exact hA, xv.trans (x1.1.trans r4)⟩
      rw [List.set_comm _ _ hjρ, List.set_comm _ _ hiρ]
      exact r3⟩
theorem v_par3O {i j l : Nat} {x y z : Str} {px py pz pt : Pos} {kt k2 pt2} {f h : WF} {g : En → Option PyData} (hc : X.calm = true) (hN : X.N.Nodup) (hi : X.N[i]? = some x) (hj : X.N[j]? = some y) (hl : X.N[l]? = some z) (hij : i ≠ j) (hil : i ≠ l) (hjl : j ≠ l) (hiρ : i ≠ ρ) (hjρ : j ≠ ρ) (hlρ : l ≠ ρ)
    (hx : X.env.scope.names.lookup x = some .local) (hy : X.env.scope.names.lookup y = some .local) (hz : X.env.scope.names.lookup z = some .local) (ha : WE X Ts ρ a f) (hb : WE X Ts ρ b h) (hcc : DNew X Ts c g) (hw : swappedStores [.Tuple [.Name x px, .Name y py, .Name z pz] kt pt] (.Tuple [a, b, c] k2 pt2) X.env = pure (some [x, y, z]))
    (hs1 : starEach [a, b, c] X.env = (false, eval a X.env) :: starEach [b, c] X.env := by rfl) (hs2 : starEach [b, c] X.env = (false, eval b X.env) :: starEach [c] X.env := by rfl) (hs3 : starEach [c] X.env = (false, eval c X.env) :: starEach [] X.env := by rfl)
    (hs : swapsWithSole [.Tuple [.Name x px, .Name y py, .Name z pz] kt pt] (.Tuple [a, b, c] k2 pt2) pos.line X.env = pure false := by rfl) : VS X Ts ρ fin (.Assign [.Tuple [.Name x px, .Name y py, .Name z pz] kt pt] (.Tuple [a, b, c] k2 pt2) pos) (lPar3O ρ i j l f h g) :=
  PS.imp (ps_par3 hc hN hi hj hl hij hil hjl hx hy hz (pa_cons ha (pa_cons hb (pa_cons hcc pa_nil hs3) hs2) hs1) hw hs) fun D σ H ⟨aa, He, O₀, Vz, en, Q, ⟨O, s1, rp, hA, xv⟩, hF, k, _⟩ =>
    ⟨He, O, en, _, rp, hF, fun d v H1 h1 r1 q1 x1 => ⟨He, O, en, _, r1, h1, fun d2 w H2 ⟨ds, h2, hi', hj', hl', hq⟩ r2 q2 x2 => by
      obtain ⟨hl0, rw, hr, rp2⟩ := r2
      refine ⟨He, O, _, ds, rp2, h2 rw, fun p ws H3 x3 t3 na ha2 q3 => ⟨v, w, .ref p, rfl, k _ _ H3 hq ?_⟩⟩
      have r3 := (rp2.setD (i := i) (by simpa using hi') (Dp.mono x2.1 q1)).setD (i := j) (by simpa using hj') q2
      obtain ⟨r4, r5⟩ := r3.setO1 (i := l) (by simpa using hl') x3 t3 na ha2 q3
      refine ⟨p :: O, fun b hb => List.mem_cons_of_mem _ (s1 b hb), ⟨by simpa using hl0, rw, hr, ?_⟩, by rw [List.getElem?_set_ne hlρ, List.getElem?_set_ne hjρ, List.getElem?_set_ne hiρ]; exact hA, xv.trans (x1.1.trans (x2.1.trans r5))⟩
      rw [List.set_comm _ _ hlρ, List.set_comm _ _ hjρ, List.set_comm _ _ hiρ]
      exact r4⟩⟩
end
end DN
set_option Elab.async false
set_option linter.all false
set_option maxRecDepth 100000
set_option maxHeartbeats 4000000
namespace DN
open PySem PySem.Spec PyProof.Rows L2
/-! ### the end -/
section
variable {K : PySem.W.Frag} {x qual : Str} {st : Stmt} {f : Addr} {fd : FuncData}
theorem df_of {dvs : List V} (F : FunD K x qual (defArgs st) (defBody st) (defScope st) dvs [] f fd) : ∃ cdv, DF K x qual st f fd cdv := by
  obtain ⟨oc, od, dV, kV, doc, pm, an, cdv, ct, osl, rfl, lk, hcd, hD, _⟩ := F.ex
  exact ⟨cdv, df_mk lk hcd F.kp⟩
theorem df_gen {dvs : List V} (F : FunD K x qual (defArgs st) (defBody st) (defScope st) dvs [] (He.ga K x) fd) : DF K x qual st (He.ga K x) fd (.ref (He.codeOf K (x, none))) := by
  obtain ⟨oc, od, dV, kV, doc, pm, an, cdv, ct, osl, rfl, lk, hcd, hD, _⟩ := F.ex
  obtain ⟨c, rfl⟩ := He.codeIn_ref hcd
  have e1 : He.codeOf K (x, none) = c := He.codeOf_eq (p := (x, none)) lk rfl
  rw [e1]
  exact df_mk lk hcd F.kp
end
structure TfOk (h : Heap) (K : PySem.W.Frag) (cs : List (Addr × Addr)) : Prop where
  empty : ∀ p ∈ cs, h.get? p.2 = some { cls := .none, data := .fields #[] }
  out : ∀ p ∈ cs, K.lookup p.2 = none
  hd : ∀ p ∈ cs, PySem.W.CodeHd h p.1 p.2
theorem tf_ok {fa : List He.Fa} {fn : List He.DefD} {ts : List He.Tab} {tf : List He.Defn} {ex : PySem.W.Frag → Bool} {w : World} {h : Heap} {K : PySem.W.Frag} (X : K.In h) (c : He.SaysX fa fn ts tf ex w h K) : TfOk h K (tf.map (He.cT K)) :=
  ⟨fun p hp => by obtain ⟨a, ha, rfl⟩ := List.mem_map.mp hp; exact c.empty a ha, fun p hp => by obtain ⟨a, ha, rfl⟩ := List.mem_map.mp hp; exact c.out a ha, fun p hp => by obtain ⟨a, ha, rfl⟩ := List.mem_map.mp hp; exact PySem.W.codeHd_of_K X (c.hd a ha)⟩
theorem end_atL {l : PySem.W.OpenLaw} {w : World} {K : PySem.W.Frag} {h : Heap} {mg : Str → Option Value} {fa : Addr} {k : Nat} {x : Str} {fd : FuncData} {cs : List (Addr × Addr)} (gs ls : List Addr) (hg : ∀ P ∈ gs, ∃ p ∈ cs, p.2 = P) (hl : ∀ P ∈ ls, ∃ p ∈ cs, p.2 = P) (hd : ∀ P ∈ ls, P ∉ gs) (T : TfOk h K cs)
    (hb : ∀ (s : Shared) (us : List Value), us.length = [x].length → BindsTo s fd ⟨us, []⟩ ([x].zip us))
    (hF : ∀ base : Heap, K.In base → base.Ns mainGlobals mg → (∀ p ∈ cs, LamX.TabB base mg p.1 p.2) → FnOk l.prog w K mg base CX0 k fa fd [x] (spLaw K ⟨gs, ls⟩)) : LamX.LawAtS l w K CX0 k 63 x mg fa h :=
  ⟨fd, cs, spLaw K ⟨gs, ls⟩, T.empty, T.out, T.hd, fun s u => hb s [u] rfl, fun H a ns hl' _ hT hS => ⟨a, ns, rfl, hS, hl', ⟨fun P hP => by
    obtain ⟨p, hp, rfl⟩ := hg P hP
    exact ⟨#[], hT p hp, by simp [TriplesOk]⟩, fun P hP => by
    obtain ⟨p, hp, rfl⟩ := hl P hP
    exact LamX.TabS.nil (hT p hp), hd⟩, fun _ => rfl⟩, hF⟩
theorem end_at {l : PySem.W.OpenLaw} {w : World} {K : PySem.W.Frag} {h : Heap} {mg : Str → Option Value} {fa : Addr} {k : Nat} {x : Str} {fd : FuncData} {cs : List (Addr × Addr)} (T : TfOk h K cs)
    (hb : ∀ (s : Shared) (us : List Value), us.length = [x].length → BindsTo s fd ⟨us, []⟩ ([x].zip us))
    (hF : ∀ base : Heap, K.In base → base.Ns mainGlobals mg → (∀ p ∈ cs, LamX.TabB base mg p.1 p.2) → FnOk l.prog w K mg base CX0 k fa fd [x] (spLaw K ⟨cs.map (·.2), []⟩)) : LamX.LawAtS l w K CX0 k 63 x mg fa h :=
  end_atL (cs.map (·.2)) [] (fun P hP => by
    obtain ⟨p, hp, rfl⟩ := List.mem_map.mp hP
    exact ⟨p, hp, rfl⟩) (fun P hP => nomatch hP) (fun P hP => nomatch hP) T hb hF
theorem end_at2 {l : PySem.W.OpenLaw} {w : World} {K : PySem.W.Frag} {h : Heap} {mg : Str → Option Value} {fa : Addr} {k : Nat} {x : Str} {fd : FuncData} {tg tl : List He.Defn} (hd : ∀ P ∈ (tl.map (He.cT K)).map (·.2), P ∉ (tg.map (He.cT K)).map (·.2)) (T : TfOk h K ((tg ++ tl).map (He.cT K)))
    (hb : ∀ (s : Shared) (us : List Value), us.length = [x].length → BindsTo s fd ⟨us, []⟩ ([x].zip us))
    (hF : ∀ base : Heap, K.In base → base.Ns mainGlobals mg → (∀ p ∈ (tg ++ tl).map (He.cT K), LamX.TabB base mg p.1 p.2) → FnOk l.prog w K mg base CX0 k fa fd [x] (spLaw K ⟨(tg.map (He.cT K)).map (·.2), (tl.map (He.cT K)).map (·.2)⟩)) : LamX.LawAtS l w K CX0 k 63 x mg fa h :=
  end_atL _ _ (fun P hP => by
    obtain ⟨p, hp, rfl⟩ := List.mem_map.mp hP
    exact ⟨p, by rw [List.map_append]; exact List.mem_append_left _ hp, rfl⟩) (fun P hP => by
    obtain ⟨p, hp, rfl⟩ := List.mem_map.mp hP
    exact ⟨p, by rw [List.map_append]; exact List.mem_append_right _ hp, rfl⟩) hd T hb hF
end DN
set_option Elab.async false
set_option linter.all false
set_option maxRecDepth 100000
set_option maxHeartbeats 4000000
/-! The typed layer: what a denotation makes of encoded data, as a function of Lean's own data. -/
namespace DN
open PySem PySem.Spec PyProof.Rows L2
section
variable {α β γ δ σ : Type}
abbrev eI : Int → PyData := .int
abbrev eB : Bool → PyData := .bool
abbrev eS : Str → PyData := .str
abbrev eA : PyData → PyData := fun d => d
def eU : Unit → PyData := fun _ => .none
def eR (e : α → PyData) (l : List α) : PyData := .tuple (l.map e)
def eL (e : α → PyData) (l : List α) : PyData := .list (l.map e)
def eO (e : α → PyData) : Option α → PyData
  | none => .none
  | some x => e x
def e0 : Unit → PyData := fun _ => .tuple []
def e1 (a : α → PyData) (p : α) : PyData := .tuple [a p]
def e2 (a : α → PyData) (b : β → PyData) (p : α × β) : PyData := .tuple [a p.1, b p.2]
def e3 (a : α → PyData) (b : β → PyData) (c : γ → PyData) (p : α × β × γ) : PyData := .tuple [a p.1, b p.2.1, c p.2.2]
def e4 (a : α → PyData) (b : β → PyData) (c : γ → PyData) (d : δ → PyData) (p : α × β × γ × δ) : PyData := .tuple [a p.1, b p.2.1, c p.2.2.1, d p.2.2.2]
/-! native operations -/
def mulO (x y : Int) : Option Int := if cMul x y = true then some (x * y) else none
def divO (x y : Int) : Option Int := if cDiv x y = true then some (x / y) else none
def modO (x y : Int) : Option Int := if cMod x y = true then some (x.fmod y) else none
def catO (x y : List α) : Option (List α) := if x.length + y.length ≤ 1000000 then some (x ++ y) else none
def repO (l : List α) (k : Int) : Option (List α) := if l.length ≠ 0 ∧ 1 ≤ k ∧ k ≤ 1000 ∧ l.length ≤ 1000 then some (List.replicate k.toNat l).flatten else none
def eqO (x y : PyData) : Option Bool := if (SeqAt.shaped x && SeqAt.shaped y) = true then some (PyData.eqv x y) else none
def maxO (l : List Int) : Option Int := if l.isEmpty = true then none else some (maxL l)
def minO (l : List Int) : Option Int := if l.isEmpty = true then none else some (minL l)
def max2 (x y : Int) : Int := if y > x then y else x
def min2 (x y : Int) : Int := if y < x then y else x
def abs1 (x : Int) : Int := if x < 0 then -x else x
def cutT (l : List α) (lo hi : Option Int) : List α := (l.drop (HT.sIx l.length 0 lo)).take (HT.sIx l.length l.length hi - HT.sIx l.length 0 lo)
def dispO (l : List α) : Option (List α) := if l.length ≤ 64 then some l else none
def iteO (c : Option Bool) (a b : Option α) : Option α := c.bind fun k => match k with
  | true => a
  | false => b
def andO (c d : Option Bool) : Option Bool := iteO c d (some false)
def orO (c d : Option Bool) : Option Bool := iteO c (some true) d
def range1O (n : Int) : Option (List Int) := if -1000000 ≤ n ∧ n ≤ 1000000 then some ((List.range n.toNat).map fun (i : Nat) => (0 + (i : Int))) else none
def range2O (m n : Int) : Option (List Int) := if -1000000 ≤ m ∧ m ≤ 1000000 ∧ -1000000 ≤ n ∧ n ≤ 1000000 then some ((List.range (n - m).toNat).map fun (i : Nat) => (m + (i : Int))) else none
def compO (T : α → Option Bool) (B : α → Option β) : List α → Option (List β)
  | [] => some []
  | x :: r => (T x).bind fun k => match k with
    | true => (B x).bind fun y => (compO T B r).bind fun ys => some (y :: ys)
    | false => compO T B r
theorem compO_cons (T : α → Option Bool) (B : α → Option β) (x : α) (r : List α) : compO T B (x :: r) = (T x).bind fun k => match k with
    | true => (B x).bind fun y => (compO T B r).bind fun ys => some (y :: ys)
    | false => compO T B r := rfl
def compL (T : α → Option Bool) (B : α → Option β) (l : List α) : Option (List β) := if l.length ≤ 1000000 then compO T B l else none
def yesO : α → Option Bool := fun _ => some true
def comp2O (T : α → Option Bool) (M : α → Option (List β)) (T2 : α → β → Option Bool) (B : α → β → Option γ) : List α → Option (List γ)
  | [] => some []
  | x :: r => (T x).bind fun k => match k with
    | true => (M x).bind fun l => (compO (T2 x) (B x) l).bind fun ys => (comp2O T M T2 B r).bind fun zs => some (ys ++ zs)
    | false => comp2O T M T2 B r
theorem comp2O_cons (T : α → Option Bool) (M : α → Option (List β)) (T2 : α → β → Option Bool) (B : α → β → Option γ) (x : α) (r : List α) : comp2O T M T2 B (x :: r) = (T x).bind fun k => match k with
    | true => (M x).bind fun l => (compO (T2 x) (B x) l).bind fun ys => (comp2O T M T2 B r).bind fun zs => some (ys ++ zs)
    | false => comp2O T M T2 B r := rfl
def comp2L (T : α → Option Bool) (M : α → Option (List β)) (T2 : α → β → Option Bool) (B : α → β → Option γ) (l : List α) : Option (List γ) :=
  (comp2O T M T2 B l).bind fun o => if o.length ≤ 1000000 then some o else none
def allO (ev : Bool) (B : α → Option Bool) : List α → Option Bool
  | [] => some ev
  | x :: r => (B x).bind fun k => if k = ev then allO ev B r else some k
theorem allO_cons (ev : Bool) (B : α → Option Bool) (x : α) (r : List α) : allO ev B (x :: r) = (B x).bind fun k => if k = ev then allO ev B r else some k := rfl
def appO (l : List α) (x : α) : Option (List α) := if l.length ≤ 1000000 then some (l ++ [x]) else none
def foldO (Bd : α → σ → Option σ) : List α → σ → Option σ
  | [], s => some s
  | x :: r, s => (Bd x s).bind (foldO Bd r)
def thenJ (K : σ → Option (β ⊕ γ)) (o : β ⊕ σ) : Option (β ⊕ γ) := match o with
  | .inl v => some (.inl v)
  | .inr s => K s
def foldJ (Bd : α → σ → Option (β ⊕ σ)) : List α → σ → Option (β ⊕ σ)
  | [], s => some (.inr s)
  | x :: r, s => (Bd x s).bind (thenJ (foldJ Bd r))
def whileO (T : σ → Option Bool) (Bd : σ → Option σ) : Nat → σ → Option σ
  | 0, _ => none
  | n + 1, s => (T s).bind fun k => match k with
    | true => (Bd s).bind (whileO T Bd n)
    | false => some s
def outJ (K : σ → Option β) (o : β ⊕ σ) : Option β := match o with
  | .inl v => some v
  | .inr s => K s
end

/-! encodings that can be compared -/
structure Enc {α : Type} [DecidableEq α] (k : Nat) (e : α → PyData) : Prop where
  lay : ∀ a, PyData.canLay0 (e a) = true
  dep : ∀ a, PyData.depth (e a) ≤ k
  eq : ∀ a b, PyData.eqv (e a) (e b) = decide (a = b)
theorem Enc.sh {α : Type} [DecidableEq α] {k : Nat} {e : α → PyData} (E : Enc k e) (hk : k ≤ 64) (a : α) : SeqAt.shaped (e a) = true := by
  unfold SeqAt.shaped
  rw [E.lay]
  have := E.dep a
  rw [decide_eq_true (by omega)]
  rfl

section
variable {α β γ δ σ : Type} {en : En} {f g h : En → Option PyData} {ea : α → PyData} {eb : β → PyData} {ec : γ → PyData} {ed : δ → PyData} {A : Option α} {B : Option β} {C : Option γ} {D : Option δ}
/-! ### expressions -/
theorem t_var {i : Nat} {e : α → PyData} {v : α} (h : en[i]? = some (.dat (e v))) : fVar i en = (some v).map e := by
  unfold fVar
  rw [h]
  rfl
theorem t_own {i : Nat} {e : α → PyData} {v : List α} (h : en[i]? = some (.own (v.map e))) : fOwn i en = (some v).map (eL e) := by
  unfold fOwn
  rw [h]
  rfl
theorem t_int {i : Int} : fLit (.int i) en = (some i).map eI := rfl
theorem t_bl {b : Bool} : fLit (.bool b) en = (some b).map eB := rfl
theorem t_str {s : Str} : fLit (.str s) en = (some s).map eS := rfl
theorem t_non : fLit .none en = (some ()).map eU := rfl
theorem t_f2 {G : PyData → PyData → Option PyData} {h : α → β → Option γ} (hG : ∀ x y, G (ea x) (eb y) = (h x y).map ec) (pa : f en = A.map ea) (pb : g en = B.map eb) : f2 G f g en = (A.bind fun x => B.bind fun y => h x y).map ec := by
  unfold f2
  rw [pa, pb]
  cases A with
  | none => rfl
  | some a => cases B with
    | none => rfl
    | some b => exact hG a b
theorem t_f1 {G : PyData → Option PyData} {h : α → Option γ} (hG : ∀ x, G (ea x) = (h x).map ec) (pa : f en = A.map ea) : f1 G f en = (A.bind h).map ec := by
  unfold f1
  rw [pa]
  cases A with
  | none => rfl
  | some a => exact hG a
theorem g_add (x y : Int) : gPlus (eI x) (eI y) = (some (x + y)).map eI := rfl
theorem g_sub (x y : Int) : (gI fun i j => .int (i - j)) (eI x) (eI y) = (some (x - y)).map eI := rfl
theorem g_mul (x y : Int) : gTimes (eI x) (eI y) = (mulO x y).map eI := by
  show (if cMul x y = true then some (PyData.int (x * y)) else none) = _
  unfold mulO
  split <;> rfl
theorem g_div (x y : Int) : (gIc cDiv fun i j => .int (i / j)) (eI x) (eI y) = (divO x y).map eI := by
  show (if cDiv x y = true then some (PyData.int (x / y)) else none) = _
  unfold divO
  split <;> rfl
theorem g_mod (x y : Int) : (gIc cMod fun i j => .int (i.fmod j)) (eI x) (eI y) = (modO x y).map eI := by
  show (if cMod x y = true then some (PyData.int (x.fmod y)) else none) = _
  unfold modO
  split <;> rfl
theorem g_addR {e : α → PyData} (x y : List α) : gPlus (eR e x) (eR e y) = (catO x y).map (eR e) := by
  show (if (x.map e).length + (y.map e).length ≤ 1000000 then some (PyData.tuple (x.map e ++ y.map e)) else none) = _
  unfold catO eR
  rw [List.length_map, List.length_map]
  split
  · simp
  · rfl
theorem g_addL {e : α → PyData} (x y : List α) : gPlus (eL e x) (eL e y) = (catO x y).map (eL e) := by
  show (if (x.map e).length + (y.map e).length ≤ 1000000 then some (PyData.list (x.map e ++ y.map e)) else none) = _
  unfold catO eL
  rw [List.length_map, List.length_map]
  split
  · simp
  · rfl
theorem g_repR {e : α → PyData} (x : List α) (k : Int) : gTimes (eR e x) (eI k) = (repO x k).map (eR e) := by
  show (if x.map e ≠ [] ∧ 1 ≤ k ∧ k ≤ 1000 ∧ (x.map e).length ≤ 1000 then some (PyData.tuple (List.replicate k.toNat (x.map e)).flatten) else none) = _
  unfold repO eR
  rw [List.length_map]
  have h1 : (x.map e ≠ []) ↔ (x.length ≠ 0) := by cases x <;> simp
  by_cases h : x.length ≠ 0 ∧ 1 ≤ k ∧ k ≤ 1000 ∧ x.length ≤ 1000
  · rw [if_pos h, if_pos ⟨h1.mpr h.1, h.2⟩]
    simp [List.map_flatten, List.map_replicate]
  · rw [if_neg h, if_neg (fun z => h ⟨h1.mp z.1, z.2⟩)]
    rfl
theorem g_lt (x y : Int) : (gI fun i j => .bool (decide (i < j))) (eI x) (eI y) = (some (decide (x < y))).map eB := rfl
theorem g_le (x y : Int) : (gI fun i j => .bool (decide (i ≤ j))) (eI x) (eI y) = (some (decide (x ≤ y))).map eB := rfl
theorem g_gt (x y : Int) : (gI fun i j => .bool (decide (j < i))) (eI x) (eI y) = (some (decide (y < x))).map eB := rfl
theorem g_ge (x y : Int) : (gI fun i j => .bool (decide (j ≤ i))) (eI x) (eI y) = (some (decide (y ≤ x))).map eB := rfl
theorem g_max2 (x y : Int) : (gI fun i j => .int (if j > i then j else i)) (eI x) (eI y) = (some (max2 x y)).map eI := rfl
theorem g_min2 (x y : Int) : (gI fun i j => .int (if j < i then j else i)) (eI x) (eI y) = (some (min2 x y)).map eI := rfl
theorem g_gcd (x y : Int) : (gI fun i j => .int ((Nat.gcd i.natAbs j.natAbs : Nat) : Int)) (eI x) (eI y) = (some ((Nat.gcd x.natAbs y.natAbs : Nat) : Int)).map eI := rfl
theorem g_eq [DecidableEq α] {e : α → PyData} {n : Nat} (E : Enc n e) (hn : Nat.ble n 64 = true) (x y : α) : gEq (e x) (e y) = (some (decide (x = y))).map eB := by
  unfold gEq
  rw [if_pos (by rw [E.sh (Nat.le_of_ble_eq_true hn), E.sh (Nat.le_of_ble_eq_true hn)]; rfl), E.eq]
  rfl
theorem g_ne [DecidableEq α] {e : α → PyData} {n : Nat} (E : Enc n e) (hn : Nat.ble n 64 = true) (x y : α) : gNe (e x) (e y) = (some (!decide (x = y))).map eB := by
  unfold gNe
  rw [if_pos (by rw [E.sh (Nat.le_of_ble_eq_true hn), E.sh (Nat.le_of_ble_eq_true hn)]; rfl), E.eq]
  rfl
theorem g_eqA (x : α) (y : β) : gEq (ea x) (eb y) = (eqO (ea x) (eb y)).map eB := by
  unfold gEq eqO
  split <;> rfl
theorem g_neA (x : α) (y : β) : gNe (ea x) (eb y) = ((eqO (ea x) (eb y)).map (!·)).map eB := by
  unfold gNe eqO
  split <;> rfl
theorem g_isN {e : α → PyData} (he : ∀ x, isNone (e x) = false) (x : Option α) (y : Unit) : gIsN (eO e x) (eU y) = (some x.isNone).map eB := by
  cases x with
  | none => rfl
  | some x =>
    show (if isNone PyData.none = true then some (PyData.bool (isNone (e x))) else none) = _
    rw [he x]
    rfl
theorem g_notN {e : α → PyData} (he : ∀ x, isNone (e x) = false) (x : Option α) (y : Unit) : gNotN (eO e x) (eU y) = (some x.isSome).map eB := by
  cases x with
  | none => rfl
  | some x =>
    show (if isNone PyData.none = true then some (PyData.bool (!isNone (e x))) else none) = _
    rw [he x]
    rfl
theorem atI_map {e : α → PyData} (l : List α) (i : Int) : atI (l.map e) i = (atI l i).map e := by
  unfold atI
  rw [List.length_map]
  cases ixN l.length i with
  | none => rfl
  | some j => simp
theorem g_ixR {e : α → PyData} (l : List α) (i : Int) : gIx (eR e l) (eI i) = (atI l i).map e := atI_map l i
theorem g_ixL {e : α → PyData} (l : List α) (i : Int) : gIx (eL e l) (eI i) = (atI l i).map e := atI_map l i
theorem t_ixc {k : Int} {pr : α → β} (h : ∀ p, gIx (ea p) (.int k) = some (eb (pr p))) (pa : f en = A.map ea) : fIx f (fLit (.int k)) en = (A.bind fun p => some (pr p)).map eb := by
  unfold fIx f2
  rw [pa]
  cases A with
  | none => rfl
  | some a => exact h a
theorem t_part {o : Option Int} (p : f en = o.map eI) : fPart f en = o.bind fun i => some (some i) := by
  unfold fPart
  rw [p]
  cases o <;> rfl
theorem t_nopart : fNoPart en = some none := rfl
theorem cutD_map {e : α → PyData} (l : List α) (lo hi : Option Int) : cutD (l.map e) lo hi = (cutT l lo hi).map e := by
  unfold cutD cutT
  rw [List.length_map, List.map_take, List.map_drop]
theorem t_cut {fl fh : En → Option (Option Int)} {L H : Option (Option Int)} {e : List α → PyData} {A : Option (List α)} (hG : ∀ l lo hi, gCut (e l) lo hi = some (e (cutT l lo hi))) (pa : f en = A.map e) (pl : fl en = L) (ph : fh en = H) :
    fCut f fl fh en = (A.bind fun l => L.bind fun lo => H.bind fun hi => some (cutT l lo hi)).map e := by
  unfold fCut
  rw [pa, pl, ph]
  cases A with
  | none => rfl
  | some l => cases L with
    | none => rfl
    | some lo => cases H with
      | none => rfl
      | some hi => exact hG l lo hi
theorem g_cutR {e : α → PyData} (l : List α) (lo hi : Option Int) : gCut (eR e l) lo hi = some (eR e (cutT l lo hi)) := by
  show some (PyData.tuple (cutD (l.map e) lo hi)) = _
  rw [cutD_map]
  rfl
theorem g_cutL {e : α → PyData} (l : List α) (lo hi : Option Int) : gCut (eL e l) lo hi = some (eL e (cutT l lo hi)) := by
  show some (PyData.list (cutD (l.map e) lo hi)) = _
  rw [cutD_map]
  rfl
/-! displays -/
theorem t_tup0 : fTup fNil en = (some ()).map e0 := rfl
theorem t_tup1 (pa : f en = A.map ea) : fTup (fCons f fNil) en = A.map (e1 ea) := by
  unfold fTup fCons fNil
  rw [pa]
  cases A <;> rfl
theorem t_tup2 (pa : f en = A.map ea) (pb : g en = B.map eb) : fTup (fCons f (fCons g fNil)) en = (A.bind fun x => B.bind fun y => some (x, y)).map (e2 ea eb) := by
  unfold fTup fCons fNil
  rw [pa, pb]
  cases A <;> cases B <;> rfl
theorem t_tup3 (pa : f en = A.map ea) (pb : g en = B.map eb) (pc : h en = C.map ec) : fTup (fCons f (fCons g (fCons h fNil))) en = (A.bind fun x => B.bind fun y => C.bind fun z => some (x, y, z)).map (e3 ea eb ec) := by
  unfold fTup fCons fNil
  rw [pa, pb, pc]
  cases A <;> cases B <;> cases C <;> rfl
theorem t_tup4 {k : En → Option PyData} (pa : f en = A.map ea) (pb : g en = B.map eb) (pc : h en = C.map ec) (pd : k en = D.map ed) : fTup (fCons f (fCons g (fCons h (fCons k fNil)))) en = (A.bind fun x => B.bind fun y => C.bind fun z => D.bind fun w => some (x, y, z, w)).map (e4 ea eb ec ed) := by
  unfold fTup fCons fNil
  rw [pa, pb, pc, pd]
  cases A <;> cases B <;> cases C <;> cases D <;> rfl
theorem t_nil {e : α → PyData} : fNil en = (some ([] : List α)).map (List.map e) := rfl
theorem t_cons {gs : En → Option (List PyData)} {L : Option (List α)} (pa : f en = A.map ea) (pr : gs en = L.map (List.map ea)) : fCons f gs en = (A.bind fun x => L.bind fun xs => some (x :: xs)).map (List.map ea) := by
  unfold fCons
  rw [pa, pr]
  cases A <;> cases L <;> rfl
theorem t_tupR {gs : En → Option (List PyData)} {L : Option (List α)} (pr : gs en = L.map (List.map ea)) : fTup gs en = (L.bind dispO).map (eR ea) := by
  unfold fTup
  rw [pr]
  cases L with
  | none => rfl
  | some l =>
    show (if (l.map ea).length ≤ 64 then some (PyData.tuple (l.map ea)) else none) = (dispO l).map _
    unfold dispO
    rw [List.length_map]
    split <;> rfl
theorem t_lstL {gs : En → Option (List PyData)} {L : Option (List α)} (pr : gs en = L.map (List.map ea)) : fLst gs en = (L.bind dispO).map (eL ea) := by
  unfold fLst
  rw [pr]
  cases L with
  | none => rfl
  | some l =>
    show (if (l.map ea).length ≤ 64 then some (PyData.list (l.map ea)) else none) = (dispO l).map _
    unfold dispO
    rw [List.length_map]
    split <;> rfl
/-! built-ins -/
theorem g_lenR {e : α → PyData} (l : List α) : gLen (eR e l) = (some (l.length : Int)).map eI := by
  show some (PyData.int ((l.map e).length : Nat)) = _
  rw [List.length_map]
  rfl
theorem g_lenL {e : α → PyData} (l : List α) : gLen (eL e l) = (some (l.length : Int)).map eI := by
  show some (PyData.int ((l.map e).length : Nat)) = _
  rw [List.length_map]
  rfl
theorem g_sumR (l : List Int) : gSum (eR eI l) = (some l.sum).map eI := by
  show Option.map _ (intsOf (l.map PyData.int)) = _
  rw [intsOf_map]
  rfl
theorem g_sumL (l : List Int) : gSum (eL eI l) = (some l.sum).map eI := by
  show Option.map _ (intsOf (l.map PyData.int)) = _
  rw [intsOf_map]
  rfl
theorem g_maxL (l : List Int) : gMaxL (eL eI l) = (maxO l).map eI := by
  show Option.bind (intsOf (l.map PyData.int)) _ = _
  rw [intsOf_map]
  unfold maxO
  show (if l.isEmpty = true then none else some (PyData.int (maxL l))) = _
  split <;> rfl
theorem g_maxT (l : List Int) : gMaxT (eR eI l) = (maxO l).map eI := by
  show Option.bind (intsOf (l.map PyData.int)) _ = _
  rw [intsOf_map]
  unfold maxO
  show (if l.isEmpty = true then none else some (PyData.int (maxL l))) = _
  split <;> rfl
theorem g_minT (l : List Int) : gMinT (eR eI l) = (minO l).map eI := by
  show Option.bind (intsOf (l.map PyData.int)) _ = _
  rw [intsOf_map]
  unfold minO
  show (if l.isEmpty = true then none else some (PyData.int (minL l))) = _
  split <;> rfl
theorem g_tupR {e : α → PyData} (l : List α) : gTuple (eR e l) = (some l).map (eR e) := rfl
theorem g_tupL {e : α → PyData} (l : List α) : gTuple (eL e l) = (some l).map (eR e) := rfl
theorem g_abs (x : Int) : gAbs (eI x) = (some (abs1 x)).map eI := rfl
theorem g_int (x : Int) : gInt (eI x) = (some x).map eI := rfl
theorem g_neg (x : Int) : gNeg (eI x) = (some (-x)).map eI := rfl
theorem t_isi {q : PyData → Bool} {b : α → Bool} (hq : ∀ x, q (ea x) = b x) (pa : f en = A.map ea) : fIsi q f en = (A.bind fun x => some (b x)).map eB := by
  unfold fIsi f1
  rw [pa]
  cases A with
  | none => rfl
  | some a => show some (PyData.bool (q (ea a))) = _; rw [hq]; rfl
/-! bools -/
theorem t_and {P Q : Option Bool} (p : f en = P.map eB) (q : g en = Q.map eB) : fAnd f g en = (andO P Q).map eB := by
  unfold fAnd andO iteO
  rw [p]
  cases P with
  | none => rfl
  | some b => cases b with
    | true => exact q
    | false => rfl
theorem t_or {P Q : Option Bool} (p : f en = P.map eB) (q : g en = Q.map eB) : fOr f g en = (orO P Q).map eB := by
  unfold fOr orO iteO
  rw [p]
  cases P with
  | none => rfl
  | some b => cases b with
    | true => rfl
    | false => exact q
theorem t_not {P : Option Bool} (p : f en = P.map eB) : fNot f en = (P.bind fun b => some (!b)).map eB := by
  unfold fNot
  rw [p]
  cases P <;> rfl
theorem t_T {P : Option Bool} (p : f en = P.map eB) : fT f en = P := by
  unfold fT
  rw [p]
  cases P <;> rfl
section
variable {k l : En → Option Bool} {P Q : Option Bool}
theorem t_kand (p : k en = P) (q : l en = Q) : kAnd k l en = andO P Q := by
  unfold kAnd andO iteO
  rw [p]
  cases P with
  | none => rfl
  | some b => cases b with
    | true => exact q
    | false => rfl
theorem t_kor (p : k en = P) (q : l en = Q) : kOr k l en = orO P Q := by
  unfold kOr orO iteO
  rw [p]
  cases P with
  | none => rfl
  | some b => cases b with
    | true => rfl
    | false => exact q
theorem t_knot (p : k en = P) : kNot k en = P.bind fun b => some (!b) := by
  unfold kNot
  rw [p]
  cases P <;> rfl
theorem t_yes : kYes en = some true := rfl
theorem t_if {A B : Option α} (p : k en = P) (pa : f en = A.map ea) (pb : g en = B.map ea) : fIf k f g en = (iteO P A B).map ea := by
  unfold fIf iteO
  rw [p]
  cases P with
  | none => rfl
  | some b => cases b with
    | true => exact pa
    | false => exact pb
end
theorem t_some (pa : f en = A.map ea) : f en = (A.bind fun x => some (some x)).map (eO ea) := by
  rw [pa]
  cases A <;> rfl
theorem t_none {e : β → PyData} {A : Option Unit} (pa : f en = A.map eU) : f en = (A.bind fun _ => some (none : Option β)).map (eO e) := by
  rw [pa]
  cases A <;> rfl
/-- another encoding of the same -/
theorem t_as {u : α → β} (h : ∀ x, ea x = eb (u x)) (pa : f en = A.map ea) : f en = (A.bind fun x => some (u x)).map eb := by
  rw [pa]
  cases A with
  | none => rfl
  | some a => exact congrArg some (h a)
theorem t_chain {A B C : Option Int} (pa : f en = A.map eI) (pb : g en = B.map eI) (pc : h en = C.map eI) : fChain gLe gLe f g h en = (A.bind fun x => B.bind fun y => iteO (some (decide (x ≤ y))) (C.bind fun z => some (decide (y ≤ z))) (some false)).map eB := by
  unfold fChain
  rw [pa, pb]
  cases A with
  | none => rfl
  | some x => cases B with
    | none => rfl
    | some y =>
      rw [pc]
      have e : gLe (eI x) (eI y) = some (PyData.bool (decide (x ≤ y))) := rfl
      simp only [Option.map_some, Option.bind_some, e]
      cases decide (x ≤ y) with
      | true => cases C <;> rfl
      | false => rfl
/-! iterables -/
theorem i_range1 {A : Option Int} (pa : f en = A.map eI) : iRange1 f en = (A.bind range1O).map (List.map eI) := by
  unfold iRange1
  rw [pa]
  cases A with
  | none => rfl
  | some n =>
    show (if -1000000 ≤ n ∧ n ≤ 1000000 then some (rangeD 0 n.toNat) else none) = (range1O n).map _
    unfold range1O rangeD
    split
    · simp
    · rfl
theorem i_range2 {A B : Option Int} (pa : f en = A.map eI) (pb : g en = B.map eI) : iRange2 f g en = (A.bind fun m => B.bind fun n => range2O m n).map (List.map eI) := by
  unfold iRange2
  rw [pa, pb]
  cases A with
  | none => rfl
  | some m => cases B with
    | none => rfl
    | some n =>
      show (if -1000000 ≤ m ∧ m ≤ 1000000 ∧ -1000000 ≤ n ∧ n ≤ 1000000 then some (rangeD m (n - m).toNat) else none) = (range2O m n).map _
      unfold range2O rangeD
      split
      · simp
      · rfl
theorem i_seq {e : α → PyData} {s : σ → PyData} {u : σ → List α} {A : Option σ} (h : ∀ x, items (s x) = some ((u x).map e)) (pa : f en = A.map s) : iSeq f en = (A.bind fun x => some (u x)).map (List.map e) := by
  unfold iSeq
  rw [pa]
  cases A with
  | none => rfl
  | some x => exact h x
theorem i_seqR {e : α → PyData} {A : Option (List α)} (pa : f en = A.map (eR e)) : iSeq f en = A.map (List.map e) := by
  unfold iSeq
  rw [pa]
  cases A <;> rfl
theorem i_seqL {e : α → PyData} {A : Option (List α)} (pa : f en = A.map (eL e)) : iSeq f en = A.map (List.map e) := by
  unfold iSeq
  rw [pa]
  cases A <;> rfl
theorem it_R {e : α → PyData} (l : List α) : items (eR e l) = some (l.map e) := rfl
theorem it_L {e : α → PyData} (l : List α) : items (eL e l) = some (l.map e) := rfl
theorem pairs_zip : ∀ (xs : List α) (ys : List β), pairs (xs.map ea) (ys.map eb) = (xs.zip ys).map (e2 ea eb)
  | [], _ => by simp [pairs]
  | _ :: _, [] => by simp [pairs]
  | x :: xs, y :: ys => by
    show PyData.tuple [ea x, eb y] :: pairs (xs.map ea) (ys.map eb) = _
    rw [pairs_zip xs ys]
    rfl
theorem i_zip {A : Option (List α)} {B : Option (List β)} {s : List α → PyData} {t : List β → PyData} (h : ∀ x y, iZip (fun _ => some (s x)) (fun _ => some (t y)) [] = some (pairs (x.map ea) (y.map eb))) (pa : f en = A.map s) (pb : g en = B.map t) : iZip f g en = (A.bind fun x => B.bind fun y => some (x.zip y)).map (List.map (e2 ea eb)) := by
  unfold iZip
  rw [pa, pb]
  cases A with
  | none => rfl
  | some x => cases B with
    | none => rfl
    | some y => exact (h x y).trans (congrArg some (pairs_zip x y))
/-! comprehensions -/
section
variable {it : En → Option (List PyData)} {b b2 : PyData → En → Option En} {t t2 : En → Option Bool} {vs vs2 : List Nat} {T : α → Option Bool} {Bf : α → Option β} {L : Option (List α)}
theorem lcGo_eq (hb : ∀ x, ∃ e1, b (ea x) en = some e1 ∧ t e1 = T x ∧ f e1 = (Bf x).map eb) : ∀ l : List α, lcGo b t f en (l.map ea) = (compO T Bf l).map (List.map eb)
  | [] => rfl
  | x :: r => by
    obtain ⟨e1, h1, h2, h3⟩ := hb x
    have ih := lcGo_eq hb r
    show (b (ea x) en).bind _ = _
    rw [h1, Option.bind_some, h2, h3, ih, compO_cons]
    cases T x with
    | none => rfl
    | some k => cases k with
      | true =>
        show (Option.bind (Option.map eb (Bf x)) _) = _
        cases Bf x with
        | none => rfl
        | some y =>
          show Option.map _ (Option.map (List.map eb) (compO T Bf r)) = Option.map (List.map eb) ((compO T Bf r).bind _)
          cases compO T Bf r <;> rfl
      | false => rfl
theorem t_lc (hi : it en = L.map (List.map ea)) (hb : ∀ x, ∃ e1, b (ea x) (wipeE en vs) = some e1 ∧ t e1 = T x ∧ f e1 = (Bf x).map eb) : fLc it b t f vs en = (L.bind fun l => compL T Bf l).map (eL eb) := by
  unfold fLc
  rw [hi]
  cases L with
  | none => rfl
  | some l =>
    show (if (l.map ea).length ≤ 1000000 then (lcGo b t f (wipeE en vs) (l.map ea)).map PyData.list else none) = (compL T Bf l).map _
    unfold compL
    rw [List.length_map, lcGo_eq hb]
    split
    · cases compO T Bf l <;> rfl
    · rfl
theorem lc2Go_eq {it2 : En → Option (List PyData)} {M : α → Option (List β)} {T2 : α → β → Option Bool} {B2 : α → β → Option γ}
    (hb : ∀ x, ∃ e1, b (ea x) en = some e1 ∧ t e1 = T x ∧ it2 e1 = (M x).map (List.map eb) ∧ ∀ y, ∃ e2, b2 (eb y) (wipeE e1 vs2) = some e2 ∧ t2 e2 = T2 x y ∧ f e2 = (B2 x y).map ec) :
    ∀ l : List α, lc2Go b t it2 b2 t2 f vs2 en (l.map ea) = (comp2O T M T2 B2 l).map (List.map ec)
  | [] => rfl
  | x :: r => by
    obtain ⟨e1, h1, h2, h3, h4⟩ := hb x
    have ih := lc2Go_eq hb r
    show (b (ea x) en).bind _ = _
    rw [h1, Option.bind_some, h2, h3, ih, comp2O_cons]
    cases T x with
    | none => rfl
    | some k => cases k with
      | true =>
        simp only [Option.bind_some, if_true]
        cases M x with
        | none => rfl
        | some l =>
          simp only [Option.bind_some, Option.map_some]
          rw [lcGo_eq h4]
          cases compO (T2 x) (B2 x) l with
          | none => rfl
          | some ys =>
            simp only [Option.bind_some, Option.map_some]
            cases comp2O T M T2 B2 r with
            | none => rfl
            | some zs => exact congrArg some List.map_append.symm
      | false => rfl
theorem t_lc2 {it2 : En → Option (List PyData)} {M : α → Option (List β)} {T2 : α → β → Option Bool} {B2 : α → β → Option γ} (hi : it en = L.map (List.map ea))
    (hb : ∀ x, ∃ e1, b (ea x) (wipeE en vs) = some e1 ∧ t e1 = T x ∧ it2 e1 = (M x).map (List.map eb) ∧ ∀ y, ∃ e2, b2 (eb y) (wipeE e1 vs2) = some e2 ∧ t2 e2 = T2 x y ∧ f e2 = (B2 x y).map ec) :
    fLc2 it b t it2 b2 t2 f vs vs2 en = (L.bind fun l => comp2L T M T2 B2 l).map (eL ec) := by
  unfold fLc2
  rw [hi]
  cases L with
  | none => rfl
  | some l =>
    show (lc2Go b t it2 b2 t2 f vs2 (wipeE en vs) (l.map ea)).bind _ = (comp2L T M T2 B2 l).map _
    rw [lc2Go_eq hb]
    unfold comp2L
    cases comp2O T M T2 B2 l with
    | none => rfl
    | some o =>
      show (if (o.map ec).length ≤ 1000000 then some (PyData.list (o.map ec)) else none) = Option.map _ (if o.length ≤ 1000000 then some o else none)
      rw [List.length_map]
      split <;> rfl
theorem t_all {ev : Bool} {Bf : α → Option Bool} (hi : it en = L.map (List.map ea)) (hb : ∀ x, ∃ e1, b (ea x) (wipeE en vs) = some e1 ∧ f e1 = (Bf x).map eB) : fAll ev it b f vs en = (L.bind fun l => allO ev Bf l).map eB := by
  unfold fAll
  rw [hi]
  cases L with
  | none => rfl
  | some l =>
    show allGo ev b f (wipeE en vs) (l.map ea) = (allO ev Bf l).map eB
    clear hi
    induction l with
    | nil => rfl
    | cons x r ih =>
      obtain ⟨e1, h1, h2⟩ := hb x
      show (b (ea x) (wipeE en vs)).bind _ = _
      rw [h1, Option.bind_some, h2, allO_cons]
      cases Bf x with
      | none => rfl
      | some k =>
        show (if k = ev then allGo ev b f (wipeE en vs) (r.map ea) else some (PyData.bool k)) = Option.map eB (if k = ev then allO ev Bf r else some k)
        split
        · exact ih
        · rfl
end
/-! calls -/
section
variable {S : List PyData → Option PyData} {ζ ε : Type} {er : ζ → PyData} {k l : En → Option PyData} {ee : ε → PyData} {E : Option ε}
theorem t_call1 {N : α → Option ζ} (hS : ∀ x, S [ea x] = (N x).map er) (pa : f en = A.map ea) : fCall 1 S (fCons f fNil) en = (A.bind fun x => N x).map er := by
  unfold fCall fCons fNil
  rw [pa]
  cases A with
  | none => rfl
  | some a => exact hS a
theorem t_call2 {N : α → β → Option ζ} (hS : ∀ x y, S [ea x, eb y] = (N x y).map er) (pa : f en = A.map ea) (pb : g en = B.map eb) : fCall 2 S (fCons f (fCons g fNil)) en = (A.bind fun x => B.bind fun y => N x y).map er := by
  unfold fCall fCons fNil
  rw [pa, pb]
  cases A with
  | none => rfl
  | some a => cases B with
    | none => rfl
    | some b => exact hS a b
theorem t_call3 {N : α → β → γ → Option ζ} (hS : ∀ x y z, S [ea x, eb y, ec z] = (N x y z).map er) (pa : f en = A.map ea) (pb : g en = B.map eb) (pc : h en = C.map ec) : fCall 3 S (fCons f (fCons g (fCons h fNil))) en = (A.bind fun x => B.bind fun y => C.bind fun z => N x y z).map er := by
  unfold fCall fCons fNil
  rw [pa, pb, pc]
  cases A with
  | none => rfl
  | some a => cases B with
    | none => rfl
    | some b => cases C with
      | none => rfl
      | some c => exact hS a b c
theorem t_call4 {N : α → β → γ → δ → Option ζ} (hS : ∀ x y z u, S [ea x, eb y, ec z, ed u] = (N x y z u).map er) (pa : f en = A.map ea) (pb : g en = B.map eb) (pc : h en = C.map ec) (pd : k en = D.map ed) :
    fCall 4 S (fCons f (fCons g (fCons h (fCons k fNil)))) en = (A.bind fun x => B.bind fun y => C.bind fun z => D.bind fun u => N x y z u).map er := by
  unfold fCall fCons fNil
  rw [pa, pb, pc, pd]
  cases A with
  | none => rfl
  | some a => cases B with
    | none => rfl
    | some b => cases C with
      | none => rfl
      | some c => cases D with
        | none => rfl
        | some d => exact hS a b c d
theorem t_call5 {N : α → β → γ → δ → ε → Option ζ} (hS : ∀ x y z u v, S [ea x, eb y, ec z, ed u, ee v] = (N x y z u v).map er) (pa : f en = A.map ea) (pb : g en = B.map eb) (pc : h en = C.map ec) (pd : k en = D.map ed) (pe : l en = E.map ee) :
    fCall 5 S (fCons f (fCons g (fCons h (fCons k (fCons l fNil))))) en = (A.bind fun x => B.bind fun y => C.bind fun z => D.bind fun u => E.bind fun v => N x y z u v).map er := by
  unfold fCall fCons fNil
  rw [pa, pb, pc, pd, pe]
  cases A with
  | none => rfl
  | some a => cases B with
    | none => rfl
    | some b => cases C with
      | none => rfl
      | some c => cases D with
        | none => rfl
        | some d => cases E with
          | none => rfl
          | some e => exact hS a b c d e
end
end
end DN
set_option Elab.async false
set_option linter.all false
set_option maxRecDepth 100000
set_option maxHeartbeats 4000000
/-! The typed layer: statements. -/
namespace DN
open PySem PySem.Spec PyProof.Rows L2
section
variable {α β γ σ τ ζ ξ : Type}
/-- what returns -/
def rtO (e : α → PyData) (A : Option α) : Option Fl := A.map fun v => .rt (e v)
/-- what goes on: the slots told by s, but for some that are not looked at any more -/
def NX (r : Option Fl) (A : Option σ) (env : σ → ζ → En) : Prop := match A with
  | none => r = none
  | some s => ∃ z, r = some (.nx (env s z))
/-- what returns or goes on -/
def JX (r : Option Fl) (A : Option (β ⊕ σ)) (e : β → PyData) (env : σ → ζ → En) : Prop := match A with
  | none => r = none
  | some (.inl v) => r = some (.rt (e v))
  | some (.inr s) => ∃ z, r = some (.nx (env s z))
variable {en : En} {f g h : En → Option PyData} {F G H : En → Option Fl} {ea : α → PyData} {eb : β → PyData} {ec : γ → PyData} {er : ξ → PyData} {A : Option α} {B : Option β} {C : Option γ} {k : En → Option Bool} {P : Option Bool} {i j l : Nat} {env : σ → ζ → En} {env2 : τ → ζ → En}
theorem NX.none' {r : Option Fl} (h : r = none) : NX r (none : Option σ) env := h
theorem NX.some' {r : Option Fl} {s : σ} {z : ζ} (h : r = some (.nx (env s z))) : NX r (some s) env := ⟨z, h⟩
/-! returning blocks -/
theorem r_ret (p : f en = A.map ea) : sRet f en = rtO ea A := by
  unfold sRet rtO
  rw [p]
  cases A <;> rfl
theorem r_if {A B : Option ξ} (p : k en = P) (ha : F en = rtO er A) (hb : G en = rtO er B) : sIf k F G en = rtO er (iteO P A B) := by
  unfold sIf iteO
  rw [p]
  cases P with
  | none => rfl
  | some b => cases b with
    | true => exact ha
    | false => exact hb
theorem r_never {e : ξ → PyData} : sNever en = rtO e none := rfl
theorem r_seq_set {K : α → Option ξ} (p : f en = A.map ea) (hi : i < en.length) (q : ∀ x, G (en.set i (.dat (ea x))) = rtO er (K x)) : sSeq (sSet i f) G en = rtO er (A.bind K) := by
  unfold sSeq sSet bName
  rw [p]
  cases A with
  | none => rfl
  | some a =>
    show (match (if i < en.length then some (en.set i (.dat (ea a))) else none).map Fl.nx with
      | some (.nx e) => G e
      | r => r) = _
    rw [if_pos hi]
    exact q a
theorem r_seq_bind {b : PyData → En → Option En} {envb : α → En} {K : α → Option ξ} (p : f en = A.map ea) (hb : ∀ x, b (ea x) en = some (envb x)) (q : ∀ x, G (envb x) = rtO er (K x)) : sSeq (sBind b f) G en = rtO er (A.bind K) := by
  unfold sSeq sBind
  rw [p]
  cases A with
  | none => rfl
  | some a =>
    show (match (b (ea a) en).map Fl.nx with
      | some (.nx e) => G e
      | r => r) = _
    rw [hb]
    exact q a
theorem r_seq_par {K : α → β → Option ξ} (p : f en = A.map ea) (p2 : g en = B.map eb) (hi : i < en.length) (hj : j < en.length) (q : ∀ x y, G ((en.set i (.dat (ea x))).set j (.dat (eb y))) = rtO er (K x y)) : sSeq (sPar i j f g) G en = rtO er (A.bind fun x => B.bind fun y => K x y) := by
  unfold sSeq sPar bName
  rw [p, p2]
  cases A with
  | none => rfl
  | some a => cases B with
    | none => rfl
    | some b =>
      simp only [Option.map_some, Option.bind_some, hi, hj, if_true, List.length_set]
      exact q a b
theorem r_seq_par3 {K : α → β → γ → Option ξ} (p : f en = A.map ea) (p2 : g en = B.map eb) (p3 : h en = C.map ec) (hi : i < en.length) (hj : j < en.length) (hl : l < en.length) (q : ∀ x y z, G (((en.set i (.dat (ea x))).set j (.dat (eb y))).set l (.dat (ec z))) = rtO er (K x y z)) :
    sSeq (sPar3 i j l f g h) G en = rtO er (A.bind fun x => B.bind fun y => C.bind fun z => K x y z) := by
  unfold sSeq sPar3 bName
  rw [p, p2, p3]
  cases A with
  | none => rfl
  | some a => cases B with
    | none => rfl
    | some b => cases C with
      | none => rfl
      | some c =>
        simp only [Option.map_some, Option.bind_some, hi, hj, hl, if_true, List.length_set]
        exact q a b c
theorem r_seq_own {A : Option (List α)} {K : List α → Option ξ} (p : f en = A.map (eL ea)) (hi : i < en.length) (q : ∀ x : List α, G (en.set i (.own (x.map ea))) = rtO er (K x)) : sSeq (sOwn i f) G en = rtO er (A.bind K) := by
  unfold sSeq sOwn
  rw [p]
  cases A with
  | none => rfl
  | some a =>
    show (match (if i < en.length then some (Fl.nx (en.set i (.own (a.map ea)))) else none) with
      | some (.nx e) => G e
      | r => r) = _
    rw [if_pos hi]
    exact q a
theorem r_seq_rel {a : List α} {K : Option ξ} (ho : en[i]? = some (.own (a.map ea))) (q : G (en.set i (.dat (eL ea a))) = rtO er K) : sSeq (sRel i) G en = rtO er K := by
  unfold sSeq sRel
  rw [ho]
  exact q
theorem r_seq_expr {K : Option ξ} (p : f en = A.map ea) (q : G en = rtO er K) : sSeq (sExpr f) G en = rtO er (A.bind fun _ => K) := by
  unfold sSeq sExpr
  rw [p]
  cases A with
  | none => rfl
  | some a => exact q
theorem r_seq_ifret {A K : Option ξ} (p : k en = P) (ha : F en = rtO er A) (q : G en = rtO er K) : sSeq (sIf k F sNil) G en = rtO er (iteO P A K) := by
  unfold sSeq sIf iteO
  rw [p]
  cases P with
  | none => rfl
  | some b => cases b with
    | true =>
      show (match F en with
        | some (.nx e) => G e
        | r => r) = _
      rw [ha]
      cases A <;> rfl
    | false => exact q
theorem r_seq_nx {A : Option σ} {K : σ → Option ξ} (p : NX (F en) A env) (q : ∀ s z, G (env s z) = rtO er (K s)) : sSeq F G en = rtO er (A.bind K) := by
  unfold sSeq
  cases A with
  | none =>
    have e : F en = none := p
    rw [e]
    rfl
  | some s =>
    obtain ⟨z, e⟩ := p
    rw [e]
    exact q s z
theorem r_seq_j {A : Option (ξ ⊕ σ)} {K : σ → Option ξ} (p : JX (F en) A er env) (q : ∀ s z, G (env s z) = rtO er (K s)) : sSeq F G en = rtO er (A.bind (outJ K)) := by
  unfold sSeq
  cases A with
  | none =>
    have e : F en = none := p
    rw [e]
    rfl
  | some o => cases o with
    | inl v =>
      have e : F en = some (.rt (er v)) := p
      rw [e]
      rfl
    | inr s =>
      obtain ⟨z, e⟩ := p
      rw [e]
      exact q s z
/-! blocks that go on -/
theorem n_nil {s : σ} {z : ζ} (h : en = env s z) : NX (sNil en) (some s) env := ⟨z, by rw [h]; rfl⟩
theorem n_never : NX (sNever en) (none : Option σ) env := rfl
theorem n_set {K : α → σ} (p : f en = A.map ea) (hi : i < en.length) (q : ∀ x, ∃ z, en.set i (.dat (ea x)) = env (K x) z) : NX (sSet i f en) (A.bind fun x => some (K x)) env := by
  unfold sSet bName
  rw [p]
  cases A with
  | none => exact rfl
  | some a =>
    obtain ⟨z, e⟩ := q a
    refine ⟨z, ?_⟩
    show (if i < en.length then some (en.set i (.dat (ea a))) else none).map Fl.nx = _
    rw [if_pos hi, e]
    rfl
theorem n_seq_set {K : α → Option σ} (p : f en = A.map ea) (hi : i < en.length) (q : ∀ x, NX (G (en.set i (.dat (ea x)))) (K x) env) : NX (sSeq (sSet i f) G en) (A.bind K) env := by
  unfold sSeq sSet bName
  rw [p]
  cases A with
  | none => exact rfl
  | some a =>
    show NX (match (if i < en.length then some (en.set i (.dat (ea a))) else none).map Fl.nx with
      | some (.nx e) => G e
      | r => r) (K a) env
    rw [if_pos hi]
    exact q a
theorem n_seq_bind {b : PyData → En → Option En} {envb : α → En} {K : α → Option σ} (p : f en = A.map ea) (hb : ∀ x, b (ea x) en = some (envb x)) (q : ∀ x, NX (G (envb x)) (K x) env) : NX (sSeq (sBind b f) G en) (A.bind K) env := by
  unfold sSeq sBind
  rw [p]
  cases A with
  | none => exact rfl
  | some a =>
    show NX (match (b (ea a) en).map Fl.nx with
      | some (.nx e) => G e
      | r => r) (K a) env
    rw [hb]
    exact q a
theorem n_bind {b : PyData → En → Option En} {K : α → σ} (p : f en = A.map ea) (q : ∀ x, ∃ z, b (ea x) en = some (env (K x) z)) : NX (sBind b f en) (A.bind fun x => some (K x)) env := by
  unfold sBind
  rw [p]
  cases A with
  | none => exact rfl
  | some a =>
    obtain ⟨z, e⟩ := q a
    exact ⟨z, by show (b (ea a) en).map Fl.nx = _; rw [e]; rfl⟩
theorem n_seq_par {K : α → β → Option σ} (p : f en = A.map ea) (p2 : g en = B.map eb) (hi : i < en.length) (hj : j < en.length) (q : ∀ x y, NX (G ((en.set i (.dat (ea x))).set j (.dat (eb y)))) (K x y) env) : NX (sSeq (sPar i j f g) G en) (A.bind fun x => B.bind fun y => K x y) env := by
  unfold sSeq sPar bName
  rw [p, p2]
  cases A with
  | none => exact rfl
  | some a => cases B with
    | none => exact rfl
    | some b =>
      simp only [Option.map_some, Option.bind_some, hi, hj, if_true, List.length_set]
      exact q a b
theorem n_par {K : α → β → σ} (p : f en = A.map ea) (p2 : g en = B.map eb) (hi : i < en.length) (hj : j < en.length) (q : ∀ x y, ∃ z, (en.set i (.dat (ea x))).set j (.dat (eb y)) = env (K x y) z) : NX (sPar i j f g en) (A.bind fun x => B.bind fun y => some (K x y)) env := by
  unfold sPar bName
  rw [p, p2]
  cases A with
  | none => exact rfl
  | some a => cases B with
    | none => exact rfl
    | some b =>
      obtain ⟨z, e⟩ := q a b
      refine ⟨z, ?_⟩
      simp only [Option.map_some, Option.bind_some, hi, hj, if_true, List.length_set, e]
theorem n_seq_own {A : Option (List α)} {K : List α → Option σ} (p : f en = A.map (eL ea)) (hi : i < en.length) (q : ∀ x : List α, NX (G (en.set i (.own (x.map ea)))) (K x) env) : NX (sSeq (sOwn i f) G en) (A.bind K) env := by
  unfold sSeq sOwn
  rw [p]
  cases A with
  | none => exact rfl
  | some a =>
    show NX (match (if i < en.length then some (Fl.nx (en.set i (.own (a.map ea)))) else none) with
      | some (.nx e) => G e
      | r => r) (K a) env
    rw [if_pos hi]
    exact q a
theorem n_app {v : List α} {K : List α → σ} (p : f en = A.map ea) (ho : en[i]? = some (.own (v.map ea))) (q : ∀ w : List α, ∃ z, en.set i (.own (w.map ea)) = env (K w) z) : NX (sApp i f en) (A.bind fun x => (appO v x).bind fun w => some (K w)) env := by
  unfold sApp
  rw [p]
  cases A with
  | none => exact rfl
  | some a =>
    show NX (match en[i]? with
      | some (.own ds) => if ds.length ≤ 1000000 then some (.nx (en.set i (.own (ds ++ [ea a])))) else none
      | _ => none) ((appO v a).bind fun w => some (K w)) env
    rw [ho]
    show NX (if (v.map ea).length ≤ 1000000 then some (.nx (en.set i (.own (v.map ea ++ [ea a])))) else none) _ env
    unfold appO
    rw [List.length_map]
    split
    · obtain ⟨z, e⟩ := q (v ++ [a])
      refine ⟨z, ?_⟩
      rw [← e, List.map_append]
      rfl
    · exact rfl
theorem n_seq_app {v : List α} {K : List α → Option σ} (p : f en = A.map ea) (ho : en[i]? = some (.own (v.map ea))) (q : ∀ w : List α, NX (G (en.set i (.own (w.map ea)))) (K w) env) : NX (sSeq (sApp i f) G en) (A.bind fun x => (appO v x).bind K) env := by
  unfold sSeq sApp
  rw [p]
  cases A with
  | none => exact rfl
  | some a =>
    show NX (match (match en[i]? with
      | some (.own ds) => if ds.length ≤ 1000000 then some (Fl.nx (en.set i (.own (ds ++ [ea a])))) else none
      | _ => none) with
      | some (.nx e) => G e
      | r => r) ((appO v a).bind K) env
    rw [ho]
    show NX (match (if (v.map ea).length ≤ 1000000 then some (Fl.nx (en.set i (.own (v.map ea ++ [ea a])))) else none) with
      | some (.nx e) => G e
      | r => r) _ env
    unfold appO
    rw [List.length_map]
    split
    · rename_i hh
      split at hh
      · cases hh
        have := q (v ++ [a])
        rw [List.map_append] at this
        rw [if_pos (by assumption)]
        exact this
      · cases hh
    · rename_i hh
      split at hh
      · exact absurd rfl (hh _)
      · rw [if_neg (by assumption), if_neg (by assumption)]
        exact rfl
theorem n_seq_rel {a : List α} {K : Option σ} (ho : en[i]? = some (.own (a.map ea))) (q : NX (G (en.set i (.dat (eL ea a)))) K env) : NX (sSeq (sRel i) G en) K env := by
  unfold sSeq sRel
  rw [ho]
  exact q
theorem n_expr {s : σ} {z : ζ} (p : f en = A.map ea) (q : en = env s z) : NX (sExpr f en) (A.bind fun _ => some s) env := by
  unfold sExpr
  rw [p]
  cases A with
  | none => exact rfl
  | some a => exact ⟨z, by rw [← q]; rfl⟩
theorem n_seq_expr {K : Option σ} (p : f en = A.map ea) (q : NX (G en) K env) : NX (sSeq (sExpr f) G en) (A.bind fun _ => K) env := by
  unfold sSeq sExpr
  rw [p]
  cases A with
  | none => exact rfl
  | some a => exact q
theorem n_if {A B : Option σ} (p : k en = P) (ha : NX (F en) A env) (hb : NX (G en) B env) : NX (sIf k F G en) (iteO P A B) env := by
  unfold sIf iteO
  rw [p]
  cases P with
  | none => exact rfl
  | some b => cases b with
    | true => exact ha
    | false => exact hb
theorem n_seq {A : Option τ} {K : τ → Option σ} {ζ' : Type} {env2 : τ → ζ' → En} (p : NX (F en) A env2) (q : ∀ s z, NX (G (env2 s z)) (K s) env) : NX (sSeq F G en) (A.bind K) env := by
  unfold sSeq
  cases A with
  | none =>
    have e : F en = none := p
    rw [e]
    exact rfl
  | some s =>
    obtain ⟨z, e⟩ := p
    rw [e]
    exact q s z
theorem n_aug {x : Int} {o : Int → Int → Int} {K : Int → σ} {A : Option Int} (hv : en[i]? = some (.dat (.int x))) (p : f en = A.map eI) (q : ∀ y : Int, ∃ z, en.set i (.dat (.int y)) = env (K y) z) : NX (sAug i (gI fun a b => .int (o a b)) f en) (A.bind fun y => some (K (o x y))) env := by
  have hi : i < en.length := (List.getElem?_eq_some_iff.mp hv).1
  unfold sAug fVar bName
  rw [hv, p]
  cases A with
  | none => exact rfl
  | some a =>
    obtain ⟨z, e⟩ := q (o x a)
    refine ⟨z, ?_⟩
    show (if i < en.length then some (en.set i (.dat (.int (o x a)))) else none).map Fl.nx = _
    rw [if_pos hi, e]
    rfl
theorem n_seq_aug {x : Int} {o : Int → Int → Int} {K : Int → Option σ} {A : Option Int} (hv : en[i]? = some (.dat (.int x))) (p : f en = A.map eI) (q : ∀ y : Int, NX (G (en.set i (.dat (.int y)))) (K y) env) : NX (sSeq (sAug i (gI fun a b => .int (o a b)) f) G en) (A.bind fun y => K (o x y)) env := by
  have hi : i < en.length := (List.getElem?_eq_some_iff.mp hv).1
  unfold sSeq sAug fVar bName
  rw [hv, p]
  cases A with
  | none => exact rfl
  | some a =>
    show NX (match (if i < en.length then some (en.set i (.dat (.int (o x a)))) else none).map Fl.nx with
      | some (.nx e) => G e
      | r => r) _ env
    rw [if_pos hi]
    exact q (o x a)
theorem n_for {it : En → Option (List PyData)} {b : PyData → En → Option En} {L : Option (List α)} {Bd : α → σ → Option σ} {s : σ} {z : ζ} (he : en = env s z) (hi : it en = L.map (List.map ea)) (hb : ∀ x s z, ∃ e1, b (ea x) (env s z) = some e1 ∧ NX (F e1) (Bd x s) env) : NX (sFor it b F en) (L.bind fun l => foldO Bd l s) env := by
  subst he
  unfold sFor
  rw [hi]
  cases L with
  | none => exact rfl
  | some l =>
    show NX (forGo b F (l.map ea) (env s z)) (foldO Bd l s) env
    clear hi
    induction l generalizing s z with
    | nil => exact ⟨z, rfl⟩
    | cons x r ih =>
      obtain ⟨e1, h1, h2⟩ := hb x s z
      have ef : foldO Bd (x :: r) s = (Bd x s).bind (foldO Bd r) := rfl
      show NX ((b (ea x) (env s z)).bind _) _ env
      rw [h1, Option.bind_some, ef]
      cases hB : Bd x s with
      | none =>
        rw [hB] at h2
        have e : F e1 = none := h2
        rw [e]
        exact rfl
      | some s' =>
        rw [hB] at h2
        obtain ⟨z', e⟩ := h2
        rw [e]
        exact ih
theorem n_while {N : Nat} {T : σ → Option Bool} {Bd : σ → Option σ} {s : σ} {z : ζ} (he : en = env s z) (ht : ∀ s z, k (env s z) = T s) (hb : ∀ s z, NX (F (env s z)) (Bd s) env) : NX (sWhile (fun _ => N) k F en) (whileO T Bd N s) env := by
  subst he
  show NX (whGo k F N (env s z)) _ env
  induction N generalizing s z with
  | zero => exact rfl
  | succ n ih =>
    have ew : whileO T Bd (n + 1) s = (T s).bind fun k => match k with
      | true => (Bd s).bind (whileO T Bd n)
      | false => some s := rfl
    show NX (match k (env s z) with
      | some true => match F (env s z) with
        | some (.nx e2) => whGo k F n e2
        | some (.ct e2) => whGo k F n e2
        | some (.bk e2) => some (.nx e2)
        | some (.rt v) => some (.rt v)
        | none => none
      | some false => some (.nx (env s z))
      | none => none) _ env
    rw [ht, ew]
    cases T s with
    | none => exact rfl
    | some c => cases c with
      | false => exact ⟨z, rfl⟩
      | true =>
        have h2 := hb s z
        show NX (match F (env s z) with
          | some (.nx e2) => whGo k F n e2
          | some (.ct e2) => whGo k F n e2
          | some (.bk e2) => some (.nx e2)
          | some (.rt v) => some (.rt v)
          | none => none) ((Bd s).bind (whileO T Bd n)) env
        cases hB : Bd s with
        | none =>
          rw [hB] at h2
          have e : F (env s z) = none := h2
          rw [e]
          exact rfl
        | some s' =>
          rw [hB] at h2
          obtain ⟨z', e⟩ := h2
          rw [e]
          exact ih
/-! blocks that return or go on -/
theorem j_of_n {A : Option σ} {e : ξ → PyData} {r : Option Fl} (h : NX r A env) : JX r (A.bind fun s => some (.inr s)) e env := by
  cases A with
  | none => exact h
  | some s => exact h
theorem j_of_r {A : Option ξ} {e : ξ → PyData} {r : Option Fl} (h : r = rtO e A) : JX r (A.bind fun v => some (.inl v)) e env := by
  subst h
  cases A <;> exact rfl
theorem j_if {A B : Option (ξ ⊕ σ)} {e : ξ → PyData} (p : k en = P) (ha : JX (F en) A e env) (hb : JX (G en) B e env) : JX (sIf k F G en) (iteO P A B) e env := by
  unfold sIf iteO
  rw [p]
  cases P with
  | none => exact rfl
  | some b => cases b with
    | true => exact ha
    | false => exact hb
theorem j_seq {A : Option (ξ ⊕ τ)} {K : τ → Option (ξ ⊕ σ)} {e : ξ → PyData} {ζ' : Type} {env2 : τ → ζ' → En} (p : JX (F en) A e env2) (q : ∀ s z, JX (G (env2 s z)) (K s) e env) : JX (sSeq F G en) (A.bind (thenJ K)) e env := by
  unfold sSeq
  cases A with
  | none =>
    have e : F en = none := p
    rw [e]
    exact rfl
  | some o => cases o with
    | inl v =>
      have e : F en = some (.rt (e v)) := p
      rw [e]
      exact rfl
    | inr s =>
      obtain ⟨z, e⟩ := p
      rw [e]
      exact q s z
theorem j_seq_n {A : Option τ} {K : τ → Option (ξ ⊕ σ)} {e : ξ → PyData} {ζ' : Type} {env2 : τ → ζ' → En} (p : NX (F en) A env2) (q : ∀ s z, JX (G (env2 s z)) (K s) e env) : JX (sSeq F G en) (A.bind K) e env := by
  unfold sSeq
  cases A with
  | none =>
    have e : F en = none := p
    rw [e]
    exact rfl
  | some s =>
    obtain ⟨z, e⟩ := p
    rw [e]
    exact q s z
theorem j_seq_set {K : α → Option (ξ ⊕ σ)} {e : ξ → PyData} (p : f en = A.map ea) (hi : i < en.length) (q : ∀ x, JX (G (en.set i (.dat (ea x)))) (K x) e env) : JX (sSeq (sSet i f) G en) (A.bind K) e env := by
  unfold sSeq sSet bName
  rw [p]
  cases A with
  | none => exact rfl
  | some a =>
    show JX (match (if i < en.length then some (en.set i (.dat (ea a))) else none).map Fl.nx with
      | some (.nx e) => G e
      | r => r) (K a) e env
    rw [if_pos hi]
    exact q a
theorem j_seq_par {K : α → β → Option (ξ ⊕ σ)} {e : ξ → PyData} (p : f en = A.map ea) (p2 : g en = B.map eb) (hi : i < en.length) (hj : j < en.length) (q : ∀ x y, JX (G ((en.set i (.dat (ea x))).set j (.dat (eb y)))) (K x y) e env) : JX (sSeq (sPar i j f g) G en) (A.bind fun x => B.bind fun y => K x y) e env := by
  unfold sSeq sPar bName
  rw [p, p2]
  cases A with
  | none => exact rfl
  | some a => cases B with
    | none => exact rfl
    | some b =>
      simp only [Option.map_some, Option.bind_some, hi, hj, if_true, List.length_set]
      exact q a b
theorem j_for {it : En → Option (List PyData)} {b : PyData → En → Option En} {L : Option (List α)} {Bd : α → σ → Option (ξ ⊕ σ)} {e : ξ → PyData} {s : σ} {z : ζ} (he : en = env s z) (hi : it en = L.map (List.map ea)) (hb : ∀ x s z, ∃ e1, b (ea x) (env s z) = some e1 ∧ JX (F e1) (Bd x s) e env) :
    JX (sFor it b F en) (L.bind fun l => foldJ Bd l s) e env := by
  subst he
  unfold sFor
  rw [hi]
  cases L with
  | none => exact rfl
  | some l =>
    show JX (forGo b F (l.map ea) (env s z)) (foldJ Bd l s) e env
    clear hi
    induction l generalizing s z with
    | nil => exact ⟨z, rfl⟩
    | cons x r ih =>
      obtain ⟨e1, h1, h2⟩ := hb x s z
      have ef : foldJ Bd (x :: r) s = (Bd x s).bind (thenJ (foldJ Bd r)) := rfl
      show JX ((b (ea x) (env s z)).bind _) _ e env
      rw [h1, Option.bind_some, ef]
      cases hB : Bd x s with
      | none =>
        rw [hB] at h2
        have e : F e1 = none := h2
        rw [e]
        exact rfl
      | some o => cases o with
        | inl v =>
          rw [hB] at h2
          have e : F e1 = some (.rt (e v)) := h2
          rw [e]
          exact rfl
        | inr s' =>
          rw [hB] at h2
          obtain ⟨z', e⟩ := h2
          rw [e]
          exact ih
/-! defs -/
theorem d_run {N : Nat} {ds : List PyData} {A : Option ξ} (h : F (ds.map .dat ++ List.replicate (N - ds.length) .no) = rtO er A) : runD N F ds = A.map er := by
  unfold runD
  rw [h]
  cases A <;> rfl
theorem d_runN {N : Nat} {ds : List PyData} {A : Option σ} (h : NX (F (ds.map .dat ++ List.replicate (N - ds.length) .no)) A env) : runD N F ds = (A.bind fun _ => some ()).map eU := by
  unfold runD
  cases A with
  | none =>
    have e : F (ds.map .dat ++ List.replicate (N - ds.length) .no) = none := h
    rw [e]
    rfl
  | some s =>
    obtain ⟨z, e⟩ := h
    rw [e]
    rfl
end
end DN
set_option Elab.async false
set_option linter.all false
set_option maxRecDepth 100000
set_option maxHeartbeats 4000000
/-! The typed layer: small things that the generator names. -/
namespace DN
open PySem PySem.Spec PyProof.Rows L2
theorem lt_of {i : Nat} {en : En} (h : Nat.ble (i + 1) en.length = true) : i < en.length := Nat.le_of_ble_eq_true h
section
variable {α β γ σ ζ ξ : Type} {en : En} {f g h : En → Option PyData} {F G : En → Option Fl} {ea : α → PyData} {eb : β → PyData} {k l : En → Option Bool}
theorem n_conv {τ ζ' : Type} {A : Option τ} {env : σ → ζ → En} {env2 : τ → ζ' → En} {K : τ → σ} (p : NX (F en) A env2) (q : ∀ s z, ∃ z', env2 s z = env (K s) z') : NX (F en) (A.bind fun s => some (K s)) env := by
  cases A with
  | none => exact p
  | some s =>
    obtain ⟨z, e⟩ := p
    obtain ⟨z', h⟩ := q s z
    exact ⟨z', by rw [e, h]⟩
theorem j_conv {τ ζ' : Type} {A : Option (ξ ⊕ τ)} {e : ξ → PyData} {env : σ → ζ → En} {env2 : τ → ζ' → En} {K : τ → σ} (p : JX (F en) A e env2) (q : ∀ s z, ∃ z', env2 s z = env (K s) z') : JX (F en) (A.bind (thenJ fun s => some (.inr (K s)))) e env := by
  cases A with
  | none => exact p
  | some o => cases o with
    | inl v => exact p
    | inr s =>
      obtain ⟨z, e⟩ := p
      obtain ⟨z', h⟩ := q s z
      exact ⟨z', by rw [e, h]⟩
theorem t_ifP {b : Bool} {x y : α} (p : k en = some b) (pa : f en = (some x).map ea) (pb : g en = (some y).map ea) : fIf k f g en = (some (cond b x y)).map ea := by
  rw [t_if p pa pb]
  cases b <;> rfl
theorem t_andP {b c : Bool} (p : f en = (some b).map eB) (q : g en = (some c).map eB) : fAnd f g en = (some (b && c)).map eB := by
  rw [t_and p q]
  cases b <;> rfl
theorem t_orP {b c : Bool} (p : f en = (some b).map eB) (q : g en = (some c).map eB) : fOr f g en = (some (b || c)).map eB := by
  rw [t_or p q]
  cases b <;> rfl
theorem t_kandP {b c : Bool} (p : k en = some b) (q : l en = some c) : kAnd k l en = some (b && c) := by
  rw [t_kand p q]
  cases b <;> rfl
theorem t_korP {b c : Bool} (p : k en = some b) (q : l en = some c) : kOr k l en = some (b || c) := by
  rw [t_kor p q]
  cases b <;> rfl
theorem t_chainP {x y z : Int} (pa : f en = (some x).map eI) (pb : g en = (some y).map eI) (pc : h en = (some z).map eI) : fChain gLe gLe f g h en = (some (decide (x ≤ y) && decide (y ≤ z))).map eB := by
  rw [t_chain pa pb pc]
  show Option.map eB (iteO (some (decide (x ≤ y))) (some (decide (y ≤ z))) (some false)) = _
  cases decide (x ≤ y) <;> rfl
theorem as_R {u : α → β} (hu : ∀ x, ea x = eb (u x)) (l : List α) : eR ea l = eR eb (l.map u) := by
  unfold eR
  rw [List.map_map]
  congr 1
  exact List.map_congr_left fun x _ => hu x
theorem as_L {u : α → β} (hu : ∀ x, ea x = eb (u x)) (l : List α) : eL ea l = eL eb (l.map u) := by
  unfold eL
  rw [List.map_map]
  congr 1
  exact List.map_congr_left fun x _ => hu x
theorem t_cutT {fl fh : En → Option (Option Int)} {lo hi : Option Int} {u : α → β} {A : Option α} (hG : ∀ p, gCut (ea p) lo hi = some (eb (u p))) (pa : f en = A.map ea) (pl : fl en = some lo) (ph : fh en = some hi) : fCut f fl fh en = (A.bind fun p => some (u p)).map eb := by
  unfold fCut
  rw [pa, pl, ph]
  cases A with
  | none => rfl
  | some a => exact hG a
theorem j_seq_ifret {A : Option ξ} {K : Option (ξ ⊕ σ)} {P : Option Bool} {e : ξ → PyData} {env : σ → ζ → En} (p : k en = P) (ha : F en = rtO e A) (q : JX (G en) K e env) : JX (sSeq (sIf k F sNil) G en) (iteO P (A.bind fun v => some (.inl v)) K) e env := by
  unfold sSeq sIf iteO
  rw [p]
  cases P with
  | none => exact rfl
  | some b => cases b with
    | true =>
      show JX (match F en with
        | some (.nx e) => G e
        | r => r) (A.bind fun v => some (.inl v)) e env
      rw [ha]
      cases A <;> exact rfl
    | false => exact q
end
/-! encodings that can be compared -/
theorem enc_I : Enc 0 eI := ⟨fun _ => rfl, fun _ => Nat.le_refl _, fun _ _ => rfl⟩
theorem enc_B : Enc 0 eB := ⟨fun _ => rfl, fun _ => Nat.le_refl _, fun a b => by cases a <;> cases b <;> rfl⟩
theorem enc_U : Enc 0 eU := ⟨fun _ => rfl, fun _ => Nat.le_refl _, fun _ _ => rfl⟩
section
variable {α β γ δ : Type} [DecidableEq α] [DecidableEq β] [DecidableEq γ] [DecidableEq δ] {k l m n : Nat} {ea : α → PyData} {eb : β → PyData} {ec : γ → PyData} {ed : δ → PyData}
theorem Enc.lays (E : Enc k ea) : ∀ l : List α, PyData.canLayAll0 (l.map ea) = true
  | [] => by simp only [List.map_nil, PyData.canLayAll0]
  | a :: r => by
    simp only [List.map_cons, PyData.canLayAll0, E.lay a, E.lays r, Bool.and_self]
theorem Enc.deps (E : Enc k ea) : ∀ l : List α, PyData.depthAll (l.map ea) ≤ k
  | [] => by simp only [List.map_nil, PyData.depthAll]; exact Nat.zero_le _
  | a :: r => by
    simp only [List.map_cons, PyData.depthAll]
    exact Nat.max_le.mpr ⟨E.dep a, E.deps r⟩
theorem Enc.eqs (E : Enc k ea) : ∀ l m : List α, PyData.eqvAll (l.map ea) (m.map ea) = decide (l = m)
  | [], [] => by simp [PyData.eqvAll]
  | [], _ :: _ => by simp [PyData.eqvAll]
  | _ :: _, [] => by simp [PyData.eqvAll]
  | a :: r, b :: s => by
    simp only [List.map_cons, PyData.eqvAll, E.eq, E.eqs r s, List.cons.injEq, Bool.decide_and]
theorem enc_R (E : Enc k ea) : Enc (k + 1) (eR ea) := ⟨fun l => by simp only [eR, PyData.canLay0, E.lays l], fun l => by simp only [eR, PyData.depth]; exact Nat.succ_le_succ (E.deps l), fun a b => by simp only [eR, PyData.eqv, E.eqs a b]⟩
theorem enc_L (E : Enc k ea) : Enc (k + 1) (eL ea) := ⟨fun l => by simp only [eL, PyData.canLay0, E.lays l], fun l => by simp only [eL, PyData.depth]; exact Nat.succ_le_succ (E.deps l), fun a b => by simp only [eL, PyData.eqv, E.eqs a b]⟩
theorem enc_1 (E : Enc k ea) : Enc (k + 1) (e1 ea) := ⟨fun a => by simp only [e1, PyData.canLay0, PyData.canLayAll0, E.lay, Bool.and_true], fun a => by simp only [e1, PyData.depth, PyData.depthAll]; have := E.dep a; omega, fun a b => by simp only [e1, PyData.eqv, PyData.eqvAll, E.eq, Bool.and_true]⟩
theorem enc_2 (E : Enc k ea) (F : Enc l eb) : Enc (max k l + 1) (e2 ea eb) := ⟨fun p => by simp only [e2, PyData.canLay0, PyData.canLayAll0, E.lay, F.lay, Bool.and_true], fun p => by
  simp only [e2, PyData.depth, PyData.depthAll]; have := E.dep p.1; have := F.dep p.2; omega, fun p q => by
  obtain ⟨a, b⟩ := p; obtain ⟨c, d⟩ := q
  simp only [e2, PyData.eqv, PyData.eqvAll, E.eq, F.eq, Bool.and_true, Prod.mk.injEq, Bool.decide_and]⟩
theorem enc_3 (E : Enc k ea) (F : Enc l eb) (G : Enc m ec) : Enc (max k (max l m) + 1) (e3 ea eb ec) := ⟨fun p => by simp only [e3, PyData.canLay0, PyData.canLayAll0, E.lay, F.lay, G.lay, Bool.and_true], fun p => by
  simp only [e3, PyData.depth, PyData.depthAll]; have := E.dep p.1; have := F.dep p.2.1; have := G.dep p.2.2; omega, fun p q => by
  obtain ⟨a, b, c⟩ := p; obtain ⟨a', b', c'⟩ := q
  simp only [e3, PyData.eqv, PyData.eqvAll, E.eq, F.eq, G.eq, Bool.and_true, Prod.mk.injEq, Bool.decide_and]⟩
theorem enc_4 (E : Enc k ea) (F : Enc l eb) (G : Enc m ec) (H : Enc n ed) : Enc (max k (max l (max m n)) + 1) (e4 ea eb ec ed) := ⟨fun p => by simp only [e4, PyData.canLay0, PyData.canLayAll0, E.lay, F.lay, G.lay, H.lay, Bool.and_true], fun p => by
  simp only [e4, PyData.depth, PyData.depthAll]; have := E.dep p.1; have := F.dep p.2.1; have := G.dep p.2.2.1; have := H.dep p.2.2.2; omega, fun p q => by
  obtain ⟨a, b, c, d⟩ := p; obtain ⟨a', b', c', d'⟩ := q
  simp only [e4, PyData.eqv, PyData.eqvAll, E.eq, F.eq, G.eq, H.eq, Bool.and_true, Prod.mk.injEq, Bool.decide_and]⟩
end
/-! draws -/
theorem pick_of {α : Type} {e : α → PyData} {l : List α} {Q : PyData → Prop} (h : ∀ x, x ∈ l → Q (e x)) : ∀ d ∈ l.map e, Q d := fun d hd => by
  obtain ⟨x, hx, rfl⟩ := List.mem_map.mp hd
  exact h x hx
theorem demands_of {m : Int} {Q : PyData → Prop} (h0 : 0 ≤ m) (h1 : m ≤ 64) (h : ∀ ns : List Int, (ns.length : Int) = m → Flows ns → Q (eR eI ns)) : cDemands [.int m] Q :=
  ⟨m.toNat, by rw [Int.toNat_of_nonneg h0], by omega, fun ns hl hf => h ns (by omega) hf⟩
theorem w_mul {x y v : Int} (h : mulO x y = some v) : (gIc cMul fun i j => .int (i * j)) (eI x) (eI y) = some (eI v) := by
  have e : (gIc cMul fun i j => .int (i * j)) (eI x) (eI y) = (mulO x y).map eI := by
    show (if cMul x y = true then some (PyData.int (x * y)) else none) = _
    unfold mulO
    split <;> rfl
  rw [e, h]
  rfl
theorem if_of {b : Bool} {P Q : Prop} (h1 : b = true → P) (h2 : b = false → Q) : if b = true then P else Q := by
  cases b with
  | true => exact h1 rfl
  | false => exact h2 rfl
/-! list times int, powers -/
def cP (i j : Int) : Bool := decide (0 ≤ j ∧ j ≤ 1000000 ∧ i.natAbs < 2 ^ 64)
def powO (i j : Int) : Option Int := if cP i j = true then some (i ^ j.toNat) else none
theorem g_pow (x y : Int) : (gIc cPow fun i j => .int (i ^ j.toNat)) (eI x) (eI y) = (powO x y).map eI := by
  show (if cP x y = true then some (PyData.int (x ^ y.toNat)) else none) = _
  unfold powO
  split <;> rfl
def repL (l : List α) (k : Int) : Option (List α) := if -1000000 ≤ k ∧ k ≤ 1000 ∧ l.length ≤ 1000 then some (List.replicate k.toNat l).flatten else none
theorem g_repL {α : Type} {e : α → PyData} (x : List α) (k : Int) : gRepL (eL e x) (eI k) = (repL x k).map (eL e) := by
  show (if -1000000 ≤ k ∧ k ≤ 1000 ∧ (x.map e).length ≤ 1000 then some (PyData.list (List.replicate k.toNat (x.map e)).flatten) else none) = _
  unfold repL eL
  rw [List.length_map]
  split
  · simp [List.map_flatten, List.map_replicate]
  · rfl
/-! data of any kind -/
def lenA : PyData → Option Int
  | .list ds => some ds.length
  | .tuple ds => some ds.length
  | _ => none
def ixA (d : PyData) (i : Int) : Option PyData := (items d).bind fun ds => atI ds i
theorem g_lenA (d : PyData) : gLen (eA d) = (lenA d).map eI := by cases d <;> rfl
theorem map_eA (o : Option PyData) : o.map eA = o := by cases o <;> rfl
theorem g_ixA (d : PyData) (i : Int) : gIx (eA d) (eI i) = (ixA d i).map eA := by
  rw [map_eA]
  rfl
theorem g_isNA (x : PyData) (y : Unit) : gIsN (eA x) (eU y) = (some (isNone x)).map eB := rfl
theorem g_notNA (x : PyData) (y : Unit) : gNotN (eA x) (eU y) = (some (!isNone x)).map eB := rfl
/-! a, b = x, [..] with an own list -/
section
variable {α β γ σ ζ ξ : Type} {en : En} {f g : En → Option PyData} {F G : En → Option Fl} {ea : α → PyData} {eb : β → PyData} {er : ξ → PyData} {A : Option α} {B : Option (List β)} {i j : Nat} {env : σ → ζ → En}
theorem parO_eq (p : f en = A.map ea) (p2 : g en = B.map (eL eb)) (hi : i < en.length) (hj : j < en.length) : sParO i j f g en = (A.bind fun x => B.bind fun y => some (Fl.nx ((en.set i (.dat (ea x))).set j (.own (y.map eb))))) := by
  unfold sParO
  rw [p, p2]
  cases A with
  | none => rfl
  | some a => cases B with
    | none => rfl
    | some b =>
      show (if i < en.length ∧ j < en.length then _ else _) = _
      rw [if_pos ⟨hi, hj⟩]
      rfl
theorem r_seq_parO {K : α → List β → Option ξ} (p : f en = A.map ea) (p2 : g en = B.map (eL eb)) (hi : i < en.length) (hj : j < en.length) (q : ∀ x y, G ((en.set i (.dat (ea x))).set j (.own (List.map eb y))) = rtO er (K x y)) : sSeq (sParO i j f g) G en = rtO er (A.bind fun x => B.bind fun y => K x y) := by
  unfold sSeq
  rw [parO_eq p p2 hi hj]
  cases A with
  | none => rfl
  | some a => cases B with
    | none => rfl
    | some b => exact q a b
theorem n_seq_parO {K : α → List β → Option σ} (p : f en = A.map ea) (p2 : g en = B.map (eL eb)) (hi : i < en.length) (hj : j < en.length) (q : ∀ x y, NX (G ((en.set i (.dat (ea x))).set j (.own (List.map eb y)))) (K x y) env) : NX (sSeq (sParO i j f g) G en) (A.bind fun x => B.bind fun y => K x y) env := by
  unfold sSeq
  rw [parO_eq p p2 hi hj]
  cases A with
  | none => exact rfl
  | some a => cases B with
    | none => exact rfl
    | some b => exact q a b
end
/-! draws in a row -/
theorem noown1 {en : En} {i : Nat} (h : en[i]? = some .no) : ∀ j ∈ [i], ∀ es, en[j]? ≠ some (Slot.own es) := fun j hj es z => by
  rw [List.mem_singleton.mp hj, h] at z
  cases z
def rangeI (n : Int) : List Int := (List.range n.toNat).map fun (i : Nat) => (0 + (i : Int))
theorem rangeD_I (n : Int) : rangeD 0 n.toNat = (rangeI n).map eI := by
  unfold rangeD rangeI
  simp
theorem wlc_range {β : Type} {b : PyData → En → Option En} {F : WF} {en : En} {eb : β → PyData} {P : Int → β → Prop} {n : Int} {Q : List PyData → Prop} (hb : ∀ x, ∃ e1, b (eI x) en = some e1 ∧ ∀ Q : PyData → Prop, (∀ y, P x y → Q (eb y)) → F e1 Q) (h : ∀ ys : List β, All2 P (rangeI n) ys → Q (ys.map eb)) : wlcGo b wYes F en (rangeD 0 n.toNat) Q := by
  rw [rangeD_I]
  exact wlc_all hb _ _ h
theorem rangeD_len {n : Int} (h : n ≤ 1000000) : (rangeD 0 n.toNat).length ≤ 1000000 := by
  simp [rangeD]
  omega
/-- a loop that draws -/
def wfor {α σ : Type} (Bd : α → σ → (σ → Prop) → Prop) : List α → σ → (σ → Prop) → Prop
  | [], s, K => K s
  | x :: r, s, K => Bd x s fun s' => wfor Bd r s' K
theorem lfor_of {α σ ζ : Type} {b : PyData → En → Option En} {F : LF} {ea : α → PyData} {env : σ → ζ → En} {Bd : α → σ → (σ → Prop) → Prop}
    (hb : ∀ x s z (Q : Fl → Prop) (K : σ → Prop), (∀ s', K s' → ∀ z', Q (.nx (env s' z'))) → Bd x s K → ∃ e1, b (ea x) (env s z) = some e1 ∧ F e1 Q) :
    ∀ (l : List α) (s : σ) (z : ζ) (Q : Fl → Prop) (K : σ → Prop), (∀ s', K s' → ∀ z', Q (.nx (env s' z'))) → wfor Bd l s K → lforGo b F (l.map ea) (env s z) Q
  | [], s, z, Q, K, hK, h => hK s h z
  | x :: r, s, z, Q, K, hK, h => hb x s z _ _ (fun s' h' z' => lfor_of hb r s' z' Q K hK h') h
end DN
set_option Elab.async false
set_option linter.all false
set_option maxRecDepth 100000
set_option maxHeartbeats 4000000
namespace Ty
open PySem PySem.Spec PyProof.Rows L2 DN
def FUEL : Nat := 100000000
def F_is_whole : En → Option Fl := (sRet (fAnd (fIsi isInt (fVar 0)) (fNot (fIsi isBool (fVar 0)))))
def S_is_whole := runD 1 (F_is_whole)
def F_is_between (c_is_whole : List PyData → Option PyData) : En → Option Fl := (sRet (fAnd (fCall 1 c_is_whole (fCons (fVar 0) fNil)) (fChain gLe gLe (fVar 1) (fVar 0) (fVar 2))))
def S_is_between := runD 3 (F_is_between S_is_whole)
def F_is_row_between (c_is_between : List PyData → Option PyData) : En → Option Fl := (sRet (fAnd (fIsi isTup (fVar 0)) (fAll true (iSeq (fVar 0)) (bName 3) (fCall 3 c_is_between (fCons (fVar 3) (fCons (fVar 1) (fCons (fVar 2) fNil)))) [3])))
def S_is_row_between := runD 4 (F_is_row_between S_is_between)
def F_ratio : En → Option Fl := (sSeq (sSet 2 (fGcd (fVar 0) (fVar 1))) (sRet (fTup (fCons (fDiv (fVar 0) (fVar 2)) (fCons (fDiv (fVar 1) (fVar 2)) fNil)))))
def S_ratio := runD 3 (F_ratio)
def F_is_less : En → Option Fl := (sRet (fLt (fTimes (fIx (fVar 0) (fLit (.int 0))) (fIx (fVar 1) (fLit (.int 1)))) (fTimes (fIx (fVar 1) (fLit (.int 0))) (fIx (fVar 0) (fLit (.int 1))))))
def S_is_less := runD 2 (F_is_less)
def F_least_ratio (c_is_less : List PyData → Option PyData) : En → Option Fl := (sSeq (sSet 1 (fIx (fVar 0) (fLit (.int 0)))) (sSeq (sFor (iSeq (fVar 0)) (bName 2) (sIf (fT (fCall 2 c_is_less (fCons (fVar 2) (fCons (fVar 1) fNil)))) (sSet 1 (fVar 2)) sNil)) (sRet (fVar 1))))
def S_least_ratio := runD 3 (F_least_ratio S_is_less)
def F_is_inflows (c_is_row_between : List PyData → Option PyData) : En → Option Fl := (sRet (fAnd (fCall 3 c_is_row_between (fCons (fVar 0) (fCons (fLit (.int 0)) (fCons (fLit (.int 1000)) fNil)))) (fChain gLe gLe (fLit (.int 1)) (fLen (fVar 0)) (fLit (.int 12)))))
def S_is_inflows := runD 1 (F_is_inflows S_is_row_between)
def F_is_dam (c_is_between c_is_inflows : List PyData → Option PyData) : En → Option Fl := (sSeq (sIf (kNot (kAnd (fT (fIsi isTup (fVar 0))) (fT (fEq (fLen (fVar 0)) (fLit (.int 4)))))) (sRet (fLit (.bool false))) sNil) (sSeq (sBind (bTup [1, 2, 3, 4]) (fVar 0)) (sSeq (sIf (kNot (fT (fCall 3 c_is_between (fCons (fVar 1) (fCons (fLit (.int 0)) (fCons (fLit (.int 1000)) fNil)))))) (sRet (fLit (.bool false))) sNil) (sRet (fAnd (fCall 3 c_is_between (fCons (fVar 2) (fCons (fLit (.int 0)) (fCons (fVar 1) fNil)))) (fAnd (fCall 3 c_is_between (fCons (fVar 3) (fCons (fLit (.int 0)) (fCons (fVar 1) fNil)))) (fCall 1 c_is_inflows (fCons (fVar 4) fNil))))))))
def S_is_dam := runD 5 (F_is_dam S_is_between S_is_inflows)
def F_check_dam (c_is_dam : List PyData → Option PyData) : En → Option Fl := (sIf (kNot (fT (fCall 1 c_is_dam (fCons (fVar 0) fNil)))) sNever sNil)
def S_check_dam := runD 1 (F_check_dam S_is_dam)
def F_check_inflows (c_is_inflows : List PyData → Option PyData) : En → Option Fl := (sIf (kNot (fT (fCall 1 c_is_inflows (fCons (fVar 0) fNil)))) sNever sNil)
def S_check_inflows := runD 1 (F_check_inflows S_is_inflows)
def F_check_capacity (c_is_between : List PyData → Option PyData) : En → Option Fl := (sIf (kNot (fT (fCall 3 c_is_between (fCons (fVar 0) (fCons (fLit (.int 0)) (fCons (fVar 1) fNil)))))) sNever sNil)
def S_check_capacity := runD 2 (F_check_capacity S_is_between)
def S_check_capacity__d : List PyData → Option PyData := fun ds => S_check_capacity (ds ++ [.int 1000])
def F_check_has_plan : En → Option Fl := (sSeq (sBind (bTup [1, 2, 3, 4]) (fVar 0)) (sSeq (sFor (iSeq (fVar 4)) (bName 5) (sSet 2 (fMin2 (fVar 1) (fPlus (fVar 2) (fVar 5))))) (sIf (fT (fLt (fVar 2) (fVar 3))) sNever sNil)))
def S_check_has_plan := runD 6 (F_check_has_plan)
def F_windows : En → Option Fl := (sRet (fLc2 (iRange1 (fVar 0)) (bName 1) kYes (iRange2 (fVar 1) (fVar 0)) (bName 2) kYes (fTup (fCons (fVar 1) (fCons (fVar 2) fNil))) [1, 2] [2]))
def S_windows := runD 3 (F_windows)
def F_in_window : En → Option Fl := (sSeq (sBind (bTup [2, 3]) (fVar 1)) (sRet (fCut (fVar 0) (fPart (fVar 2)) (fPart (fPlus (fVar 3) (fLit (.int 1)))))))
def S_in_window := runD 4 (F_in_window)
def F_most_water (c_in_window : List PyData → Option PyData) : En → Option Fl := (sSeq (sBind (bTup [2, 3, 4, 5]) (fVar 0)) (sSeq (sSet 6 (fIf (fT (fEq (fIx (fVar 1) (fLit (.int 0))) (fLit (.int 0)))) (fVar 3) (fVar 2))) (sRet (fPlus (fVar 6) (fSum (fCall 2 c_in_window (fCons (fVar 5) (fCons (fVar 1) fNil))))))))
def S_most_water := runD 7 (F_most_water S_in_window)
def F_spare_water (c_most_water : List PyData → Option PyData) : En → Option Fl := (sSeq (sBind (bTup [2, 2, 3, 4]) (fVar 0)) (sSeq (sSet 5 (fCall 2 c_most_water (fCons (fVar 0) (fCons (fVar 1) fNil)))) (sRet (fIf (fT (fEq (fIx (fVar 1) (fLit (.int 1))) (fSub (fLen (fVar 4)) (fLit (.int 1))))) (fSub (fVar 5) (fVar 3)) (fVar 5)))))
def S_spare_water := runD 6 (F_spare_water S_most_water)
def F_window_yield (c_ratio c_spare_water : List PyData → Option PyData) : En → Option Fl := (sSeq (sBind (bTup [2, 3]) (fVar 1)) (sRet (fCall 2 c_ratio (fCons (fCall 2 c_spare_water (fCons (fVar 0) (fCons (fVar 1) fNil))) (fCons (fPlus (fSub (fVar 3) (fVar 2)) (fLit (.int 1))) fNil)))))
def S_window_yield := runD 4 (F_window_yield S_ratio S_spare_water)
def F_firm_yield (c_check_dam c_check_has_plan c_least_ratio c_windows c_window_yield : List PyData → Option PyData) : En → Option Fl := (sSeq (sExpr (fCall 1 c_check_dam (fCons (fVar 0) fNil))) (sSeq (sExpr (fCall 1 c_check_has_plan (fCons (fVar 0) fNil))) (sRet (fCall 1 c_least_ratio (fCons (fLc (iSeq (fCall 1 c_windows (fCons (fLen (fIx (fVar 0) (fLit (.int 3)))) fNil))) (bName 1) kYes (fCall 2 c_window_yield (fCons (fVar 0) (fCons (fVar 1) fNil))) [1]) fNil)))))
def S_firm_yield := runD 2 (F_firm_yield S_check_dam S_check_has_plan S_least_ratio S_windows S_window_yield)
def F_round_yield (c_check_capacity__d c_check_inflows c_ratio c_least_ratio : List PyData → Option PyData) : En → Option Fl := (sSeq (sExpr (fCall 1 c_check_capacity__d (fCons (fVar 0) fNil))) (sSeq (sExpr (fCall 1 c_check_inflows (fCons (fVar 1) fNil))) (sSeq (sSet 2 (fLen (fVar 1))) (sSeq (sSet 3 (fPlus (fVar 1) (fVar 1))) (sSeq (sOwn 4 (fLst (fCons (fCall 2 c_ratio (fCons (fSum (fVar 1)) (fCons (fVar 2) fNil))) fNil))) (sSeq (sFor (iRange1 (fVar 2)) (bName 5) (sFor (iRange2 (fLit (.int 1)) (fPlus (fVar 2) (fLit (.int 1)))) (bName 6) (sApp 4 (fCall 2 c_ratio (fCons (fPlus (fVar 0) (fSum (fCut (fVar 3) (fPart (fVar 5)) (fPart (fPlus (fVar 5) (fVar 6)))))) (fCons (fVar 6) fNil)))))) (sSeq (sRel 4) (sRet (fCall 1 c_least_ratio (fCons (fVar 4) fNil))))))))))
def S_round_yield := runD 7 (F_round_yield S_check_capacity__d S_check_inflows S_ratio S_least_ratio)
def F_yield_curve (c_check_inflows c_check_capacity c_firm_yield : List PyData → Option PyData) : En → Option Fl := (sSeq (sExpr (fCall 1 c_check_inflows (fCons (fVar 0) fNil))) (sSeq (sExpr (fCall 2 c_check_capacity (fCons (fVar 1) (fCons (fLit (.int 60)) fNil)))) (sRet (fTuple (fLc (iRange1 (fPlus (fVar 1) (fLit (.int 1)))) (bName 2) kYes (fCall 1 c_firm_yield (fCons (fTup (fCons (fVar 2) (fCons (fVar 2) (fCons (fLit (.int 0)) (fCons (fVar 0) fNil))))) fNil)) [2])))))
def S_yield_curve := runD 3 (F_yield_curve S_check_inflows S_check_capacity S_firm_yield)
def F__law_ratio (w0 : En → Nat) : En → Option Fl := (sSeq (sPar 2 3 (fAbs (fVar 0)) (fAbs (fVar 1))) (sSeq (sWhile w0 (fT (fNe (fVar 3) (fLit (.int 0)))) (sPar 2 3 (fVar 3) (fMod (fInt (fVar 2)) (fVar 3)))) (sRet (fIf (fT (fGt (fVar 1) (fLit (.int 0)))) (fTup (fCons (fDiv (fVar 0) (fVar 2)) (fCons (fDiv (fVar 1) (fVar 2)) fNil))) (fTup (fCons (fSub (fLit (.int 0)) (fDiv (fVar 0) (fVar 2))) (fCons (fSub (fLit (.int 0)) (fDiv (fVar 1) (fVar 2))) fNil)))))))
def S__law_ratio := runD 4 (F__law_ratio (fun _ => FUEL))
def F__law_plus (c__law_ratio : List PyData → Option PyData) : En → Option Fl := (sRet (fCall 2 c__law_ratio (fCons (fPlus (fTimes (fIx (fVar 0) (fLit (.int 0))) (fIx (fVar 1) (fLit (.int 1)))) (fTimes (fIx (fVar 1) (fLit (.int 0))) (fIx (fVar 0) (fLit (.int 1))))) (fCons (fTimes (fIx (fVar 0) (fLit (.int 1))) (fIx (fVar 1) (fLit (.int 1)))) fNil))))
def S__law_plus := runD 2 (F__law_plus S__law_ratio)
def F__law_by (c__law_ratio : List PyData → Option PyData) : En → Option Fl := (sRet (fCall 2 c__law_ratio (fCons (fTimes (fIx (fVar 0) (fLit (.int 0))) (fIx (fVar 1) (fLit (.int 0)))) (fCons (fTimes (fIx (fVar 0) (fLit (.int 1))) (fIx (fVar 1) (fLit (.int 1)))) fNil))))
def S__law_by := runD 2 (F__law_by S__law_ratio)
def F__law_sum (c__law_plus : List PyData → Option PyData) : En → Option Fl := (sSeq (sSet 1 (fTup (fCons (fLit (.int 0)) (fCons (fLit (.int 1)) fNil)))) (sSeq (sFor (iSeq (fVar 0)) (bName 2) (sSet 1 (fCall 2 c__law_plus (fCons (fVar 1) (fCons (fVar 2) fNil))))) (sRet (fVar 1))))
def S__law_sum := runD 3 (F__law_sum S__law_plus)
def F__law_less : En → Option Fl := (sRet (fLt (fTimes (fIx (fVar 0) (fLit (.int 0))) (fIx (fVar 1) (fLit (.int 1)))) (fTimes (fIx (fVar 1) (fLit (.int 0))) (fIx (fVar 0) (fLit (.int 1))))))
def S__law_less := runD 2 (F__law_less)
def F__law_is_ratio (c__law_ratio : List PyData → Option PyData) : En → Option Fl := (sSeq (sIf (kNot (fT (fIsi isTup (fVar 0)))) (sRet (fLit (.bool false))) sNil) (sSeq (sIf (fT (fNe (fLen (fVar 0)) (fLit (.int 2)))) (sRet (fLit (.bool false))) sNil) (sSeq (sIf (fT (fNe (fLc (iSeq (fVar 0)) (bName 1) (kOr (kNot (fT (fIsi isInt (fVar 1)))) (fT (fIsi isBool (fVar 1)))) (fVar 1) [1]) (fLst fNil))) (sRet (fLit (.bool false))) sNil) (sRet (fAnd (fGt (fIx (fVar 0) (fLit (.int 1))) (fLit (.int 0))) (fEq (fCall 2 c__law_ratio (fCons (fIx (fVar 0) (fLit (.int 0))) (fCons (fIx (fVar 0) (fLit (.int 1))) fNil))) (fVar 0)))))))
def S__law_is_ratio := runD 2 (F__law_is_ratio S__law_ratio)
def F__law_most_held : En → Option Fl := (sSeq (sSet 1 (fIx (fVar 0) (fLit (.int 1)))) (sSeq (sFor (iSeq (fIx (fVar 0) (fLit (.int 3)))) (bName 2) (sSet 1 (fMin2 (fIx (fVar 0) (fLit (.int 0))) (fPlus (fVar 1) (fVar 2))))) (sRet (fVar 1))))
def S__law_most_held := runD 3 (F__law_most_held)
def F__law_can (c__law_plus c__law_less : List PyData → Option PyData) : En → Option Fl := (sSeq (sSet 3 (fTup (fCons (fIx (fVar 0) (fLit (.int 1))) (fCons (fLit (.int 1)) fNil)))) (sSeq (sFor (iRange1 (fLen (fVar 1))) (bName 4) (sSeq (sSet 3 (fCall 2 c__law_plus (fCons (fVar 3) (fCons (fCall 2 c__law_plus (fCons (fTup (fCons (fIx (fIx (fVar 0) (fLit (.int 3))) (fVar 4)) (fCons (fLit (.int 1)) fNil))) (fCons (fTup (fCons (fSub (fLit (.int 0)) (fIx (fIx (fVar 1) (fVar 4)) (fLit (.int 0)))) (fCons (fIx (fIx (fVar 1) (fVar 4)) (fLit (.int 1))) fNil))) fNil))) fNil)))) (sSeq (sIf (fT (fLt (fIx (fVar 3) (fLit (.int 0))) (fLit (.int 0)))) (sRet (fLit (.bool false))) sNil) (sSet 3 (fIf (fT (fCall 2 c__law_less (fCons (fTup (fCons (fIx (fVar 0) (fLit (.int 0))) (fCons (fLit (.int 1)) fNil))) (fCons (fVar 3) fNil)))) (fTup (fCons (fIx (fVar 0) (fLit (.int 0))) (fCons (fLit (.int 1)) fNil))) (fVar 3)))))) (sRet (fNot (fCall 2 c__law_less (fCons (fVar 3) (fCons (fTup (fCons (fVar 2) (fCons (fLit (.int 1)) fNil))) fNil)))))))
def S__law_can := runD 5 (F__law_can S__law_plus S__law_less)
def N__law_ratio (top' : Int) (bottom' : Int) : Option (Int × Int) := ((some (abs1 top')).bind fun one_3 => (some (abs1 bottom')).bind fun other_4 => ((whileO (fun s5 => (some (!decide (s5.2 = (0 : Int))))) (fun s5 => ((some s5.2).bind fun one_12 => (modO s5.1 s5.2).bind fun other_13 => some (one_12, other_13))) FUEL (one_3, other_4)).bind fun s14 => (iteO (some (decide ((0 : Int) < bottom'))) ((divO top' s14.1).bind fun x22 => (divO bottom' s14.1).bind fun x23 => some (x22, x23)) (((some (0 : Int)).bind fun x26 => (divO top' s14.1).bind fun y27 => some (x26 - y27)).bind fun x32 => ((some (0 : Int)).bind fun x30 => (divO bottom' s14.1).bind fun y31 => some (x30 - y31)).bind fun x33 => some (x32, x33)))))
theorem t__law_ratio (top' : Int) (bottom' : Int) : S__law_ratio [eI top', eI bottom'] = (N__law_ratio top' bottom').map (e2 eI eI) := d_run (r_seq_par (i := 2) (j := 3) (A := (some (abs1 top'))) (B := (some (abs1 bottom'))) (t_f1 (A := (some top')) (h := (fun x1 => some (abs1 x1))) g_abs (t_var (i := 0) (e := eI) (v := top') rfl)) (t_f1 (A := (some bottom')) (h := (fun x2 => some (abs1 x2))) g_abs (t_var (i := 1) (e := eI) (v := bottom') rfl)) (lt_of rfl) (lt_of rfl) (fun one_3 other_4 => (r_seq_nx (env := (fun (s : (Int × Int)) (z : Unit) => [.dat (eI top'), .dat (eI bottom'), .dat (eI s.1), .dat (eI s.2)])) (A := (whileO (fun s5 => (some (!decide (s5.2 = (0 : Int))))) (fun s5 => ((some s5.2).bind fun one_12 => (modO s5.1 s5.2).bind fun other_13 => some (one_12, other_13))) FUEL (one_3, other_4))) (n_while (env := (fun (s : (Int × Int)) (z : Unit) => [.dat (eI top'), .dat (eI bottom'), .dat (eI s.1), .dat (eI s.2)])) (s := (one_3, other_4)) (z := ()) (T := fun s5 => (some (!decide (s5.2 = (0 : Int))))) (Bd := fun s5 => ((some s5.2).bind fun one_12 => (modO s5.1 s5.2).bind fun other_13 => some (one_12, other_13))) rfl (fun s5 z6 => (t_T (P := (some (!decide (s5.2 = (0 : Int))))) (t_f2 (A := (some s5.2)) (B := (some (0 : Int))) (h := (fun x7 y8 => some (!decide (x7 = y8)))) (g_ne enc_I rfl) (t_var (i := 3) (e := eI) (v := s5.2) rfl) (t_int (i := 0))))) (fun s5 z6 => (n_par  (K := fun one_12 other_13 => (one_12, other_13)) (i := 2) (j := 3) (A := (some s5.2)) (B := (modO s5.1 s5.2)) (t_var (i := 3) (e := eI) (v := s5.2) rfl) (t_f2 (A := (some s5.1)) (B := (some s5.2)) (h := (fun x10 y11 => (modO x10 y11))) g_mod (t_f1 (A := (some s5.1)) (h := (fun x9 => some x9)) g_int (t_var (i := 2) (e := eI) (v := s5.1) rfl)) (t_var (i := 3) (e := eI) (v := s5.2) rfl)) (lt_of rfl) (lt_of rfl) (fun one_12 other_13 => ⟨(), rfl⟩)))) (fun s14 z15 => (r_ret (A := (iteO (some (decide ((0 : Int) < bottom'))) ((divO top' s14.1).bind fun x22 => (divO bottom' s14.1).bind fun x23 => some (x22, x23)) (((some (0 : Int)).bind fun x26 => (divO top' s14.1).bind fun y27 => some (x26 - y27)).bind fun x32 => ((some (0 : Int)).bind fun x30 => (divO bottom' s14.1).bind fun y31 => some (x30 - y31)).bind fun x33 => some (x32, x33)))) (t_if (P := (some (decide ((0 : Int) < bottom')))) (A := ((divO top' s14.1).bind fun x22 => (divO bottom' s14.1).bind fun x23 => some (x22, x23))) (B := (((some (0 : Int)).bind fun x26 => (divO top' s14.1).bind fun y27 => some (x26 - y27)).bind fun x32 => ((some (0 : Int)).bind fun x30 => (divO bottom' s14.1).bind fun y31 => some (x30 - y31)).bind fun x33 => some (x32, x33))) (t_T (P := (some (decide ((0 : Int) < bottom')))) (t_f2 (A := (some bottom')) (B := (some (0 : Int))) (h := (fun x16 y17 => some (decide (y17 < x16)))) g_gt (t_var (i := 1) (e := eI) (v := bottom') rfl) (t_int (i := 0)))) (t_tup2 (A := (divO top' s14.1)) (B := (divO bottom' s14.1)) (t_f2 (A := (some top')) (B := (some s14.1)) (h := (fun x18 y19 => (divO x18 y19))) g_div (t_var (i := 0) (e := eI) (v := top') rfl) (t_var (i := 2) (e := eI) (v := s14.1) rfl)) (t_f2 (A := (some bottom')) (B := (some s14.1)) (h := (fun x20 y21 => (divO x20 y21))) g_div (t_var (i := 1) (e := eI) (v := bottom') rfl) (t_var (i := 2) (e := eI) (v := s14.1) rfl))) (t_tup2 (A := ((some (0 : Int)).bind fun x26 => (divO top' s14.1).bind fun y27 => some (x26 - y27))) (B := ((some (0 : Int)).bind fun x30 => (divO bottom' s14.1).bind fun y31 => some (x30 - y31))) (t_f2 (A := (some (0 : Int))) (B := (divO top' s14.1)) (h := (fun x26 y27 => some (x26 - y27))) g_sub (t_int (i := 0)) (t_f2 (A := (some top')) (B := (some s14.1)) (h := (fun x24 y25 => (divO x24 y25))) g_div (t_var (i := 0) (e := eI) (v := top') rfl) (t_var (i := 2) (e := eI) (v := s14.1) rfl))) (t_f2 (A := (some (0 : Int))) (B := (divO bottom' s14.1)) (h := (fun x30 y31 => some (x30 - y31))) g_sub (t_int (i := 0)) (t_f2 (A := (some bottom')) (B := (some s14.1)) (h := (fun x28 y29 => (divO x28 y29))) g_div (t_var (i := 1) (e := eI) (v := bottom') rfl) (t_var (i := 2) (e := eI) (v := s14.1) rfl))))))))))
def N__law_plus (one' : (Int × Int)) (other' : (Int × Int)) : Option (Int × Int) := (((mulO one'.1 other'.2).bind fun x9 => (mulO other'.1 one'.2).bind fun y10 => some (x9 + y10)).bind fun a15 => (mulO one'.2 other'.2).bind fun a16 => N__law_ratio a15 a16)
theorem t__law_plus (one' : (Int × Int)) (other' : (Int × Int)) : S__law_plus [(e2 eI eI) one', (e2 eI eI) other'] = (N__law_plus one' other').map (e2 eI eI) := d_run (r_ret (A := (((mulO one'.1 other'.2).bind fun x9 => (mulO other'.1 one'.2).bind fun y10 => some (x9 + y10)).bind fun a15 => (mulO one'.2 other'.2).bind fun a16 => N__law_ratio a15 a16)) (t_call2 (A := ((mulO one'.1 other'.2).bind fun x9 => (mulO other'.1 one'.2).bind fun y10 => some (x9 + y10))) (B := (mulO one'.2 other'.2)) t__law_ratio (t_f2 (A := (mulO one'.1 other'.2)) (B := (mulO other'.1 one'.2)) (h := (fun x9 y10 => some (x9 + y10))) g_add (t_f2 (A := (some one'.1)) (B := (some other'.2)) (h := (fun x3 y4 => (mulO x3 y4))) g_mul (t_ixc (A := (some one')) (k := 0) (pr := fun x1 => x1.1) (eb := eI) (fun _ => rfl) (t_var (i := 0) (e := (e2 eI eI)) (v := one') rfl)) (t_ixc (A := (some other')) (k := 1) (pr := fun x2 => x2.2) (eb := eI) (fun _ => rfl) (t_var (i := 1) (e := (e2 eI eI)) (v := other') rfl))) (t_f2 (A := (some other'.1)) (B := (some one'.2)) (h := (fun x7 y8 => (mulO x7 y8))) g_mul (t_ixc (A := (some other')) (k := 0) (pr := fun x5 => x5.1) (eb := eI) (fun _ => rfl) (t_var (i := 1) (e := (e2 eI eI)) (v := other') rfl)) (t_ixc (A := (some one')) (k := 1) (pr := fun x6 => x6.2) (eb := eI) (fun _ => rfl) (t_var (i := 0) (e := (e2 eI eI)) (v := one') rfl)))) (t_f2 (A := (some one'.2)) (B := (some other'.2)) (h := (fun x13 y14 => (mulO x13 y14))) g_mul (t_ixc (A := (some one')) (k := 1) (pr := fun x11 => x11.2) (eb := eI) (fun _ => rfl) (t_var (i := 0) (e := (e2 eI eI)) (v := one') rfl)) (t_ixc (A := (some other')) (k := 1) (pr := fun x12 => x12.2) (eb := eI) (fun _ => rfl) (t_var (i := 1) (e := (e2 eI eI)) (v := other') rfl)))))
def N__law_by (one' : (Int × Int)) (other' : (Int × Int)) : Option (Int × Int) := ((mulO one'.1 other'.1).bind fun a9 => (mulO one'.2 other'.2).bind fun a10 => N__law_ratio a9 a10)
theorem t__law_by (one' : (Int × Int)) (other' : (Int × Int)) : S__law_by [(e2 eI eI) one', (e2 eI eI) other'] = (N__law_by one' other').map (e2 eI eI) := d_run (r_ret (A := ((mulO one'.1 other'.1).bind fun a9 => (mulO one'.2 other'.2).bind fun a10 => N__law_ratio a9 a10)) (t_call2 (A := (mulO one'.1 other'.1)) (B := (mulO one'.2 other'.2)) t__law_ratio (t_f2 (A := (some one'.1)) (B := (some other'.1)) (h := (fun x3 y4 => (mulO x3 y4))) g_mul (t_ixc (A := (some one')) (k := 0) (pr := fun x1 => x1.1) (eb := eI) (fun _ => rfl) (t_var (i := 0) (e := (e2 eI eI)) (v := one') rfl)) (t_ixc (A := (some other')) (k := 0) (pr := fun x2 => x2.1) (eb := eI) (fun _ => rfl) (t_var (i := 1) (e := (e2 eI eI)) (v := other') rfl))) (t_f2 (A := (some one'.2)) (B := (some other'.2)) (h := (fun x7 y8 => (mulO x7 y8))) g_mul (t_ixc (A := (some one')) (k := 1) (pr := fun x5 => x5.2) (eb := eI) (fun _ => rfl) (t_var (i := 0) (e := (e2 eI eI)) (v := one') rfl)) (t_ixc (A := (some other')) (k := 1) (pr := fun x6 => x6.2) (eb := eI) (fun _ => rfl) (t_var (i := 1) (e := (e2 eI eI)) (v := other') rfl)))))
def N__law_less (one' : (Int × Int)) (other' : (Int × Int)) : Option Bool := ((mulO one'.1 other'.2).bind fun x9 => (mulO other'.1 one'.2).bind fun y10 => some (decide (x9 < y10)))
theorem t__law_less (one' : (Int × Int)) (other' : (Int × Int)) : S__law_less [(e2 eI eI) one', (e2 eI eI) other'] = (N__law_less one' other').map eB := d_run (r_ret (A := ((mulO one'.1 other'.2).bind fun x9 => (mulO other'.1 one'.2).bind fun y10 => some (decide (x9 < y10)))) (t_f2 (A := (mulO one'.1 other'.2)) (B := (mulO other'.1 one'.2)) (h := (fun x9 y10 => some (decide (x9 < y10)))) g_lt (t_f2 (A := (some one'.1)) (B := (some other'.2)) (h := (fun x3 y4 => (mulO x3 y4))) g_mul (t_ixc (A := (some one')) (k := 0) (pr := fun x1 => x1.1) (eb := eI) (fun _ => rfl) (t_var (i := 0) (e := (e2 eI eI)) (v := one') rfl)) (t_ixc (A := (some other')) (k := 1) (pr := fun x2 => x2.2) (eb := eI) (fun _ => rfl) (t_var (i := 1) (e := (e2 eI eI)) (v := other') rfl))) (t_f2 (A := (some other'.1)) (B := (some one'.2)) (h := (fun x7 y8 => (mulO x7 y8))) g_mul (t_ixc (A := (some other')) (k := 0) (pr := fun x5 => x5.1) (eb := eI) (fun _ => rfl) (t_var (i := 1) (e := (e2 eI eI)) (v := other') rfl)) (t_ixc (A := (some one')) (k := 1) (pr := fun x6 => x6.2) (eb := eI) (fun _ => rfl) (t_var (i := 0) (e := (e2 eI eI)) (v := one') rfl)))))
def N__law_sum (some' : (List (Int × Int))) : Option (Int × Int) := ((some ((0 : Int), (1 : Int))).bind fun found_1 => ((foldO (fun i4 s2 => ((N__law_plus s2 i4).bind fun found_5 => some found_5)) some' found_1).bind fun s6 => (some s6)))
theorem t__law_sum (some' : (List (Int × Int))) : S__law_sum [(eL (e2 eI eI)) some'] = (N__law_sum some').map (e2 eI eI) := d_run (r_seq_set (i := 1) (A := (some ((0 : Int), (1 : Int)))) (t_tup2 (A := (some (0 : Int))) (B := (some (1 : Int))) (t_int (i := 0)) (t_int (i := 1))) (lt_of rfl) (fun found_1 => (r_seq_nx (env := (fun (s : ((Int × Int))) (z : (Slot)) => [.dat ((eL (e2 eI eI)) some'), .dat ((e2 eI eI) s), z])) (A := (foldO (fun i4 s2 => ((N__law_plus s2 i4).bind fun found_5 => some found_5)) some' found_1)) (n_for (env := (fun (s : ((Int × Int))) (z : (Slot)) => [.dat ((eL (e2 eI eI)) some'), .dat ((e2 eI eI) s), z])) (s := found_1) (z := (.no : Slot)) (L := (some some')) (ea := (e2 eI eI)) (Bd := (fun i4 s2 => ((N__law_plus s2 i4).bind fun found_5 => some found_5))) rfl (i_seqL (A := (some some')) (e := (e2 eI eI)) (t_var (i := 0) (e := (eL (e2 eI eI))) (v := some') rfl)) (fun i4 s2 z3 => ⟨[.dat ((eL (e2 eI eI)) some'), .dat ((e2 eI eI) s2), .dat ((e2 eI eI) i4)], rfl, (n_set  (K := fun found_5 => found_5) (i := 1) (A := (N__law_plus s2 i4)) (t_call2 (A := (some s2)) (B := (some i4)) t__law_plus (t_var (i := 1) (e := (e2 eI eI)) (v := s2) rfl) (t_var (i := 2) (e := (e2 eI eI)) (v := i4) rfl)) (lt_of rfl) (fun found_5 => ⟨(.dat ((e2 eI eI) i4) : Slot), rfl⟩))⟩)) (fun s6 z7 => (r_ret (A := (some s6)) (t_var (i := 1) (e := (e2 eI eI)) (v := s6) rfl))))))
def N__law_is_ratio (value' : (Int × Int)) : Option Bool := (iteO (some (!true)) (some false) (iteO (some (!decide ((2 : Int) = (2 : Int)))) (some false) (iteO ((compL (fun i7 => (some ((!true) || false))) (fun i7 => (some i7)) [value'.1, value'.2]).bind fun x11 => (some ([] : (List Int))).bind fun y12 => some (!decide (x11 = y12))) (some false) (andO (some (decide ((0 : Int) < value'.2))) ((N__law_ratio value'.1 value'.2).bind fun x18 => (some value').bind fun y19 => some (decide (x18 = y19)))))))
theorem t__law_is_ratio (value' : (Int × Int)) : S__law_is_ratio [(e2 eI eI) value'] = (N__law_is_ratio value').map eB := d_run (r_seq_ifret (P := (some (!true))) (A := (some false)) (t_knot (P := (some true)) (t_T (P := (some true)) (t_isi (A := (some value')) (b := fun x1 => true) (fun _ => rfl) (t_var (i := 0) (e := (e2 eI eI)) (v := value') rfl)))) (r_ret (A := (some false)) (t_bl (b := false))) (r_seq_ifret (P := (some (!decide ((2 : Int) = (2 : Int))))) (A := (some false)) (t_T (P := (some (!decide ((2 : Int) = (2 : Int))))) (t_f2 (A := (some (2 : Int))) (B := (some (2 : Int))) (h := (fun x4 y5 => some (!decide (x4 = y5)))) (g_ne enc_I rfl) (t_f1 (A := (some value')) (h := (fun x3 => some (2 : Int))) (fun _ => rfl) (t_var (i := 0) (e := (e2 eI eI)) (v := value') rfl)) (t_int (i := 2)))) (r_ret (A := (some false)) (t_bl (b := false))) (r_seq_ifret (P := ((compL (fun i7 => (some ((!true) || false))) (fun i7 => (some i7)) [value'.1, value'.2]).bind fun x11 => (some ([] : (List Int))).bind fun y12 => some (!decide (x11 = y12)))) (A := (some false)) (t_T (P := ((compL (fun i7 => (some ((!true) || false))) (fun i7 => (some i7)) [value'.1, value'.2]).bind fun x11 => (some ([] : (List Int))).bind fun y12 => some (!decide (x11 = y12)))) (t_f2 (A := (compL (fun i7 => (some ((!true) || false))) (fun i7 => (some i7)) [value'.1, value'.2])) (B := (some ([] : (List Int)))) (h := (fun x11 y12 => some (!decide (x11 = y12)))) (g_ne (enc_L enc_I) rfl) (t_lc (L := (some [value'.1, value'.2])) (ea := eI) (eb := eI) (T := fun i7 => (some ((!true) || false))) (Bf := fun i7 => (some i7)) (i_seq (A := (some value')) (e := eI) (u := fun x6 => [x6.1, x6.2]) (fun _ => rfl) (t_var (i := 0) (e := (e2 eI eI)) (v := value') rfl)) (fun i7 => ⟨[.dat ((e2 eI eI) value'), .dat (eI i7)], rfl, (t_korP (b := (!true)) (c := false) (t_knot (P := (some true)) (t_T (P := (some true)) (t_isi (A := (some i7)) (b := fun x8 => true) (fun _ => rfl) (t_var (i := 1) (e := eI) (v := i7) rfl)))) (t_T (P := (some false)) (t_isi (A := (some i7)) (b := fun x10 => false) (fun _ => rfl) (t_var (i := 1) (e := eI) (v := i7) rfl)))), (t_var (i := 1) (e := eI) (v := i7) rfl)⟩)) (t_lstL (L := some []) (t_nil (α := Int) (e := eI))))) (r_ret (A := (some false)) (t_bl (b := false))) (r_ret (A := (andO (some (decide ((0 : Int) < value'.2))) ((N__law_ratio value'.1 value'.2).bind fun x18 => (some value').bind fun y19 => some (decide (x18 = y19))))) (t_and (P := (some (decide ((0 : Int) < value'.2)))) (Q := ((N__law_ratio value'.1 value'.2).bind fun x18 => (some value').bind fun y19 => some (decide (x18 = y19)))) (t_f2 (A := (some value'.2)) (B := (some (0 : Int))) (h := (fun x14 y15 => some (decide (y15 < x14)))) g_gt (t_ixc (A := (some value')) (k := 1) (pr := fun x13 => x13.2) (eb := eI) (fun _ => rfl) (t_var (i := 0) (e := (e2 eI eI)) (v := value') rfl)) (t_int (i := 0))) (t_f2 (A := (N__law_ratio value'.1 value'.2)) (B := (some value')) (h := (fun x18 y19 => some (decide (x18 = y19)))) (g_eq (enc_2 enc_I enc_I) rfl) (t_call2 (A := (some value'.1)) (B := (some value'.2)) t__law_ratio (t_ixc (A := (some value')) (k := 0) (pr := fun x16 => x16.1) (eb := eI) (fun _ => rfl) (t_var (i := 0) (e := (e2 eI eI)) (v := value') rfl)) (t_ixc (A := (some value')) (k := 1) (pr := fun x17 => x17.2) (eb := eI) (fun _ => rfl) (t_var (i := 0) (e := (e2 eI eI)) (v := value') rfl))) (t_var (i := 0) (e := (e2 eI eI)) (v := value') rfl)))))))
def N__law_can (dam' : (Int × Int × Int × (List Int))) (demands' : (List (Int × Int))) (end' : Int) : Option Bool := ((some (dam'.2.1, (1 : Int))).bind fun held_1 => (((range1O ((demands').length : Int)).bind fun l => foldJ (fun i6 s4 => (((some s4).bind fun a25 => (((atI dam'.2.2.2 i6).bind fun x11 => (some (1 : Int)).bind fun x12 => some (x11, x12)).bind fun a23 => (((some (0 : Int)).bind fun x16 => ((atI demands' i6).bind fun x15 => some x15.1).bind fun y17 => some (x16 - y17)).bind fun x21 => ((atI demands' i6).bind fun x20 => some x20.2).bind fun x22 => some (x21, x22)).bind fun a24 => N__law_plus a23 a24).bind fun a26 => N__law_plus a25 a26).bind fun held_7 => (iteO (some (decide (held_7.1 < (0 : Int)))) ((some false).bind fun v34 => some (.inl v34)) (((iteO (N__law_less (dam'.1, (1 : Int)) held_7) (some (dam'.1, (1 : Int))) (some held_7)).bind fun held_30 => some held_30).bind fun s33 => some (.inr s33))))) l held_1).bind (outJ fun s35 => ((N__law_less s35 (end', (1 : Int))).bind fun b37 => some (!b37)))))
theorem t__law_can (dam' : (Int × Int × Int × (List Int))) (demands' : (List (Int × Int))) (end' : Int) : S__law_can [(e4 eI eI eI (eR eI)) dam', (eL (e2 eI eI)) demands', eI end'] = (N__law_can dam' demands' end').map eB := d_run (r_seq_set (i := 3) (A := (some (dam'.2.1, (1 : Int)))) (t_tup2 (A := (some dam'.2.1)) (B := (some (1 : Int))) (t_ixc (A := (some dam')) (k := 1) (pr := fun x2 => x2.2.1) (eb := eI) (fun _ => rfl) (t_var (i := 0) (e := (e4 eI eI eI (eR eI))) (v := dam') rfl)) (t_int (i := 1))) (lt_of rfl) (fun held_1 => (r_seq_j (env := (fun (s : ((Int × Int))) (z : (Slot)) => [.dat ((e4 eI eI eI (eR eI)) dam'), .dat ((eL (e2 eI eI)) demands'), .dat (eI end'), .dat ((e2 eI eI) s), z])) (A := ((range1O ((demands').length : Int)).bind fun l => foldJ (fun i6 s4 => (((some s4).bind fun a25 => (((atI dam'.2.2.2 i6).bind fun x11 => (some (1 : Int)).bind fun x12 => some (x11, x12)).bind fun a23 => (((some (0 : Int)).bind fun x16 => ((atI demands' i6).bind fun x15 => some x15.1).bind fun y17 => some (x16 - y17)).bind fun x21 => ((atI demands' i6).bind fun x20 => some x20.2).bind fun x22 => some (x21, x22)).bind fun a24 => N__law_plus a23 a24).bind fun a26 => N__law_plus a25 a26).bind fun held_7 => (iteO (some (decide (held_7.1 < (0 : Int)))) ((some false).bind fun v34 => some (.inl v34)) (((iteO (N__law_less (dam'.1, (1 : Int)) held_7) (some (dam'.1, (1 : Int))) (some held_7)).bind fun held_30 => some held_30).bind fun s33 => some (.inr s33))))) l held_1)) (j_for (env := (fun (s : ((Int × Int))) (z : (Slot)) => [.dat ((e4 eI eI eI (eR eI)) dam'), .dat ((eL (e2 eI eI)) demands'), .dat (eI end'), .dat ((e2 eI eI) s), z])) (s := held_1) (z := (.no : Slot)) (L := (range1O ((demands').length : Int))) (ea := eI) (Bd := (fun i6 s4 => (((some s4).bind fun a25 => (((atI dam'.2.2.2 i6).bind fun x11 => (some (1 : Int)).bind fun x12 => some (x11, x12)).bind fun a23 => (((some (0 : Int)).bind fun x16 => ((atI demands' i6).bind fun x15 => some x15.1).bind fun y17 => some (x16 - y17)).bind fun x21 => ((atI demands' i6).bind fun x20 => some x20.2).bind fun x22 => some (x21, x22)).bind fun a24 => N__law_plus a23 a24).bind fun a26 => N__law_plus a25 a26).bind fun held_7 => (iteO (some (decide (held_7.1 < (0 : Int)))) ((some false).bind fun v34 => some (.inl v34)) (((iteO (N__law_less (dam'.1, (1 : Int)) held_7) (some (dam'.1, (1 : Int))) (some held_7)).bind fun held_30 => some held_30).bind fun s33 => some (.inr s33)))))) rfl (i_range1 (A := (some ((demands').length : Int))) (t_f1 (A := (some demands')) (h := (fun x3 => some ((x3).length : Int))) g_lenL (t_var (i := 1) (e := (eL (e2 eI eI))) (v := demands') rfl))) (fun i6 s4 z5 => ⟨[.dat ((e4 eI eI eI (eR eI)) dam'), .dat ((eL (e2 eI eI)) demands'), .dat (eI end'), .dat ((e2 eI eI) s4), .dat (eI i6)], rfl, (j_seq_set (i := 3) (A := ((some s4).bind fun a25 => (((atI dam'.2.2.2 i6).bind fun x11 => (some (1 : Int)).bind fun x12 => some (x11, x12)).bind fun a23 => (((some (0 : Int)).bind fun x16 => ((atI demands' i6).bind fun x15 => some x15.1).bind fun y17 => some (x16 - y17)).bind fun x21 => ((atI demands' i6).bind fun x20 => some x20.2).bind fun x22 => some (x21, x22)).bind fun a24 => N__law_plus a23 a24).bind fun a26 => N__law_plus a25 a26)) (t_call2 (A := (some s4)) (B := (((atI dam'.2.2.2 i6).bind fun x11 => (some (1 : Int)).bind fun x12 => some (x11, x12)).bind fun a23 => (((some (0 : Int)).bind fun x16 => ((atI demands' i6).bind fun x15 => some x15.1).bind fun y17 => some (x16 - y17)).bind fun x21 => ((atI demands' i6).bind fun x20 => some x20.2).bind fun x22 => some (x21, x22)).bind fun a24 => N__law_plus a23 a24)) t__law_plus (t_var (i := 3) (e := (e2 eI eI)) (v := s4) rfl) (t_call2 (A := ((atI dam'.2.2.2 i6).bind fun x11 => (some (1 : Int)).bind fun x12 => some (x11, x12))) (B := (((some (0 : Int)).bind fun x16 => ((atI demands' i6).bind fun x15 => some x15.1).bind fun y17 => some (x16 - y17)).bind fun x21 => ((atI demands' i6).bind fun x20 => some x20.2).bind fun x22 => some (x21, x22))) t__law_plus (t_tup2 (A := (atI dam'.2.2.2 i6)) (B := (some (1 : Int))) (t_f2 (A := (some dam'.2.2.2)) (B := (some i6)) (h := (fun x9 y10 => (atI x9 y10))) g_ixR (t_ixc (A := (some dam')) (k := 3) (pr := fun x8 => x8.2.2.2) (eb := (eR eI)) (fun _ => rfl) (t_var (i := 0) (e := (e4 eI eI eI (eR eI))) (v := dam') rfl)) (t_var (i := 4) (e := eI) (v := i6) rfl)) (t_int (i := 1))) (t_tup2 (A := ((some (0 : Int)).bind fun x16 => ((atI demands' i6).bind fun x15 => some x15.1).bind fun y17 => some (x16 - y17))) (B := ((atI demands' i6).bind fun x20 => some x20.2)) (t_f2 (A := (some (0 : Int))) (B := ((atI demands' i6).bind fun x15 => some x15.1)) (h := (fun x16 y17 => some (x16 - y17))) g_sub (t_int (i := 0)) (t_ixc (A := (atI demands' i6)) (k := 0) (pr := fun x15 => x15.1) (eb := eI) (fun _ => rfl) (t_f2 (A := (some demands')) (B := (some i6)) (h := (fun x13 y14 => (atI x13 y14))) g_ixL (t_var (i := 1) (e := (eL (e2 eI eI))) (v := demands') rfl) (t_var (i := 4) (e := eI) (v := i6) rfl)))) (t_ixc (A := (atI demands' i6)) (k := 1) (pr := fun x20 => x20.2) (eb := eI) (fun _ => rfl) (t_f2 (A := (some demands')) (B := (some i6)) (h := (fun x18 y19 => (atI x18 y19))) g_ixL (t_var (i := 1) (e := (eL (e2 eI eI))) (v := demands') rfl) (t_var (i := 4) (e := eI) (v := i6) rfl)))))) (lt_of rfl) (fun held_7 => (j_seq_ifret (P := (some (decide (held_7.1 < (0 : Int))))) (A := (some false)) (t_T (P := (some (decide (held_7.1 < (0 : Int))))) (t_f2 (A := (some held_7.1)) (B := (some (0 : Int))) (h := (fun x28 y29 => some (decide (x28 < y29)))) g_lt (t_ixc (A := (some held_7)) (k := 0) (pr := fun x27 => x27.1) (eb := eI) (fun _ => rfl) (t_var (i := 3) (e := (e2 eI eI)) (v := held_7) rfl)) (t_int (i := 0)))) (r_ret (A := (some false)) (t_bl (b := false))) (j_of_n (A := ((iteO (N__law_less (dam'.1, (1 : Int)) held_7) (some (dam'.1, (1 : Int))) (some held_7)).bind fun held_30 => some held_30)) (n_set  (K := fun held_30 => held_30) (i := 3) (A := (iteO (N__law_less (dam'.1, (1 : Int)) held_7) (some (dam'.1, (1 : Int))) (some held_7))) (t_if (P := (N__law_less (dam'.1, (1 : Int)) held_7)) (A := (some (dam'.1, (1 : Int)))) (B := (some held_7)) (t_T (P := (N__law_less (dam'.1, (1 : Int)) held_7)) (t_call2 (A := (some (dam'.1, (1 : Int)))) (B := (some held_7)) t__law_less (t_tup2 (A := (some dam'.1)) (B := (some (1 : Int))) (t_ixc (A := (some dam')) (k := 0) (pr := fun x31 => x31.1) (eb := eI) (fun _ => rfl) (t_var (i := 0) (e := (e4 eI eI eI (eR eI))) (v := dam') rfl)) (t_int (i := 1))) (t_var (i := 3) (e := (e2 eI eI)) (v := held_7) rfl))) (t_tup2 (A := (some dam'.1)) (B := (some (1 : Int))) (t_ixc (A := (some dam')) (k := 0) (pr := fun x32 => x32.1) (eb := eI) (fun _ => rfl) (t_var (i := 0) (e := (e4 eI eI eI (eR eI))) (v := dam') rfl)) (t_int (i := 1))) (t_var (i := 3) (e := (e2 eI eI)) (v := held_7) rfl)) (lt_of rfl) (fun held_30 => ⟨(.dat (eI i6) : Slot), rfl⟩))))))⟩)) (fun s35 z36 => (r_ret (A := ((N__law_less s35 (end', (1 : Int))).bind fun b37 => some (!b37))) (t_not (P := (N__law_less s35 (end', (1 : Int)))) (t_call2 (A := (some s35)) (B := (some (end', (1 : Int)))) t__law_less (t_var (i := 3) (e := (e2 eI eI)) (v := s35) rfl) (t_tup2 (A := (some end')) (B := (some (1 : Int))) (t_var (i := 2) (e := eI) (v := end') rfl) (t_int (i := 1))))))))))
def N__law_most_held (dam' : (Int × Int × Int × (List Int))) : Option Int := ((some dam'.2.1).bind fun held_1 => ((foldO (fun i6 s4 => ((some (min2 dam'.1 (s4 + i6))).bind fun held_7 => some held_7)) dam'.2.2.2 held_1).bind fun s13 => (some s13)))
theorem t__law_most_held (dam' : (Int × Int × Int × (List Int))) : S__law_most_held [(e4 eI eI eI (eR eI)) dam'] = (N__law_most_held dam').map eI := d_run (r_seq_set (i := 1) (A := (some dam'.2.1)) (t_ixc (A := (some dam')) (k := 1) (pr := fun x2 => x2.2.1) (eb := eI) (fun _ => rfl) (t_var (i := 0) (e := (e4 eI eI eI (eR eI))) (v := dam') rfl)) (lt_of rfl) (fun held_1 => (r_seq_nx (env := (fun (s : (Int)) (z : (Slot)) => [.dat ((e4 eI eI eI (eR eI)) dam'), .dat (eI s), z])) (A := (foldO (fun i6 s4 => ((some (min2 dam'.1 (s4 + i6))).bind fun held_7 => some held_7)) dam'.2.2.2 held_1)) (n_for (env := (fun (s : (Int)) (z : (Slot)) => [.dat ((e4 eI eI eI (eR eI)) dam'), .dat (eI s), z])) (s := held_1) (z := (.no : Slot)) (L := (some dam'.2.2.2)) (ea := eI) (Bd := (fun i6 s4 => ((some (min2 dam'.1 (s4 + i6))).bind fun held_7 => some held_7))) rfl (i_seqR (A := (some dam'.2.2.2)) (e := eI) (t_ixc (A := (some dam')) (k := 3) (pr := fun x3 => x3.2.2.2) (eb := (eR eI)) (fun _ => rfl) (t_var (i := 0) (e := (e4 eI eI eI (eR eI))) (v := dam') rfl))) (fun i6 s4 z5 => ⟨[.dat ((e4 eI eI eI (eR eI)) dam'), .dat (eI s4), .dat (eI i6)], rfl, (n_set  (K := fun held_7 => held_7) (i := 1) (A := (some (min2 dam'.1 (s4 + i6)))) (t_f2 (A := (some dam'.1)) (B := (some (s4 + i6))) (h := (fun x11 y12 => some (min2 x11 y12))) g_min2 (t_ixc (A := (some dam')) (k := 0) (pr := fun x8 => x8.1) (eb := eI) (fun _ => rfl) (t_var (i := 0) (e := (e4 eI eI eI (eR eI))) (v := dam') rfl)) (t_f2 (A := (some s4)) (B := (some i6)) (h := (fun x9 y10 => some (x9 + y10))) g_add (t_var (i := 1) (e := eI) (v := s4) rfl) (t_var (i := 2) (e := eI) (v := i6) rfl))) (lt_of rfl) (fun held_7 => ⟨(.dat (eI i6) : Slot), rfl⟩))⟩)) (fun s13 z14 => (r_ret (A := (some s13)) (t_var (i := 1) (e := eI) (v := s13) rfl))))))
def N_is_whole (value' : Int) : Option Bool := (some (true && (!false)))
theorem t_is_whole (value' : Int) : S_is_whole [eI value'] = (N_is_whole value').map eB := d_run (r_ret (A := (some (true && (!false)))) (t_andP (b := true) (c := (!false)) (t_isi (A := (some value')) (b := fun x1 => true) (fun _ => rfl) (t_var (i := 0) (e := eI) (v := value') rfl)) (t_not (P := (some false)) (t_isi (A := (some value')) (b := fun x2 => false) (fun _ => rfl) (t_var (i := 0) (e := eI) (v := value') rfl)))))
def N_is_between (value' : Int) (least' : Int) (most' : Int) : Option Bool := (andO (N_is_whole value') (some (decide (least' ≤ value') && decide (value' ≤ most'))))
theorem t_is_between (value' : Int) (least' : Int) (most' : Int) : S_is_between [eI value', eI least', eI most'] = (N_is_between value' least' most').map eB := d_run (r_ret (A := (andO (N_is_whole value') (some (decide (least' ≤ value') && decide (value' ≤ most'))))) (t_and (P := (N_is_whole value')) (Q := (some (decide (least' ≤ value') && decide (value' ≤ most')))) (t_call1 (A := (some value')) t_is_whole (t_var (i := 0) (e := eI) (v := value') rfl)) (t_chainP (x := least') (y := value') (z := most') (t_var (i := 1) (e := eI) (v := least') rfl) (t_var (i := 0) (e := eI) (v := value') rfl) (t_var (i := 2) (e := eI) (v := most') rfl))))
def N_is_row_between (value' : (List Int)) (least' : Int) (most' : Int) : Option Bool := (andO (some true) (allO true (fun i2 => (N_is_between i2 least' most')) value'))
theorem t_is_row_between (value' : (List Int)) (least' : Int) (most' : Int) : S_is_row_between [(eR eI) value', eI least', eI most'] = (N_is_row_between value' least' most').map eB := d_run (r_ret (A := (andO (some true) (allO true (fun i2 => (N_is_between i2 least' most')) value'))) (t_and (P := (some true)) (Q := (allO true (fun i2 => (N_is_between i2 least' most')) value')) (t_isi (A := (some value')) (b := fun x1 => true) (fun _ => rfl) (t_var (i := 0) (e := (eR eI)) (v := value') rfl)) (t_all (L := (some value')) (ea := eI) (Bf := fun i2 => (N_is_between i2 least' most')) (i_seqR (A := (some value')) (e := eI) (t_var (i := 0) (e := (eR eI)) (v := value') rfl)) (fun i2 => ⟨[.dat ((eR eI) value'), .dat (eI least'), .dat (eI most'), .dat (eI i2)], rfl, (t_call3 (A := (some i2)) (B := (some least')) (C := (some most')) t_is_between (t_var (i := 3) (e := eI) (v := i2) rfl) (t_var (i := 1) (e := eI) (v := least') rfl) (t_var (i := 2) (e := eI) (v := most') rfl))⟩))))
def N_is_inflows (value' : (List Int)) : Option Bool := (andO (N_is_row_between value' (0 : Int) (1000 : Int)) (some (decide ((1 : Int) ≤ ((value').length : Int)) && decide (((value').length : Int) ≤ (12 : Int)))))
theorem t_is_inflows (value' : (List Int)) : S_is_inflows [(eR eI) value'] = (N_is_inflows value').map eB := d_run (r_ret (A := (andO (N_is_row_between value' (0 : Int) (1000 : Int)) (some (decide ((1 : Int) ≤ ((value').length : Int)) && decide (((value').length : Int) ≤ (12 : Int)))))) (t_and (P := (N_is_row_between value' (0 : Int) (1000 : Int))) (Q := (some (decide ((1 : Int) ≤ ((value').length : Int)) && decide (((value').length : Int) ≤ (12 : Int))))) (t_call3 (A := (some value')) (B := (some (0 : Int))) (C := (some (1000 : Int))) t_is_row_between (t_var (i := 0) (e := (eR eI)) (v := value') rfl) (t_int (i := 0)) (t_int (i := 1000))) (t_chainP (x := (1 : Int)) (y := ((value').length : Int)) (z := (12 : Int)) (t_int (i := 1)) (t_f1 (A := (some value')) (h := (fun x1 => some ((x1).length : Int))) g_lenR (t_var (i := 0) (e := (eR eI)) (v := value') rfl)) (t_int (i := 12)))))
def N_is_dam (value' : (Int × Int × Int × (List Int))) : Option Bool := (iteO (some (!(true && (decide ((4 : Int) = (4 : Int)))))) (some false) ((some value').bind fun p6 => (iteO ((N_is_between p6.1 (0 : Int) (1000 : Int)).bind fun b7 => some (!b7)) (some false) (andO (N_is_between p6.2.1 (0 : Int) p6.1) (andO (N_is_between p6.2.2.1 (0 : Int) p6.1) (N_is_inflows p6.2.2.2))))))
theorem t_is_dam (value' : (Int × Int × Int × (List Int))) : S_is_dam [(e4 eI eI eI (eR eI)) value'] = (N_is_dam value').map eB := d_run (r_seq_ifret (P := (some (!(true && (decide ((4 : Int) = (4 : Int))))))) (A := (some false)) (t_knot (P := (some (true && (decide ((4 : Int) = (4 : Int)))))) (t_kandP (b := true) (c := (decide ((4 : Int) = (4 : Int)))) (t_T (P := (some true)) (t_isi (A := (some value')) (b := fun x1 => true) (fun _ => rfl) (t_var (i := 0) (e := (e4 eI eI eI (eR eI))) (v := value') rfl))) (t_T (P := (some (decide ((4 : Int) = (4 : Int))))) (t_f2 (A := (some (4 : Int))) (B := (some (4 : Int))) (h := (fun x3 y4 => some (decide (x3 = y4)))) (g_eq enc_I rfl) (t_f1 (A := (some value')) (h := (fun x2 => some (4 : Int))) (fun _ => rfl) (t_var (i := 0) (e := (e4 eI eI eI (eR eI))) (v := value') rfl)) (t_int (i := 4)))))) (r_ret (A := (some false)) (t_bl (b := false))) (r_seq_bind (A := (some value')) (envb := fun p6 => [.dat ((e4 eI eI eI (eR eI)) value'), .dat (eI p6.1), .dat (eI p6.2.1), .dat (eI p6.2.2.1), .dat ((eR eI) p6.2.2.2)]) (t_var (i := 0) (e := (e4 eI eI eI (eR eI))) (v := value') rfl) (fun _ => rfl) (fun p6 => (r_seq_ifret (P := ((N_is_between p6.1 (0 : Int) (1000 : Int)).bind fun b7 => some (!b7))) (A := (some false)) (t_knot (P := (N_is_between p6.1 (0 : Int) (1000 : Int))) (t_T (P := (N_is_between p6.1 (0 : Int) (1000 : Int))) (t_call3 (A := (some p6.1)) (B := (some (0 : Int))) (C := (some (1000 : Int))) t_is_between (t_var (i := 1) (e := eI) (v := p6.1) rfl) (t_int (i := 0)) (t_int (i := 1000))))) (r_ret (A := (some false)) (t_bl (b := false))) (r_ret (A := (andO (N_is_between p6.2.1 (0 : Int) p6.1) (andO (N_is_between p6.2.2.1 (0 : Int) p6.1) (N_is_inflows p6.2.2.2)))) (t_and (P := (N_is_between p6.2.1 (0 : Int) p6.1)) (Q := (andO (N_is_between p6.2.2.1 (0 : Int) p6.1) (N_is_inflows p6.2.2.2))) (t_call3 (A := (some p6.2.1)) (B := (some (0 : Int))) (C := (some p6.1)) t_is_between (t_var (i := 2) (e := eI) (v := p6.2.1) rfl) (t_int (i := 0)) (t_var (i := 1) (e := eI) (v := p6.1) rfl)) (t_and (P := (N_is_between p6.2.2.1 (0 : Int) p6.1)) (Q := (N_is_inflows p6.2.2.2)) (t_call3 (A := (some p6.2.2.1)) (B := (some (0 : Int))) (C := (some p6.1)) t_is_between (t_var (i := 3) (e := eI) (v := p6.2.2.1) rfl) (t_int (i := 0)) (t_var (i := 1) (e := eI) (v := p6.1) rfl)) (t_call1 (A := (some p6.2.2.2)) t_is_inflows (t_var (i := 4) (e := (eR eI)) (v := p6.2.2.2) rfl)))))))))
def N_check_dam (dam' : (Int × Int × Int × (List Int))) : Option Unit := (iteO ((N_is_dam dam').bind fun b1 => some (!b1)) none (some ())).bind fun _ => some ()
theorem t_check_dam (dam' : (Int × Int × Int × (List Int))) : S_check_dam [(e4 eI eI eI (eR eI)) dam'] = (N_check_dam dam').map eU := d_runN (env := (fun (s : Unit) (z : Unit) => [.dat ((e4 eI eI eI (eR eI)) dam')])) (n_if (P := ((N_is_dam dam').bind fun b1 => some (!b1))) (A := none) (B := (some ())) (t_knot (P := (N_is_dam dam')) (t_T (P := (N_is_dam dam')) (t_call1 (A := (some dam')) t_is_dam (t_var (i := 0) (e := (e4 eI eI eI (eR eI))) (v := dam') rfl)))) n_never (n_nil (s := ()) (z := ()) rfl))
def N_check_has_plan (dam' : (Int × Int × Int × (List Int))) : Option Unit := ((some dam').bind fun p1 => ((foldO (fun i4 s2 => ((some (min2 p1.1 (s2 + i4))).bind fun held_5 => some held_5)) p1.2.2.2 p1.2.1).bind fun s10 => (iteO (some (decide (s10 < p1.2.2.1))) none (some ())))).bind fun _ => some ()
theorem t_check_has_plan (dam' : (Int × Int × Int × (List Int))) : S_check_has_plan [(e4 eI eI eI (eR eI)) dam'] = (N_check_has_plan dam').map eU := d_runN (env := (fun (s : Unit) (z : (Slot × Slot × Slot × Slot × Slot)) => [.dat ((e4 eI eI eI (eR eI)) dam'), z.1, z.2.1, z.2.2.1, z.2.2.2.1, z.2.2.2.2])) (n_seq_bind (A := (some dam')) (envb := fun p1 => [.dat ((e4 eI eI eI (eR eI)) dam'), .dat (eI p1.1), .dat (eI p1.2.1), .dat (eI p1.2.2.1), .dat ((eR eI) p1.2.2.2), .no]) (t_var (i := 0) (e := (e4 eI eI eI (eR eI))) (v := dam') rfl) (fun _ => rfl) (fun p1 => (n_seq (env2 := (fun (s : (Int)) (z : (Slot)) => [.dat ((e4 eI eI eI (eR eI)) dam'), .dat (eI p1.1), .dat (eI s), .dat (eI p1.2.2.1), .dat ((eR eI) p1.2.2.2), z])) (A := (foldO (fun i4 s2 => ((some (min2 p1.1 (s2 + i4))).bind fun held_5 => some held_5)) p1.2.2.2 p1.2.1)) (n_for (env := (fun (s : (Int)) (z : (Slot)) => [.dat ((e4 eI eI eI (eR eI)) dam'), .dat (eI p1.1), .dat (eI s), .dat (eI p1.2.2.1), .dat ((eR eI) p1.2.2.2), z])) (s := p1.2.1) (z := (.no : Slot)) (L := (some p1.2.2.2)) (ea := eI) (Bd := (fun i4 s2 => ((some (min2 p1.1 (s2 + i4))).bind fun held_5 => some held_5))) rfl (i_seqR (A := (some p1.2.2.2)) (e := eI) (t_var (i := 4) (e := (eR eI)) (v := p1.2.2.2) rfl)) (fun i4 s2 z3 => ⟨[.dat ((e4 eI eI eI (eR eI)) dam'), .dat (eI p1.1), .dat (eI s2), .dat (eI p1.2.2.1), .dat ((eR eI) p1.2.2.2), .dat (eI i4)], rfl, (n_set  (K := fun held_5 => held_5) (i := 2) (A := (some (min2 p1.1 (s2 + i4)))) (t_f2 (A := (some p1.1)) (B := (some (s2 + i4))) (h := (fun x8 y9 => some (min2 x8 y9))) g_min2 (t_var (i := 1) (e := eI) (v := p1.1) rfl) (t_f2 (A := (some s2)) (B := (some i4)) (h := (fun x6 y7 => some (x6 + y7))) g_add (t_var (i := 2) (e := eI) (v := s2) rfl) (t_var (i := 5) (e := eI) (v := i4) rfl))) (lt_of rfl) (fun held_5 => ⟨(.dat (eI i4) : Slot), rfl⟩))⟩)) (fun s10 z11 => (n_if (P := (some (decide (s10 < p1.2.2.1)))) (A := none) (B := (some ())) (t_T (P := (some (decide (s10 < p1.2.2.1)))) (t_f2 (A := (some s10)) (B := (some p1.2.2.1)) (h := (fun x12 y13 => some (decide (x12 < y13)))) g_lt (t_var (i := 2) (e := eI) (v := s10) rfl) (t_var (i := 3) (e := eI) (v := p1.2.2.1) rfl))) n_never (n_nil (s := ()) (z := ((.dat (eI p1.1) : Slot), (.dat (eI s10) : Slot), (.dat (eI p1.2.2.1) : Slot), (.dat ((eR eI) p1.2.2.2) : Slot), (z11 : Slot))) rfl))))))
def N_windows (months' : Int) : Option (List (Int × Int)) := ((range1O months').bind fun l => comp2L (fun i1 => (some true)) (fun i1 => (range2O i1 months')) (fun i1 i4 => (some true)) (fun i1 i4 => (some (i1, i4))) l)
theorem t_windows (months' : Int) : S_windows [eI months'] = (N_windows months').map (eL (e2 eI eI)) := d_run (r_ret (A := ((range1O months').bind fun l => comp2L (fun i1 => (some true)) (fun i1 => (range2O i1 months')) (fun i1 i4 => (some true)) (fun i1 i4 => (some (i1, i4))) l)) (t_lc2 (L := (range1O months')) (ea := eI) (eb := eI) (ec := (e2 eI eI)) (T := fun i1 => (some true)) (M := fun i1 => (range2O i1 months')) (T2 := fun i1 i4 => (some true)) (B2 := fun i1 i4 => (some (i1, i4))) (i_range1 (A := (some months')) (t_var (i := 0) (e := eI) (v := months') rfl)) (fun i1 => ⟨[.dat (eI months'), .dat (eI i1), .no], rfl, t_yes, (i_range2 (A := (some i1)) (B := (some months')) (t_var (i := 1) (e := eI) (v := i1) rfl) (t_var (i := 0) (e := eI) (v := months') rfl)), fun i4 => ⟨[.dat (eI months'), .dat (eI i1), .dat (eI i4)], rfl, t_yes, (t_tup2 (A := (some i1)) (B := (some i4)) (t_var (i := 1) (e := eI) (v := i1) rfl) (t_var (i := 2) (e := eI) (v := i4) rfl))⟩⟩)))
def N_in_window (amounts' : (List Int)) (window' : (Int × Int)) : Option (List Int) := ((some window').bind fun p1 => (some (cutT amounts' (some p1.1) (some (p1.2 + (1 : Int))))))
theorem t_in_window (amounts' : (List Int)) (window' : (Int × Int)) : S_in_window [(eR eI) amounts', (e2 eI eI) window'] = (N_in_window amounts' window').map (eR eI) := d_run (r_seq_bind (A := (some window')) (envb := fun p1 => [.dat ((eR eI) amounts'), .dat ((e2 eI eI) window'), .dat (eI p1.1), .dat (eI p1.2)]) (t_var (i := 1) (e := (e2 eI eI)) (v := window') rfl) (fun _ => rfl) (fun p1 => (r_ret (A := (some (cutT amounts' (some p1.1) (some (p1.2 + (1 : Int)))))) (t_cut (A := (some amounts')) (L := (some (some p1.1))) (H := (some (some (p1.2 + (1 : Int))))) g_cutR (t_var (i := 0) (e := (eR eI)) (v := amounts') rfl) (t_part (o := (some p1.1)) (t_var (i := 2) (e := eI) (v := p1.1) rfl)) (t_part (o := (some (p1.2 + (1 : Int)))) (t_f2 (A := (some p1.2)) (B := (some (1 : Int))) (h := (fun x3 y4 => some (x3 + y4))) g_add (t_var (i := 3) (e := eI) (v := p1.2) rfl) (t_int (i := 1))))))))
def N_most_water (dam' : (Int × Int × Int × (List Int))) (window' : (Int × Int)) : Option Int := ((some dam').bind fun p1 => ((some (cond (decide (window'.1 = (0 : Int))) p1.2.1 p1.1)).bind fun held_2 => ((some held_2).bind fun x7 => ((N_in_window p1.2.2.2 window').bind (fun x6 => some (List.sum x6))).bind fun y8 => some (x7 + y8))))
theorem t_most_water (dam' : (Int × Int × Int × (List Int))) (window' : (Int × Int)) : S_most_water [(e4 eI eI eI (eR eI)) dam', (e2 eI eI) window'] = (N_most_water dam' window').map eI := d_run (r_seq_bind (A := (some dam')) (envb := fun p1 => [.dat ((e4 eI eI eI (eR eI)) dam'), .dat ((e2 eI eI) window'), .dat (eI p1.1), .dat (eI p1.2.1), .dat (eI p1.2.2.1), .dat ((eR eI) p1.2.2.2), .no]) (t_var (i := 0) (e := (e4 eI eI eI (eR eI))) (v := dam') rfl) (fun _ => rfl) (fun p1 => (r_seq_set (i := 6) (A := (some (cond (decide (window'.1 = (0 : Int))) p1.2.1 p1.1))) (t_ifP (b := (decide (window'.1 = (0 : Int)))) (x := p1.2.1) (y := p1.1) (t_T (P := (some (decide (window'.1 = (0 : Int))))) (t_f2 (A := (some window'.1)) (B := (some (0 : Int))) (h := (fun x4 y5 => some (decide (x4 = y5)))) (g_eq enc_I rfl) (t_ixc (A := (some window')) (k := 0) (pr := fun x3 => x3.1) (eb := eI) (fun _ => rfl) (t_var (i := 1) (e := (e2 eI eI)) (v := window') rfl)) (t_int (i := 0)))) (t_var (i := 3) (e := eI) (v := p1.2.1) rfl) (t_var (i := 2) (e := eI) (v := p1.1) rfl)) (lt_of rfl) (fun held_2 => (r_ret (A := ((some held_2).bind fun x7 => ((N_in_window p1.2.2.2 window').bind (fun x6 => some (List.sum x6))).bind fun y8 => some (x7 + y8))) (t_f2 (A := (some held_2)) (B := ((N_in_window p1.2.2.2 window').bind (fun x6 => some (List.sum x6)))) (h := (fun x7 y8 => some (x7 + y8))) g_add (t_var (i := 6) (e := eI) (v := held_2) rfl) (t_f1 (A := (N_in_window p1.2.2.2 window')) (h := (fun x6 => some (List.sum x6))) g_sumR (t_call2 (A := (some p1.2.2.2)) (B := (some window')) t_in_window (t_var (i := 5) (e := (eR eI)) (v := p1.2.2.2) rfl) (t_var (i := 1) (e := (e2 eI eI)) (v := window') rfl)))))))))
def N_spare_water (dam' : (Int × Int × Int × (List Int))) (window' : (Int × Int)) : Option Int := ((some dam').bind fun p1 => ((N_most_water dam' window').bind fun water_2 => (some (cond (decide (window'.2 = (((p1.2.2.2).length : Int) - (1 : Int)))) (water_2 - p1.2.2.1) water_2))))
theorem t_spare_water (dam' : (Int × Int × Int × (List Int))) (window' : (Int × Int)) : S_spare_water [(e4 eI eI eI (eR eI)) dam', (e2 eI eI) window'] = (N_spare_water dam' window').map eI := d_run (r_seq_bind (A := (some dam')) (envb := fun p1 => [.dat ((e4 eI eI eI (eR eI)) dam'), .dat ((e2 eI eI) window'), .dat (eI p1.2.1), .dat (eI p1.2.2.1), .dat ((eR eI) p1.2.2.2), .no]) (t_var (i := 0) (e := (e4 eI eI eI (eR eI))) (v := dam') rfl) (fun _ => rfl) (fun p1 => (r_seq_set (i := 5) (A := (N_most_water dam' window')) (t_call2 (A := (some dam')) (B := (some window')) t_most_water (t_var (i := 0) (e := (e4 eI eI eI (eR eI))) (v := dam') rfl) (t_var (i := 1) (e := (e2 eI eI)) (v := window') rfl)) (lt_of rfl) (fun water_2 => (r_ret (A := (some (cond (decide (window'.2 = (((p1.2.2.2).length : Int) - (1 : Int)))) (water_2 - p1.2.2.1) water_2))) (t_ifP (b := (decide (window'.2 = (((p1.2.2.2).length : Int) - (1 : Int))))) (x := (water_2 - p1.2.2.1)) (y := water_2) (t_T (P := (some (decide (window'.2 = (((p1.2.2.2).length : Int) - (1 : Int)))))) (t_f2 (A := (some window'.2)) (B := (some (((p1.2.2.2).length : Int) - (1 : Int)))) (h := (fun x7 y8 => some (decide (x7 = y8)))) (g_eq enc_I rfl) (t_ixc (A := (some window')) (k := 1) (pr := fun x3 => x3.2) (eb := eI) (fun _ => rfl) (t_var (i := 1) (e := (e2 eI eI)) (v := window') rfl)) (t_f2 (A := (some ((p1.2.2.2).length : Int))) (B := (some (1 : Int))) (h := (fun x5 y6 => some (x5 - y6))) g_sub (t_f1 (A := (some p1.2.2.2)) (h := (fun x4 => some ((x4).length : Int))) g_lenR (t_var (i := 4) (e := (eR eI)) (v := p1.2.2.2) rfl)) (t_int (i := 1))))) (t_f2 (A := (some water_2)) (B := (some p1.2.2.1)) (h := (fun x9 y10 => some (x9 - y10))) g_sub (t_var (i := 5) (e := eI) (v := water_2) rfl) (t_var (i := 3) (e := eI) (v := p1.2.2.1) rfl)) (t_var (i := 5) (e := eI) (v := water_2) rfl)))))))
def N_ratio (top' : Int) (bottom' : Int) : Option (Int × Int) := ((some ((Nat.gcd (top').natAbs (bottom').natAbs : Nat) : Int)).bind fun shared_1 => ((divO top' shared_1).bind fun x8 => (divO bottom' shared_1).bind fun x9 => some (x8, x9)))
theorem t_ratio (top' : Int) (bottom' : Int) : S_ratio [eI top', eI bottom'] = (N_ratio top' bottom').map (e2 eI eI) := d_run (r_seq_set (i := 2) (A := (some ((Nat.gcd (top').natAbs (bottom').natAbs : Nat) : Int))) (t_f2 (A := (some top')) (B := (some bottom')) (h := (fun x2 y3 => some ((Nat.gcd (x2).natAbs (y3).natAbs : Nat) : Int))) g_gcd (t_var (i := 0) (e := eI) (v := top') rfl) (t_var (i := 1) (e := eI) (v := bottom') rfl)) (lt_of rfl) (fun shared_1 => (r_ret (A := ((divO top' shared_1).bind fun x8 => (divO bottom' shared_1).bind fun x9 => some (x8, x9))) (t_tup2 (A := (divO top' shared_1)) (B := (divO bottom' shared_1)) (t_f2 (A := (some top')) (B := (some shared_1)) (h := (fun x4 y5 => (divO x4 y5))) g_div (t_var (i := 0) (e := eI) (v := top') rfl) (t_var (i := 2) (e := eI) (v := shared_1) rfl)) (t_f2 (A := (some bottom')) (B := (some shared_1)) (h := (fun x6 y7 => (divO x6 y7))) g_div (t_var (i := 1) (e := eI) (v := bottom') rfl) (t_var (i := 2) (e := eI) (v := shared_1) rfl))))))
def N_window_yield (dam' : (Int × Int × Int × (List Int))) (window' : (Int × Int)) : Option (Int × Int) := ((some window').bind fun p1 => ((N_spare_water dam' window').bind fun a6 => (some ((p1.2 - p1.1) + (1 : Int))).bind fun a7 => N_ratio a6 a7))
theorem t_window_yield (dam' : (Int × Int × Int × (List Int))) (window' : (Int × Int)) : S_window_yield [(e4 eI eI eI (eR eI)) dam', (e2 eI eI) window'] = (N_window_yield dam' window').map (e2 eI eI) := d_run (r_seq_bind (A := (some window')) (envb := fun p1 => [.dat ((e4 eI eI eI (eR eI)) dam'), .dat ((e2 eI eI) window'), .dat (eI p1.1), .dat (eI p1.2)]) (t_var (i := 1) (e := (e2 eI eI)) (v := window') rfl) (fun _ => rfl) (fun p1 => (r_ret (A := ((N_spare_water dam' window').bind fun a6 => (some ((p1.2 - p1.1) + (1 : Int))).bind fun a7 => N_ratio a6 a7)) (t_call2 (A := (N_spare_water dam' window')) (B := (some ((p1.2 - p1.1) + (1 : Int)))) t_ratio (t_call2 (A := (some dam')) (B := (some window')) t_spare_water (t_var (i := 0) (e := (e4 eI eI eI (eR eI))) (v := dam') rfl) (t_var (i := 1) (e := (e2 eI eI)) (v := window') rfl)) (t_f2 (A := (some (p1.2 - p1.1))) (B := (some (1 : Int))) (h := (fun x4 y5 => some (x4 + y5))) g_add (t_f2 (A := (some p1.2)) (B := (some p1.1)) (h := (fun x2 y3 => some (x2 - y3))) g_sub (t_var (i := 3) (e := eI) (v := p1.2) rfl) (t_var (i := 2) (e := eI) (v := p1.1) rfl)) (t_int (i := 1)))))))
def N_is_less (one' : (Int × Int)) (other' : (Int × Int)) : Option Bool := ((mulO one'.1 other'.2).bind fun x9 => (mulO other'.1 one'.2).bind fun y10 => some (decide (x9 < y10)))
theorem t_is_less (one' : (Int × Int)) (other' : (Int × Int)) : S_is_less [(e2 eI eI) one', (e2 eI eI) other'] = (N_is_less one' other').map eB := d_run (r_ret (A := ((mulO one'.1 other'.2).bind fun x9 => (mulO other'.1 one'.2).bind fun y10 => some (decide (x9 < y10)))) (t_f2 (A := (mulO one'.1 other'.2)) (B := (mulO other'.1 one'.2)) (h := (fun x9 y10 => some (decide (x9 < y10)))) g_lt (t_f2 (A := (some one'.1)) (B := (some other'.2)) (h := (fun x3 y4 => (mulO x3 y4))) g_mul (t_ixc (A := (some one')) (k := 0) (pr := fun x1 => x1.1) (eb := eI) (fun _ => rfl) (t_var (i := 0) (e := (e2 eI eI)) (v := one') rfl)) (t_ixc (A := (some other')) (k := 1) (pr := fun x2 => x2.2) (eb := eI) (fun _ => rfl) (t_var (i := 1) (e := (e2 eI eI)) (v := other') rfl))) (t_f2 (A := (some other'.1)) (B := (some one'.2)) (h := (fun x7 y8 => (mulO x7 y8))) g_mul (t_ixc (A := (some other')) (k := 0) (pr := fun x5 => x5.1) (eb := eI) (fun _ => rfl) (t_var (i := 1) (e := (e2 eI eI)) (v := other') rfl)) (t_ixc (A := (some one')) (k := 1) (pr := fun x6 => x6.2) (eb := eI) (fun _ => rfl) (t_var (i := 0) (e := (e2 eI eI)) (v := one') rfl)))))
def N_least_ratio (ratios' : (List (Int × Int))) : Option (Int × Int) := ((atI ratios' (0 : Int)).bind fun least_1 => ((foldO (fun i6 s4 => (iteO (N_is_less i6 s4) ((some i6).bind fun least_7 => some least_7) (some s4))) ratios' least_1).bind fun s8 => (some s8)))
theorem t_least_ratio (ratios' : (List (Int × Int))) : S_least_ratio [(eL (e2 eI eI)) ratios'] = (N_least_ratio ratios').map (e2 eI eI) := d_run (r_seq_set (i := 1) (A := (atI ratios' (0 : Int))) (t_f2 (A := (some ratios')) (B := (some (0 : Int))) (h := (fun x2 y3 => (atI x2 y3))) g_ixL (t_var (i := 0) (e := (eL (e2 eI eI))) (v := ratios') rfl) (t_int (i := 0))) (lt_of rfl) (fun least_1 => (r_seq_nx (env := (fun (s : ((Int × Int))) (z : (Slot)) => [.dat ((eL (e2 eI eI)) ratios'), .dat ((e2 eI eI) s), z])) (A := (foldO (fun i6 s4 => (iteO (N_is_less i6 s4) ((some i6).bind fun least_7 => some least_7) (some s4))) ratios' least_1)) (n_for (env := (fun (s : ((Int × Int))) (z : (Slot)) => [.dat ((eL (e2 eI eI)) ratios'), .dat ((e2 eI eI) s), z])) (s := least_1) (z := (.no : Slot)) (L := (some ratios')) (ea := (e2 eI eI)) (Bd := (fun i6 s4 => (iteO (N_is_less i6 s4) ((some i6).bind fun least_7 => some least_7) (some s4)))) rfl (i_seqL (A := (some ratios')) (e := (e2 eI eI)) (t_var (i := 0) (e := (eL (e2 eI eI))) (v := ratios') rfl)) (fun i6 s4 z5 => ⟨[.dat ((eL (e2 eI eI)) ratios'), .dat ((e2 eI eI) s4), .dat ((e2 eI eI) i6)], rfl, (n_if (P := (N_is_less i6 s4)) (A := ((some i6).bind fun least_7 => some least_7)) (B := (some s4)) (t_T (P := (N_is_less i6 s4)) (t_call2 (A := (some i6)) (B := (some s4)) t_is_less (t_var (i := 2) (e := (e2 eI eI)) (v := i6) rfl) (t_var (i := 1) (e := (e2 eI eI)) (v := s4) rfl))) (n_set  (K := fun least_7 => least_7) (i := 1) (A := (some i6)) (t_var (i := 2) (e := (e2 eI eI)) (v := i6) rfl) (lt_of rfl) (fun least_7 => ⟨(.dat ((e2 eI eI) i6) : Slot), rfl⟩)) (n_nil (s := s4) (z := (.dat ((e2 eI eI) i6) : Slot)) rfl))⟩)) (fun s8 z9 => (r_ret (A := (some s8)) (t_var (i := 1) (e := (e2 eI eI)) (v := s8) rfl))))))
def N_firm_yield (dam' : (Int × Int × Int × (List Int))) : Option (Int × Int) := ((N_check_dam dam').bind fun _ => ((N_check_has_plan dam').bind fun _ => (((N_windows ((dam'.2.2.2).length : Int)).bind fun l => compL (fun i3 => (some true)) (fun i3 => (N_window_yield dam' i3)) l).bind fun a4 => N_least_ratio a4)))
theorem t_firm_yield (dam' : (Int × Int × Int × (List Int))) : S_firm_yield [(e4 eI eI eI (eR eI)) dam'] = (N_firm_yield dam').map (e2 eI eI) := d_run (r_seq_expr (A := (N_check_dam dam')) (t_call1 (A := (some dam')) t_check_dam (t_var (i := 0) (e := (e4 eI eI eI (eR eI))) (v := dam') rfl)) (r_seq_expr (A := (N_check_has_plan dam')) (t_call1 (A := (some dam')) t_check_has_plan (t_var (i := 0) (e := (e4 eI eI eI (eR eI))) (v := dam') rfl)) (r_ret (A := (((N_windows ((dam'.2.2.2).length : Int)).bind fun l => compL (fun i3 => (some true)) (fun i3 => (N_window_yield dam' i3)) l).bind fun a4 => N_least_ratio a4)) (t_call1 (A := ((N_windows ((dam'.2.2.2).length : Int)).bind fun l => compL (fun i3 => (some true)) (fun i3 => (N_window_yield dam' i3)) l)) t_least_ratio (t_lc (L := (N_windows ((dam'.2.2.2).length : Int))) (ea := (e2 eI eI)) (eb := (e2 eI eI)) (T := fun i3 => (some true)) (Bf := fun i3 => (N_window_yield dam' i3)) (i_seqL (A := (N_windows ((dam'.2.2.2).length : Int))) (e := (e2 eI eI)) (t_call1 (A := (some ((dam'.2.2.2).length : Int))) t_windows (t_f1 (A := (some dam'.2.2.2)) (h := (fun x2 => some ((x2).length : Int))) g_lenR (t_ixc (A := (some dam')) (k := 3) (pr := fun x1 => x1.2.2.2) (eb := (eR eI)) (fun _ => rfl) (t_var (i := 0) (e := (e4 eI eI eI (eR eI))) (v := dam') rfl))))) (fun i3 => ⟨[.dat ((e4 eI eI eI (eR eI)) dam'), .dat ((e2 eI eI) i3)], rfl, t_yes, (t_call2 (A := (some dam')) (B := (some i3)) t_window_yield (t_var (i := 0) (e := (e4 eI eI eI (eR eI))) (v := dam') rfl) (t_var (i := 1) (e := (e2 eI eI)) (v := i3) rfl))⟩))))))
def N_check_capacity (capacity' : Int) (most' : Int) : Option Unit := (iteO ((N_is_between capacity' (0 : Int) most').bind fun b1 => some (!b1)) none (some ())).bind fun _ => some ()
theorem t_check_capacity (capacity' : Int) (most' : Int) : S_check_capacity [eI capacity', eI most'] = (N_check_capacity capacity' most').map eU := d_runN (env := (fun (s : Unit) (z : Unit) => [.dat (eI capacity'), .dat (eI most')])) (n_if (P := ((N_is_between capacity' (0 : Int) most').bind fun b1 => some (!b1))) (A := none) (B := (some ())) (t_knot (P := (N_is_between capacity' (0 : Int) most')) (t_T (P := (N_is_between capacity' (0 : Int) most')) (t_call3 (A := (some capacity')) (B := (some (0 : Int))) (C := (some most')) t_is_between (t_var (i := 0) (e := eI) (v := capacity') rfl) (t_int (i := 0)) (t_var (i := 1) (e := eI) (v := most') rfl)))) n_never (n_nil (s := ()) (z := ()) rfl))
def N_check_capacity__d (x0 : Int) : Option Unit := N_check_capacity x0 1000
theorem t_check_capacity__d (x0 : Int) : S_check_capacity__d [eI x0] = (N_check_capacity__d x0).map eU := t_check_capacity x0 1000
def N_check_inflows (inflows' : (List Int)) : Option Unit := (iteO ((N_is_inflows inflows').bind fun b1 => some (!b1)) none (some ())).bind fun _ => some ()
theorem t_check_inflows (inflows' : (List Int)) : S_check_inflows [(eR eI) inflows'] = (N_check_inflows inflows').map eU := d_runN (env := (fun (s : Unit) (z : Unit) => [.dat ((eR eI) inflows')])) (n_if (P := ((N_is_inflows inflows').bind fun b1 => some (!b1))) (A := none) (B := (some ())) (t_knot (P := (N_is_inflows inflows')) (t_T (P := (N_is_inflows inflows')) (t_call1 (A := (some inflows')) t_is_inflows (t_var (i := 0) (e := (eR eI)) (v := inflows') rfl)))) n_never (n_nil (s := ()) (z := ()) rfl))
def N_round_yield (capacity' : Int) (inflows' : (List Int)) : Option (Int × Int) := ((N_check_capacity__d capacity').bind fun _ => ((N_check_inflows inflows').bind fun _ => ((some ((inflows').length : Int)).bind fun months_1 => ((catO inflows' inflows').bind fun twice_3 => ((((N_ratio (List.sum inflows') months_1).bind fun x8 => (some []).bind fun y9 => some (x8 :: y9)).bind dispO).bind fun yields_6 => (((range1O months_1).bind fun l => foldO (fun i12 s10 => (((range2O (1 : Int) (months_1 + (1 : Int))).bind fun l => foldO (fun i19 s17 => ((N_ratio (capacity' + (List.sum (cutT twice_3 (some i12) (some (i12 + i19))))) i19).bind fun x28 => (appO s17 x28).bind fun yields_27 => some yields_27)) l s10).bind fun s29 => some s29)) l yields_6).bind fun s31 => (N_least_ratio s31)))))))
theorem t_round_yield (capacity' : Int) (inflows' : (List Int)) : S_round_yield [eI capacity', (eR eI) inflows'] = (N_round_yield capacity' inflows').map (e2 eI eI) := d_run (r_seq_expr (A := (N_check_capacity__d capacity')) (t_call1 (A := (some capacity')) t_check_capacity__d (t_var (i := 0) (e := eI) (v := capacity') rfl)) (r_seq_expr (A := (N_check_inflows inflows')) (t_call1 (A := (some inflows')) t_check_inflows (t_var (i := 1) (e := (eR eI)) (v := inflows') rfl)) (r_seq_set (i := 2) (A := (some ((inflows').length : Int))) (t_f1 (A := (some inflows')) (h := (fun x2 => some ((x2).length : Int))) g_lenR (t_var (i := 1) (e := (eR eI)) (v := inflows') rfl)) (lt_of rfl) (fun months_1 => (r_seq_set (i := 3) (A := (catO inflows' inflows')) (t_f2 (A := (some inflows')) (B := (some inflows')) (h := (fun x4 y5 => (catO x4 y5))) g_addR (t_var (i := 1) (e := (eR eI)) (v := inflows') rfl) (t_var (i := 1) (e := (eR eI)) (v := inflows') rfl)) (lt_of rfl) (fun twice_3 => (r_seq_own (i := 4) (ea := (e2 eI eI)) (A := (((N_ratio (List.sum inflows') months_1).bind fun x8 => (some []).bind fun y9 => some (x8 :: y9)).bind dispO)) (t_lstL (L := ((N_ratio (List.sum inflows') months_1).bind fun x8 => (some []).bind fun y9 => some (x8 :: y9))) (t_cons (A := (N_ratio (List.sum inflows') months_1)) (L := (some [])) (t_call2 (A := (some (List.sum inflows'))) (B := (some months_1)) t_ratio (t_f1 (A := (some inflows')) (h := (fun x7 => some (List.sum x7))) g_sumR (t_var (i := 1) (e := (eR eI)) (v := inflows') rfl)) (t_var (i := 2) (e := eI) (v := months_1) rfl)) (t_nil (α := (Int × Int)) (e := (e2 eI eI))))) (lt_of rfl) (fun yields_6 => (r_seq_nx (env := (fun (s : ((List (Int × Int)))) (z : (Slot × Slot)) => [.dat (eI capacity'), .dat ((eR eI) inflows'), .dat (eI months_1), .dat ((eR eI) twice_3), .own (List.map (e2 eI eI) s), z.1, z.2])) (A := ((range1O months_1).bind fun l => foldO (fun i12 s10 => (((range2O (1 : Int) (months_1 + (1 : Int))).bind fun l => foldO (fun i19 s17 => ((N_ratio (capacity' + (List.sum (cutT twice_3 (some i12) (some (i12 + i19))))) i19).bind fun x28 => (appO s17 x28).bind fun yields_27 => some yields_27)) l s10).bind fun s29 => some s29)) l yields_6)) (n_for (env := (fun (s : ((List (Int × Int)))) (z : (Slot × Slot)) => [.dat (eI capacity'), .dat ((eR eI) inflows'), .dat (eI months_1), .dat ((eR eI) twice_3), .own (List.map (e2 eI eI) s), z.1, z.2])) (s := yields_6) (z := ((.no : Slot), (.no : Slot))) (L := (range1O months_1)) (ea := eI) (Bd := (fun i12 s10 => (((range2O (1 : Int) (months_1 + (1 : Int))).bind fun l => foldO (fun i19 s17 => ((N_ratio (capacity' + (List.sum (cutT twice_3 (some i12) (some (i12 + i19))))) i19).bind fun x28 => (appO s17 x28).bind fun yields_27 => some yields_27)) l s10).bind fun s29 => some s29))) rfl (i_range1 (A := (some months_1)) (t_var (i := 2) (e := eI) (v := months_1) rfl)) (fun i12 s10 z11 => ⟨[.dat (eI capacity'), .dat ((eR eI) inflows'), .dat (eI months_1), .dat ((eR eI) twice_3), .own (List.map (e2 eI eI) s10), .dat (eI i12), z11.2], rfl, (n_conv (env2 := (fun (s : ((List (Int × Int)))) (z : (Slot)) => [.dat (eI capacity'), .dat ((eR eI) inflows'), .dat (eI months_1), .dat ((eR eI) twice_3), .own (List.map (e2 eI eI) s), .dat (eI i12), z])) (A := ((range2O (1 : Int) (months_1 + (1 : Int))).bind fun l => foldO (fun i19 s17 => ((N_ratio (capacity' + (List.sum (cutT twice_3 (some i12) (some (i12 + i19))))) i19).bind fun x28 => (appO s17 x28).bind fun yields_27 => some yields_27)) l s10)) (K := fun s29 => s29) (n_for (env := (fun (s : ((List (Int × Int)))) (z : (Slot)) => [.dat (eI capacity'), .dat ((eR eI) inflows'), .dat (eI months_1), .dat ((eR eI) twice_3), .own (List.map (e2 eI eI) s), .dat (eI i12), z])) (s := s10) (z := (z11.2 : Slot)) (L := (range2O (1 : Int) (months_1 + (1 : Int)))) (ea := eI) (Bd := (fun i19 s17 => ((N_ratio (capacity' + (List.sum (cutT twice_3 (some i12) (some (i12 + i19))))) i19).bind fun x28 => (appO s17 x28).bind fun yields_27 => some yields_27))) rfl (i_range2 (A := (some (1 : Int))) (B := (some (months_1 + (1 : Int)))) (t_int (i := 1)) (t_f2 (A := (some months_1)) (B := (some (1 : Int))) (h := (fun x13 y14 => some (x13 + y14))) g_add (t_var (i := 2) (e := eI) (v := months_1) rfl) (t_int (i := 1)))) (fun i19 s17 z18 => ⟨[.dat (eI capacity'), .dat ((eR eI) inflows'), .dat (eI months_1), .dat ((eR eI) twice_3), .own (List.map (e2 eI eI) s17), .dat (eI i12), .dat (eI i19)], rfl, (n_app (i := 4) (A := (N_ratio (capacity' + (List.sum (cutT twice_3 (some i12) (some (i12 + i19))))) i19)) (v := s17) (K := fun yields_27 => yields_27) (t_call2 (A := (some (capacity' + (List.sum (cutT twice_3 (some i12) (some (i12 + i19))))))) (B := (some i19)) t_ratio (t_f2 (A := (some capacity')) (B := (some (List.sum (cutT twice_3 (some i12) (some (i12 + i19)))))) (h := (fun x25 y26 => some (x25 + y26))) g_add (t_var (i := 0) (e := eI) (v := capacity') rfl) (t_f1 (A := (some (cutT twice_3 (some i12) (some (i12 + i19))))) (h := (fun x24 => some (List.sum x24))) g_sumR (t_cut (A := (some twice_3)) (L := (some (some i12))) (H := (some (some (i12 + i19)))) g_cutR (t_var (i := 3) (e := (eR eI)) (v := twice_3) rfl) (t_part (o := (some i12)) (t_var (i := 5) (e := eI) (v := i12) rfl)) (t_part (o := (some (i12 + i19))) (t_f2 (A := (some i12)) (B := (some i19)) (h := (fun x21 y22 => some (x21 + y22))) g_add (t_var (i := 5) (e := eI) (v := i12) rfl) (t_var (i := 6) (e := eI) (v := i19) rfl)))))) (t_var (i := 6) (e := eI) (v := i19) rfl)) rfl (fun yields_27 => ⟨(.dat (eI i19) : Slot), rfl⟩))⟩)) (fun s29 z30 => ⟨((.dat (eI i12) : Slot), (z30 : Slot)), rfl⟩))⟩)) (fun s31 z32 => (r_seq_rel (i := 4) (ea := (e2 eI eI)) (a := s31) rfl (r_ret (A := (N_least_ratio s31)) (t_call1 (A := (some s31)) t_least_ratio (t_var (i := 4) (e := (eL (e2 eI eI))) (v := s31) rfl))))))))))))))
def N_yield_curve (inflows' : (List Int)) (most' : Int) : Option (List (Int × Int)) := ((N_check_inflows inflows').bind fun _ => ((N_check_capacity most' (60 : Int)).bind fun _ => (((range1O (most' + (1 : Int))).bind fun l => compL (fun i3 => (some true)) (fun i3 => (N_firm_yield (i3, i3, (0 : Int), inflows'))) l).bind (fun x4 => some x4))))
theorem t_yield_curve (inflows' : (List Int)) (most' : Int) : S_yield_curve [(eR eI) inflows', eI most'] = (N_yield_curve inflows' most').map (eR (e2 eI eI)) := d_run (r_seq_expr (A := (N_check_inflows inflows')) (t_call1 (A := (some inflows')) t_check_inflows (t_var (i := 0) (e := (eR eI)) (v := inflows') rfl)) (r_seq_expr (A := (N_check_capacity most' (60 : Int))) (t_call2 (A := (some most')) (B := (some (60 : Int))) t_check_capacity (t_var (i := 1) (e := eI) (v := most') rfl) (t_int (i := 60))) (r_ret (A := (((range1O (most' + (1 : Int))).bind fun l => compL (fun i3 => (some true)) (fun i3 => (N_firm_yield (i3, i3, (0 : Int), inflows'))) l).bind (fun x4 => some x4))) (t_f1 (A := ((range1O (most' + (1 : Int))).bind fun l => compL (fun i3 => (some true)) (fun i3 => (N_firm_yield (i3, i3, (0 : Int), inflows'))) l)) (h := (fun x4 => some x4)) g_tupL (t_lc (L := (range1O (most' + (1 : Int)))) (ea := eI) (eb := (e2 eI eI)) (T := fun i3 => (some true)) (Bf := fun i3 => (N_firm_yield (i3, i3, (0 : Int), inflows'))) (i_range1 (A := (some (most' + (1 : Int)))) (t_f2 (A := (some most')) (B := (some (1 : Int))) (h := (fun x1 y2 => some (x1 + y2))) g_add (t_var (i := 1) (e := eI) (v := most') rfl) (t_int (i := 1)))) (fun i3 => ⟨[.dat ((eR eI) inflows'), .dat (eI most'), .dat (eI i3)], rfl, t_yes, (t_call1 (A := (some (i3, i3, (0 : Int), inflows'))) t_firm_yield (t_tup4 (A := (some i3)) (B := (some i3)) (C := (some (0 : Int))) (D := (some inflows')) (t_var (i := 2) (e := eI) (v := i3) rfl) (t_var (i := 2) (e := eI) (v := i3) rfl) (t_int (i := 0)) (t_var (i := 0) (e := (eR eI)) (v := inflows') rfl)))⟩))))))
end Ty
set_option Elab.async false
set_option linter.all false
set_option maxRecDepth 100000
set_option maxHeartbeats 4000000
namespace PySem
/-! enumerate(v), v anything that begins -/
set_option maxHeartbeats 4000000 in
theorem meets_enumerate_newB1 {v : Value} {o : Obj} {H : Heap → Prop} (B : Begins v o H) :
    Meets (Builtin.«enumerate.__new__» ⟨[.type "enumerate", v], []⟩) (fun _ R s => H s.heap ∧
      R (.ok (.ret (.ref (s.heap.push o).objs.size))) { s with heap := (s.heap.push o).push { cls := .type "enumerate", data := .fields #[.none, .bool false, .ref s.heap.objs.size, rawInt 0, .none, .none] } }) :=
  .of_wp fun prog w A R s h => by
    obtain ⟨hp, g, d, tk, os⟩ := s; obtain ⟨h1, h⟩ := h
    have hsub := sub_enumerate
    have q1 : ∀ {A' : Around} {E : Value → Shared → Prop} {Q : Value → Shared → Prop}, Q (.ref hp.objs.size) ⟨hp.push o, g, d, tk, os⟩ → wpAny (model prog w) A' (pyIter v) Q E ⟨hp, g, d, tk, os⟩ :=
      fun q => B.iter prog w _ _ ⟨hp, g, d, tk, os⟩ _ h1 q
    wp_walk using q1
    refine wpAny_stack_any fun st => wpAny_pure ?_
    split
    · rename_i c _ _ _ _ _
      cases (c == Value.type "enumerate")
      · wp_walk using q1
        exact ⟨_, rfl, h⟩
      · wp_walk using q1
        exact ⟨_, rfl, h⟩
    · wp_walk using q1
      exact ⟨_, rfl, h⟩
section
variable {prog : Program} {w : World} {A : Around} {E : Value → Shared → Prop} {s : Shared}
theorem enum_begins1 {v : Value} {o : Obj} {H : Heap → Prop} {Q : Value → Shared → Prop} (B : Begins v o H) (h1 : H s.heap)
    (h : ∀ h', IsEnum h' (s.heap.objs.size + 1) s.heap.objs.size 0 .none → h'.get? s.heap.objs.size = some o → h'.objs.size = s.heap.objs.size + 2 →
      (∀ b o, s.heap.get? b = some o → h'.get? b = some o) → Q (.ref (s.heap.objs.size + 1)) { s with heap := h' }) :
    wpAny (model prog w) A (call (.type "enumerate") [v]) Q E s := by
  refine callType_new F.called_enumerate (by decide) (F.typeCall_enumerate_1 _) (F.newCall_enumerate_1 _) (fun obj => F.args_object_init_2 obj _) F.entry_enumerate_new
    (meets_enumerate_newB1 B) ⟨h1, ?_⟩
  have hz : (s.heap.push o).objs.size = s.heap.objs.size + 1 := Heap.size_push ..
  show _ ∧ _
  rw [hz]
  have he : IsEnum ((s.heap.push o).push { cls := .type "enumerate", data := .fields #[.none, .bool false, .ref s.heap.objs.size, rawInt 0, .none, .none] }) (s.heap.objs.size + 1) s.heap.objs.size 0 .none := by
    have := Heap.get?_push_size (s.heap.push o) (o := { cls := .type "enumerate", data := .fields #[.none, .bool false, .ref s.heap.objs.size, rawInt 0, .none, .none] }) rfl
    rw [hz] at this; exact this
  refine ⟨⟨_, he, rfl⟩, h _ he (Heap.get?_push_of_some _ (Heap.get?_push_size _ B.free)) (by rw [Heap.size_push, hz]) fun b o x => Heap.get?_push_of_some _ (Heap.get?_push_of_some _ x)⟩
end
end PySem
namespace DN
open PySem PySem.Spec PyProof.Rows L2
/-- the tuple at a, each item in a new pair -/
def IteT (K : PySem.W.Frag) (a : Addr) : It :=
  ⟨fun i H => ∃ (xs : List V) (x : V), SqT K H a xs ∧ xs[i]? = some x, fun i H v H' => ∃ T x, v = .ref T ∧ H T = none ∧ H' = upd H T (.tup [.int (i : Nat), x]) ∧ ∀ xs, SqT K H a xs → xs[i]? = some x, fun i H => ∃ xs : List V, SqT K H a xs ∧ xs.length = i⟩
theorem turn_enumT {P : Program} {w : World} {K : PySem.W.Frag} {elts : List Expr} {kk : Nat} {tpos : Pos} (a e it : Addr) :
    Turn P w K (.Tuple elts kk tpos) (IteT K a) [e, it] e (fun i h => (∃ old, IsEnum h e it ((i : Nat) : Int) old) ∧ h.IsTupleIter it a i ∧ e ≠ it ∧ e ≠ a ∧ a ≠ it) where
  mem := by simp
  obj := fun i h st b hb => by
    obtain ⟨⟨old, he⟩, ⟨o, ho, hc, hd⟩, _⟩ := st
    have e' : b = e ∨ b = it := by simpa using hb
    rcases e' with z | z
    · rw [z]; exact ⟨_, he, fun v q => nomatch q⟩
    · rw [z]; exact ⟨o, ho, fun v q => by rw [hd] at q; cases q⟩
  keep := fun i h h' st k => let ⟨⟨old, he⟩, hi, hne⟩ := st; ⟨⟨old, k e (by simp) _ he⟩, hi.at fun o q => k it (by simp) o q, hne⟩
  item := by
    intro X hP hw hK hc i pins s σ H E I hf st hg
    subst hP hw hK
    obtain ⟨⟨old, he⟩, hit, hne, hea, hai⟩ := st
    obtain ⟨xs, x, hq, hx⟩ := hg
    obtain ⟨its, rv, p, hz⟩ := I.tuple hq
    obtain ⟨u, hu, ru⟩ := rv.get hx
    have hel : e < s.heap.objs.size := Heap.lt_size he
    have hil : it < s.heap.objs.size := by obtain ⟨_, q, _⟩ := hit; exact Heap.lt_size q
    have hlt : i < its.toArray.size := by
      rcases Nat.lt_or_ge i its.toArray.size with q | q
      · exact q
      · have : its[i]? = none := List.getElem?_eq_none (by simpa using q)
        rw [this] at hu
        cases hu
    have hh : X.A.in1.handled = none := I.ok.hd hc
    have D : Draws X.prog X.w X.A.in1 it [it, a] its.toArray.size (fun i v => its.toArray[i]? = some v) (fun i h => h.IsTupleIter it a i ∧ h.IsTuple a its.toArray) := Draws.tuple hh it a hai its.toArray
    refine wpAny_pyNext_enum_itemD D he ⟨hit, p⟩ hlt hne (by simp [hne, hea]) fun x' h' tk hP' ho hs' hT hsz hk => ?_
    have hx' : x' = u := by
      have h1 : its.toArray[i]? = some u := by simpa using hu
      rw [h1] at hP'
      exact (Option.some.inj hP').symm
    subst hx'
    refine ⟨_, rfl, wpAny_letOwnedTupleGo_enum (s := { s with heap := h', toks := tk + 1 }) ho fun h'' he' sb => ?_⟩
    have hT2 : h''.get? s.heap.objs.size = some { cls := .type "tuple", data := .seq #[.int i tk, x'] } := (sb.2 _ (Nat.ne_of_gt hel)).trans hT
    have new : ObjOk X.prog X.w (upd H s.heap.objs.size (.tup [.int (i : Nat), x])) h'' s.heap.objs.size (.tup [.int (i : Nat), x]) :=
      ⟨by show 2 ≤ sizeLine; decide, [.int i tk, x'], .cons ⟨_, rfl⟩ (.cons ru .nil), ⟨_, hT2, rfl, _, rfl⟩⟩
    have I1 : Inv X pins σ (upd H s.heap.objs.size (.tup [.int (i : Nat), x])) { s with heap := h'', toks := tk + 1 } :=
      I.turnedNew (t' := tk + 1) (ch := [e, it]) (fun b ob hb q => (sb.2 b (fun z => hb (by simp [z]))).trans (hk b ob (fun z => hb (by simp [z])) (fun z => hb (by simp [z])) q)) hf (Nat.le_refl _) new
    refine ⟨.ref s.heap.objs.size, _, I1, rfl, ⟨_, x, rfl, I.hok.fresh (Nat.le_refl _), rfl, fun ys hy => by rw [I.tuple_inj hy hq]; exact hx⟩, ⟨⟨x', ?_⟩, hs'.1.at fun o q => (sb.2 it (Ne.symm hne)).trans q, hne, hea, hai⟩, fun b hb => ?_⟩
    · have e1 : ((i + 1 : Nat) : Int) = (i : Int) + 1 := by omega
      rw [e1]; exact he'
    · have hb' : b < s.heap.objs.size := by
        have e' : b = e ∨ b = it := by simpa using hb
        rcases e' with z | z
        · rw [z]; exact hel
        · rw [z]; exact hil
      rw [upd_ne (Nat.ne_of_lt hb')]
      exact (hf b hb).1
  done := by
    intro X hP hw hK hc i pins s σ H E I hf st hg
    subst hP hw hK
    obtain ⟨⟨old, he⟩, hit, hne, hea, hai⟩ := st
    obtain ⟨xs, hq, hx⟩ := hg
    obtain ⟨its, rv, p, hz⟩ := I.tuple hq
    obtain ⟨f0, f1, f2, f3, f4, f5⟩ := hf it (by simp)
    have hl := rv.length
    have hh : X.A.in1.handled = none := I.ok.hd hc
    have D : Draws X.prog X.w X.A.in1 it [it, a] its.toArray.size (fun i v => its.toArray[i]? = some v) (fun i h => h.IsTupleIter it a i ∧ h.IsTuple a its.toArray) := Draws.tuple hh it a hai its.toArray
    have hn : i = its.toArray.size := by rw [List.size_toArray]; omega
    exact wpAny_pyNext_enum_endD D he (by rw [← hn]; exact ⟨hit, p⟩) fun h' eb => ⟨rfl, I.turned (t' := s.toks) (fun b o hb q => eb b o hb q) f0 f1 f3 f4 f5⟩
  self := fun A i s Q E st h => let ⟨⟨_, he⟩, _⟩ := st; wpAny_pyIter_enum he h
end DN
namespace DN
open PySem PySem.Spec PyProof.Rows L2
def iEnumA (K : PySem.W.Frag) (ta : TA) : TI := fun σ H R => ta σ H fun vs H1 => ∃ (a : Addr) (xs : List V), vs = [.ref a] ∧ ((SqL K H1 a xs ∧ R (Ite K a) H1) ∨ (SqT K H1 a xs ∧ R (IteT K a) H1))
theorem pi_enumA {X : Cx} {e : Expr} {ta : TA} {p pos tpos : Pos} {elts : List Expr} {kk : Nat} (hg : Gl X "enumerate") (hm : X.mg "enumerate" = none) (ha : PA X [e] ta) (hs : starEach [e] X.env = [(false, eval e X.env)] := by rfl) :
    PI X (.Tuple elts kk tpos) (.Call (.Name "enumerate" p) [e] [] pos) (iEnumA X.K ta) := by
  refine ⟨fun pins s σ H R I h => ?_⟩
  refine Call_ (ld_blt I hg hm boot_enumerate (PyProof.Rows.callWith_type1 (thn (ha.run pos pins s σ H _ I h) fun us s1 ⟨vs, H1, I1, r1, q1⟩ => ?_) hs rfl))
  obtain ⟨a, xs, ex, q1⟩ := q1
  subst ex
  cases r1 with
  | cons r rr =>
    cases rr
    cases r
    have fresh2 : ∀ b, b ∈ [s1.heap.objs.size + 1, s1.heap.objs.size] → FpOk X pins H1 b := fun b hb => by
      have e' : b = s1.heap.objs.size + 1 ∨ b = s1.heap.objs.size := by simpa using hb
      have hle : s1.heap.objs.size ≤ b := by
        rcases e' with z | z
        · rw [z]; exact Nat.le_add_right _ _
        · rw [z]; exact Nat.le_refl _
      exact I1.fpOk hle (I1.hok.fresh hle)
    rcases q1 with ⟨hq, q⟩ | ⟨hq, q⟩
    · obtain ⟨its, rv, p', hz⟩ := I1.list hq
      refine call_enumerate_list p'.isList fun h' he hit hsz hk => wpAny_pyIter_enum he ?_
      have I2 : Inv X pins σ H1 { s1 with heap := h' } := I1.kept (t' := s1.toks) hk
      exact ⟨s1.heap.objs.size + 1, [s1.heap.objs.size + 1, s1.heap.objs.size], _, _, H1, rfl, I2, turn_enum a (s1.heap.objs.size + 1) s1.heap.objs.size, ⟨⟨.none, he⟩, hit, Nat.succ_ne_self _⟩, fresh2, q⟩
    · obtain ⟨its, rv, p', hz⟩ := I1.tuple hq
      have hla : a < s1.heap.objs.size := by obtain ⟨o, ho, _⟩ := id p'; exact Heap.lt_size ho
      refine enum_begins1 (begins_tuple a its.toArray) (show s1.heap.IsTuple a its.toArray from p') fun h' he hit hsz hk => wpAny_pyIter_enum he ?_
      have I2 : Inv X pins σ H1 { s1 with heap := h' } := I1.kept (t' := s1.toks) hk
      exact ⟨s1.heap.objs.size + 1, [s1.heap.objs.size + 1, s1.heap.objs.size], _, _, H1, rfl, I2, turn_enumT a (s1.heap.objs.size + 1) s1.heap.objs.size, ⟨⟨.none, he⟩, ⟨_, hit, rfl, rfl⟩, Nat.succ_ne_self _, (fun z => by rw [← z] at hla; exact Nat.lt_irrefl _ (Nat.lt_of_succ_lt hla)), Nat.ne_of_lt hla⟩, fresh2, q⟩
def enumD : Nat → List PyData → List PyData
  | _, [] => []
  | k, d :: r => .tuple [.int (k : Nat), d] :: enumD (k + 1) r
theorem enumD_len : ∀ (k : Nat) (ds : List PyData), (enumD k ds).length = ds.length
  | _, [] => rfl
  | k, d :: r => by
    show (enumD (k + 1) r).length + 1 = r.length + 1
    rw [enumD_len]
theorem enumD_get : ∀ {k : Nat} {ds : List PyData} {i : Nat} {d : PyData}, ds[i]? = some d → (enumD k ds)[i]? = some (.tuple [.int ((k + i : Nat) : Int), d])
  | _, [], _, _, h => by simp at h
  | k, a :: r, 0, d, h => by
    simp at h
    subst h
    rfl
  | k, a :: r, i + 1, d, h => by
    rw [List.getElem?_cons_succ] at h
    show (enumD (k + 1) r)[i]? = _
    rw [enumD_get h, show k + 1 + i = k + (i + 1) by omega]
def iEnumF (f : En → Option PyData) : En → Option (List PyData) := fun en => ((f en).bind items).map (enumD 0)
section
variable {X : Cx} {Ts : TsT} {pos p tpos : Pos} {e : Expr} {f : En → Option PyData} {elts : List Expr} {kk : Nat}
theorem gives_enum {K : PySem.W.Frag} {H1 : Hp} {O : List Addr} {J : It} {xs : List V} {ds : List PyData} (go : ∀ O' H2, Xt (hide H1 O) (hide H2 O') → Xt (hide H1 O) H2 → (∀ i x, xs[i]? = some x → J.go i H2) ∧ J.stop xs.length H2 ∧
      ∀ i v H3, J.yld i H2 v H3 → ∃ T x, v = .ref T ∧ H2 T = none ∧ H3 = upd H2 T (.tup [.int (i : Nat), x]) ∧ xs[i]? = some x)
    (a : DpAll K (hide H1 O) xs ds) : Gives K Ts J (enumD 0 ds) H1 O := fun O' H2 h1 h2 occ => by
  obtain ⟨g1, g2, g3⟩ := go O' H2 h1 h2
  have la := DpAll.len a
  have a2 := DpAll.mono h1 a
  refine ⟨fun i hi => ?_, ?_, fun i v H3 hi hy => ?_⟩
  · rw [enumD_len] at hi
    exact g1 i (xs[i]'(by omega)) (List.getElem?_eq_getElem _)
  · rw [enumD_len, ← la]
    exact g2
  · obtain ⟨T, x, rfl, nT, rfl, ex⟩ := g3 i v H3 hy
    obtain ⟨d1, hd1, q1⟩ := DpAll.get a2 ex
    have hg := enumD_get (k := 0) hd1
    rw [Nat.zero_add] at hg
    exact ⟨.tuple [.int (i : Nat), d1], hg, Xt.upd nT, fun t => t.new nT, tup_new nT (fun z => (occ T z).1 nT) (.cons (.int _) (.cons q1 .nil))⟩
theorem di_enum (hg : Gl X "enumerate") (hm : X.mg "enumerate" = none) (ha : DE X Ts e f) (hs : starEach [e] X.env = [(false, eval e X.env)] := by rfl) :
    DI X Ts (.Tuple elts kk tpos) (.Call (.Name "enumerate" p) [e] [] pos) (iEnumF f) :=
  PI.imp (pi_enumA (ta := tCons (tD X.K Ts f) tNil) hg hm (pa_cons ha pa_nil hs) hs) fun σ H R ⟨He, O, en, ds, rp, hf, kk⟩ => by
    unfold iEnumF at hf
    obtain ⟨es, h0, rfl⟩ := Option.map_eq_some_iff.mp hf
    obtain ⟨d, h1, h2⟩ := Option.bind_eq_some_iff.mp h0
    refine tD.of rp h1 fun v H1 x1 r1 q1 => ?_
    cases d <;> simp only [items] at h2 <;> cases h2
    · cases q1 with
      | lst s a =>
        have t1 := sqL_mono (fun o n e => (hide_some e).2) s
        refine ⟨_, _, rfl, .inl ⟨t1, kk _ H1 x1 r1.tabs (gives_enum (fun O' H2 y1 y2 => ?_) a)⟩⟩
        have u1 := sqL_mono (fun o n e => y2.get _ o e n) s
        exact ⟨fun i x ex => ⟨_, x, u1, ex⟩, ⟨_, u1, Nat.le_refl _⟩, fun i v H3 ⟨T, x, h1, h2, h3, h4⟩ => ⟨T, x, h1, h2, h3, h4 _ u1⟩⟩
    · cases q1 with
      | tup s a =>
        have t1 := sqT_mono (fun o n e => (hide_some e).2) s
        refine ⟨_, _, rfl, .inr ⟨t1, kk _ H1 x1 r1.tabs (gives_enum (fun O' H2 y1 y2 => ?_) a)⟩⟩
        have u1 := sqT_mono (fun o n e => y2.get _ o e n) s
        exact ⟨fun i x ex => ⟨_, x, u1, ex⟩, ⟨_, u1, rfl⟩, fun i v H3 ⟨T, x, h1, h2, h3, h4⟩ => ⟨T, x, h1, h2, h3, h4 _ u1⟩⟩
/-! ### reversed(x) in a for -/
def iRevF (f : En → Option PyData) : En → Option (List PyData) := fun en => ((f en).bind items).map List.reverse
theorem gives_rev {K : PySem.W.Frag} {H1 : Hp} {O : List Addr} {J : It} {xs : List V} {ds : List PyData} (go : ∀ O' H2, Xt (hide H1 O) (hide H2 O') → Xt (hide H1 O) H2 → (∀ i, i < xs.length → J.go i H2) ∧ J.stop xs.length H2 ∧
      ∀ i v H3, J.yld i H2 v H3 → H3 = H2 ∧ xs[xs.length - 1 - i]? = some v)
    (a : DpAll K (hide H1 O) xs ds) : Gives K Ts J ds.reverse H1 O := fun O' H2 h1 h2 occ => by
  obtain ⟨g1, g2, g3⟩ := go O' H2 h1 h2
  have la := DpAll.len a
  have a2 := DpAll.mono h1 a
  refine ⟨fun i hi => ?_, ?_, fun i v H3 hi hy => ?_⟩
  · rw [List.length_reverse] at hi
    exact g1 i (by omega)
  · rw [List.length_reverse, ← la]
    exact g2
  · obtain ⟨rfl, ex⟩ := g3 i v H3 hy
    obtain ⟨d1, hd1, q1⟩ := DpAll.get a2 ex
    rw [List.length_reverse] at hi
    refine ⟨d1, ?_, Xt.refl _, fun t => t, q1⟩
    rw [List.getElem?_reverse hi, ← la]
    exact hd1
theorem di_rev {tg : Expr} (hg : Gl X "reversed") (hm : X.mg "reversed" = none) (ha : DE X Ts e f) (hs : starEach [e] X.env = (false, eval e X.env) :: starEach [] X.env := by rfl) :
    DI X Ts tg (.Call (.Name "reversed" p) [e] [] pos) (iRevF f) :=
  PI.imp (RT.pi_revA hg hm ha hs) fun σ H R ⟨He, O, en, ds, rp, hf, kk⟩ => by
    unfold iRevF at hf
    obtain ⟨es, h0, rfl⟩ := Option.map_eq_some_iff.mp hf
    obtain ⟨d, h1, h2⟩ := Option.bind_eq_some_iff.mp h0
    refine tD.of rp h1 fun v H1 x1 r1 q1 => ?_
    cases d <;> simp only [items] at h2 <;> cases h2
    · cases q1 with
      | lst s a =>
        have t1 := sqL_mono (fun o n e => (hide_some e).2) s
        refine ⟨_, _, rfl, .inl ⟨t1, kk _ H1 x1 r1.tabs (gives_rev (fun O' H2 y1 y2 => ?_) a)⟩⟩
        have u1 := sqL_mono (fun o n e => y2.get _ o e n) s
        exact ⟨fun i hi => ⟨hi, _, _, u1, List.getElem?_eq_getElem (by omega)⟩, Nat.le_refl _, fun i v H3 ⟨h3, h4⟩ => ⟨h3, h4 _ u1⟩⟩
    · cases q1 with
      | tup s a =>
        have t1 := sqT_mono (fun o n e => (hide_some e).2) s
        refine ⟨_, _, rfl, .inr ⟨t1, kk _ H1 x1 r1.tabs (gives_rev (fun O' H2 y1 y2 => ?_) a)⟩⟩
        have u1 := sqT_mono (fun o n e => y2.get _ o e n) s
        exact ⟨fun i hi => ⟨hi, _, _, u1, List.getElem?_eq_getElem (by omega)⟩, Nat.le_refl _, fun i v H3 ⟨h3, h4⟩ => ⟨h3, h4 _ u1⟩⟩
end
end DN
namespace DN
open PySem PySem.Spec PyProof.Rows L2
/-! ### xs[::-1] of a list -/
def gRevL : PyData → Option PyData
  | .list ds => some (.list ds.reverse)
  | _ => none
theorem dpAll_rev {K : PySem.W.Frag} {H : Hp} : ∀ {vs : List V} {ds : List PyData}, DpAll K H vs ds → DpAll K H vs.reverse ds.reverse := fun {vs ds} q => by
  have la := DpAll.len q
  have key : ∀ (vs : List V) (ds : List PyData) (ws : List V) (es : List PyData), DpAll K H vs ds → DpAll K H ws es → DpAll K H (vs.reverse ++ ws) (ds.reverse ++ es) := by
    intro vs
    induction vs with
    | nil => intro ds ws es h1 h2; cases h1; exact h2
    | cons v r ih =>
      intro ds ws es h1 h2
      cases h1 with
      | cons a b =>
        rw [List.reverse_cons, List.reverse_cons, List.append_assoc, List.append_assoc]
        exact ih _ _ _ b (.cons a h2)
  have := key vs ds [] [] q .nil
  rwa [List.append_nil, List.append_nil] at this
section
variable {X : Cx} {Ts : TsT} {e : Expr} {f : En → Option PyData}
theorem b_rev {k : Nat} {p1 p2 p3 pos : Pos} (ha : DB X Ts e f) : DE X Ts (.Subscript e (.Slice none none (some (.UnaryOp .USub (.Constant (.int 1) k p1) p2)) p3) pos) (f1 gRevL f) := PE.imp (pe_revL ha) fun σ H Q ⟨He, O, en, d, rp, hf, kk⟩ => by
  unfold f1 at hf
  obtain ⟨x, h1, h4⟩ := Option.bind_eq_some_iff.mp hf
  refine tB.of rp h1 fun v H1 x1 r1 q1 => ?_
  cases x <;> simp only [gRevL] at h4 <;> cases h4
  obtain ⟨a, vs, rfl, s, qs⟩ := q1.lst
  exact ⟨a, vs, rfl, s, fun p np => kk _ _ (x1.trans (Xt.upd np)) (r1.tabs.new np) (lst_new np (new_out r1.occ np) (dpAll_rev qs))⟩
end
end DN
set_option Elab.async false
set_option linter.all false
set_option maxRecDepth 100000
set_option maxHeartbeats 4000000
namespace DN
open PySem PySem.Spec PyProof.Rows L2
/-! a <= b < c <= d -/
def tChain3 (r r' r'' : R2) (ta tb tc td : TE) : TE := fun σ H Q => ta σ H fun x H1 => tb σ H1 fun y H2 => r x y H2 fun z H3 => ∃ k, z = .bl k ∧
  (if k = true then tc σ H3 fun w H4 => r' y w H4 fun z' H5 => ∃ k', z' = .bl k' ∧ (if k' = true then td σ H5 fun u H6 => r'' w u H6 Q else Q (.bl false) H5) else Q (.bl false) H3)
section
variable {X : Cx} {Ts : TsT} {a b c d : Expr} {pos : Pos} {ta tb tc td : TE} {fa fb fc fd : En → Option PyData}
theorem pe_chain3 {op op' op'' : CmpOp} {r r' r'' : R2} (ho : OpR X (compareOp op) r) (ho' : OpR X (compareOp op') r') (ho'' : OpR X (compareOp op'') r'') (ha : PE X a ta) (hb : PE X b tb) (hc : PE X c tc) (hd : PE X d td)
    (hm : lastMarks [op, op', op''] [b, c, d] = false := by with_unfolding_all rfl) : PE X (.Compare a [op, op', op''] [b, c, d] pos) (tChain3 r r' r'' ta tb tc td) := by
  refine ⟨fun pins s σ H Q I h => ?_⟩
  refine Compare_chain (thn (ha.run pins s σ H _ I h) fun v s1 ⟨x, H1, I1, r1, q1⟩ => chain_link (thn (hb.run pins s1 σ H1 _ I1 q1) fun u s2 ⟨y, H2, I2, r2, q2⟩ =>
    thn (ho pins s2 σ H2 x y v u _ I2 r1 r2 q2) fun d s3 ⟨z, H3, I3, r3, k, e, q3⟩ => ?_)) hm
  subst e
  cases r3
  refine wpAny_truthy_bool ?_
  cases k with
  | false => exact ite_ff ⟨.bl false, H3, I3, rfl, q3⟩
  | true =>
    refine ite_tt (chain_link (thn (hc.run pins s3 σ H3 _ I3 q3) fun w' s4 ⟨z', H4, I4, r4, q4⟩ => thn (ho' pins s4 σ H4 y z' u w' _ I4 r2 r4 q4) fun d5 s5 ⟨z5, H5, I5, r5, k5, e5, q5⟩ => ?_))
    subst e5
    cases r5
    refine wpAny_truthy_bool ?_
    cases k5 with
    | false => exact ite_ff ⟨.bl false, H5, I5, rfl, q5⟩
    | true => exact ite_tt (chain_last (thn (hd.run pins s5 σ H5 _ I5 q5) fun w6 s6 ⟨z6, H6, I6, r6, q6⟩ => ho'' pins s6 σ H6 z' z6 w' w6 Q I6 r4 r6 q6))
def fChain3 (g1 g2 g3 : PyData → PyData → Option PyData) (fa fb fc fd : En → Option PyData) : En → Option PyData := fun en => (fa en).bind fun x => (fb en).bind fun y => (g1 x y).bind fun z => match z with
  | .bool true => (fc en).bind fun w => (g2 y w).bind fun z' => match z' with
    | .bool true => (fd en).bind fun u => g3 w u
    | .bool false => some (.bool false)
    | _ => none
  | .bool false => some (.bool false)
  | _ => none
theorem gI_inv {g : Int → Int → Bool} {x y z : PyData} (h : gI (fun i j => .bool (g i j)) x y = some z) : ∃ i j, x = .int i ∧ y = .int j ∧ z = .bool (g i j) := by
  cases x <;> cases y <;> simp only [gI] at h <;> first | (cases h; exact ⟨_, _, rfl, rfl, rfl⟩) | cases h
theorem w_chain3 {g1 g2 g3 : Int → Int → Bool} {K : PySem.W.Frag} : ∀ σ H Q, tD K Ts (fChain3 (gI fun i j => .bool (g1 i j)) (gI fun i j => .bool (g2 i j)) (gI fun i j => .bool (g3 i j)) fa fb fc fd) σ H Q →
    tChain3 (rI0 fun i j => .bl (g1 i j)) (rI0 fun i j => .bl (g2 i j)) (rI0 fun i j => .bl (g3 i j)) (tD K Ts fa) (tD K Ts fb) (tD K Ts fc) (tD K Ts fd) σ H Q := fun σ H Q ⟨He, O, en, d, rp, hf, kk⟩ => by
  unfold fChain3 at hf
  obtain ⟨x, h1, hf1⟩ := Option.bind_eq_some_iff.mp hf
  obtain ⟨y, h2, hf2⟩ := Option.bind_eq_some_iff.mp hf1
  obtain ⟨z, h3, hf3⟩ := Option.bind_eq_some_iff.mp hf2
  clear hf hf1 hf2
  refine tD.of rp h1 fun v H1 x1 r1 q1 => tD.of r1 h2 fun w H2 x2 r2 q2 => ?_
  obtain ⟨i, j, rfl, rfl, rfl⟩ := gI_inv h3
  cases q1
  cases q2
  refine ⟨i, j, rfl, rfl, g1 i j, rfl, ?_⟩
  cases hg : g1 i j with
  | true =>
    rw [hg] at hf3
    obtain ⟨u, h4, hf4⟩ := Option.bind_eq_some_iff.mp hf3
    obtain ⟨z', h5, hf5⟩ := Option.bind_eq_some_iff.mp hf4
    obtain ⟨i', j', e1, rfl, rfl⟩ := gI_inv h5
    cases e1
    refine iteT (tD.of r2 h4 fun w' H3 x3 r3 q3 => ?_)
    cases q3
    refine ⟨_, _, rfl, rfl, g2 j j', rfl, ?_⟩
    cases hg2 : g2 j j' with
    | true =>
      rw [hg2] at hf5
      obtain ⟨t, h6, hf6⟩ := Option.bind_eq_some_iff.mp hf5
      obtain ⟨i7, j7, e7, rfl, rfl⟩ := gI_inv hf6
      cases e7
      refine iteT (tD.of r3 h6 fun w4 H4 x4 r4 q4 => ?_)
      cases q4
      exact ⟨_, _, rfl, rfl, kk _ H4 (x1.trans (x2.trans (x3.trans x4))) r4.tabs (.bl _)⟩
    | false =>
      rw [hg2] at hf5
      cases hf5
      exact iteF (kk _ H3 (x1.trans (x2.trans x3)) r3.tabs (.bl _))
  | false =>
    rw [hg] at hf3
    cases hf3
    exact iteF (kk _ H2 (x1.trans x2) r2.tabs (.bl _))
theorem d_leltle (ha : DE X Ts a fa) (hb : DE X Ts b fb) (hc : DE X Ts c fc) (hd : DE X Ts d fd) (hm : lastMarks [.LtE, .Lt, .LtE] [b, c, d] = false := by with_unfolding_all rfl) :
    DE X Ts (.Compare a [.LtE, .Lt, .LtE] [b, c, d] pos) (fChain3 gLe gLt gLe fa fb fc fd) := PE.imp (pe_chain3 op_le op_lt op_le ha hb hc hd hm) w_chain3
end
end DN
set_option Elab.async false
set_option linter.all false
set_option maxRecDepth 100000
set_option maxHeartbeats 4000000
namespace DN
open PySem PySem.Spec PyProof.Rows L2
def sPar3O (i j l : Nat) (f h g : En → Option PyData) : En → Option Fl := fun en => (f en).bind fun x => (h en).bind fun y => match g en with
  | some (.list ds) => if i < en.length ∧ j < en.length ∧ l < en.length then some (.nx (((en.set i (.dat x)).set j (.dat y)).set l (.own ds))) else none
  | _ => none
section
variable {X : Cx} {Ts : TsT} {pos : Pos} {a b c : Expr}
theorem s_par3O {i j l : Nat} {x y z : Str} {px py pz pt : Pos} {kt k2 pt2} {f h g : En → Option PyData} (hc : X.calm = true) (hN : X.N.Nodup) (hi : X.N[i]? = some x) (hj : X.N[j]? = some y) (hl : X.N[l]? = some z) (hij : i ≠ j) (hil : i ≠ l) (hjl : j ≠ l)
    (hx : X.env.scope.names.lookup x = some .local) (hy : X.env.scope.names.lookup y = some .local) (hz : X.env.scope.names.lookup z = some .local) (ha : DE X Ts a f) (hb : DE X Ts b h) (hcc : DNew X Ts c g) (hw : swappedStores [.Tuple [.Name x px, .Name y py, .Name z pz] kt pt] (.Tuple [a, b, c] k2 pt2) X.env = pure (some [x, y, z]))
    (hs1 : starEach [a, b, c] X.env = (false, eval a X.env) :: starEach [b, c] X.env := by rfl) (hs2 : starEach [b, c] X.env = (false, eval b X.env) :: starEach [c] X.env := by rfl) (hs3 : starEach [c] X.env = (false, eval c X.env) :: starEach [] X.env := by rfl)
    (hs : swapsWithSole [.Tuple [.Name x px, .Name y py, .Name z pz] kt pt] (.Tuple [a, b, c] k2 pt2) pos.line X.env = pure false := by rfl) : DS X Ts (.Assign [.Tuple [.Name x px, .Name y py, .Name z pz] kt pt] (.Tuple [a, b, c] k2 pt2) pos) (sPar3O i j l f h g) :=
  PS.imp (ps_par3 hc hN hi hj hl hij hil hjl hx hy hz (pa_cons ha (pa_cons hb (pa_cons hcc pa_nil hs3) hs2) hs1) hw hs) fun D σ H ⟨He, O₀, Vz, en, r, rp, hf, k⟩ => by
    unfold sPar3O at hf
    obtain ⟨d1, h1, hf1⟩ := Option.bind_eq_some_iff.mp hf
    obtain ⟨d2, h2, hf2⟩ := Option.bind_eq_some_iff.mp hf1
    split at hf2
    · rename_i ds h3
      split at hf2
      · rename_i hlt
        cases hf2
        obtain ⟨O, a1, a2, rp, xv⟩ := rp
        refine tD.of rp h1 fun v H1 x1 r1 q1 => tD.of r1 h2 fun w H2 x2 r2 q2 => ⟨He, O, en, ds, r2, h3, fun p ws H3 x3 t3 na ha2 q3 => ⟨v, w, .ref p, rfl, k _ H3 ?_⟩⟩
        obtain ⟨r4, r5⟩ := ((r2.setD hlt.1 (Dp.mono (hide_mono x2) q1)).setD (i := j) (by simpa using hlt.2.1) q2).setO1 (i := l) (by simpa using hlt.2.2) x3 t3 na ha2 q3
        exact ⟨p :: O, fun b hb => List.mem_cons_of_mem _ (a1 b hb), a2, r4, xv.trans ((hide_mono (x1.trans x2)).trans r5)⟩
      · cases hf2
    · cases hf2
end
end DN
namespace Ty
open PySem PySem.Spec PyProof.Rows L2 DN
section
variable {α β γ ξ σ ζ : Type} {en : En} {f g h : En → Option PyData} {F G : En → Option Fl} {ea : α → PyData} {eb : β → PyData} {ec : γ → PyData} {er : ξ → PyData} {A : Option α} {B : Option β} {C : Option (List γ)} {i j l : Nat} {env : σ → ζ → En}
theorem par3O_eq (p : f en = A.map ea) (p1 : g en = B.map eb) (p2 : h en = C.map (eL ec)) (hi : i < en.length) (hj : j < en.length) (hl : l < en.length) : sPar3O i j l f g h en = (A.bind fun x => B.bind fun y => C.bind fun z => some (Fl.nx (((en.set i (.dat (ea x))).set j (.dat (eb y))).set l (.own (z.map ec))))) := by
  unfold sPar3O
  rw [p, p1, p2]
  cases A with
  | none => rfl
  | some a => cases B with
    | none => rfl
    | some b => cases C with
      | none => rfl
      | some c =>
        show (if i < en.length ∧ j < en.length ∧ l < en.length then _ else _) = _
        rw [if_pos ⟨hi, hj, hl⟩]
        rfl
theorem r_seq_par3O {K : α → β → List γ → Option ξ} (p : f en = A.map ea) (p1 : g en = B.map eb) (p2 : h en = C.map (eL ec)) (hi : i < en.length) (hj : j < en.length) (hl : l < en.length) (q : ∀ x y z, G (((en.set i (.dat (ea x))).set j (.dat (eb y))).set l (.own (List.map ec z))) = rtO er (K x y z)) : sSeq (sPar3O i j l f g h) G en = rtO er (A.bind fun x => B.bind fun y => C.bind fun z => K x y z) := by
  unfold sSeq
  rw [par3O_eq p p1 p2 hi hj hl]
  cases A with
  | none => rfl
  | some a => cases B with
    | none => rfl
    | some b => cases C with
      | none => rfl
      | some c => exact q a b c
end
section
variable {α β γ ξ σ : Type} {ea : α → PyData} {eb : β → PyData} {ec : γ → PyData} {en : En} {f g : En → Option PyData}
def inO (x : PyData) (ds : List PyData) : Option Bool := if (SeqAt.shaped x && SeqAt.shaped (.list ds)) = true then some (ds.any fun z => PyData.eqv z x) else none
theorem g_inL (x : α) (y : List β) : gIn (ea x) (eL eb y) = (inO (ea x) (List.map eb y)).map eB := by
  show (if (SeqAt.shaped (ea x) && SeqAt.shaped (.list (List.map eb y))) = true then some (PyData.bool ((List.map eb y).any fun z => PyData.eqv z (ea x))) else none) = _
  unfold inO
  split <;> rfl
/-! an operand that may be None -/
theorem g_o1 {G : PyData → PyData → Option PyData} {k : α → β → Option γ} (hn : ∀ y, G .none (eb y) = none) (h : ∀ x y, G (ea x) (eb y) = (k x y).map ec) (x : Option α) (y : β) : G (eO ea x) (eb y) = (x.bind fun a => k a y).map ec := by
  cases x with
  | none => exact hn y
  | some a => exact h a y
theorem g_o2 {G : PyData → PyData → Option PyData} {k : α → β → Option γ} (hn : ∀ x, G (ea x) .none = none) (h : ∀ x y, G (ea x) (eb y) = (k x y).map ec) (x : α) (y : Option β) : G (ea x) (eO eb y) = (y.bind fun b => k x b).map ec := by
  cases y with
  | none => exact hn x
  | some b => exact h x b
/-! an operand that is any datum -/
def asI : PyData → Option Int
  | .int i => some i
  | _ => none
theorem g_a1 {G : PyData → PyData → Option PyData} {k : Int → β → Option γ} (hn : ∀ x y, asI x = none → G x (eb y) = none) (h : ∀ x y, G (eI x) (eb y) = (k x y).map ec) (x : PyData) (y : β) : G (eA x) (eb y) = ((asI x).bind fun a => k a y).map ec := by
  cases x with
  | int i => exact h i y
  | _ => exact hn _ y rfl
theorem g_a2 {G : PyData → PyData → Option PyData} {k : α → Int → Option γ} (hn : ∀ x y, asI y = none → G (ea x) y = none) (h : ∀ x y, G (ea x) (eI y) = (k x y).map ec) (x : α) (y : PyData) : G (ea x) (eA y) = ((asI y).bind fun b => k x b).map ec := by
  cases y with
  | int i => exact h x i
  | _ => exact hn x _ rfl
theorem i_seqA {A : Option PyData} (pa : f en = A.map eA) : iSeq f en = (A.bind items).map (List.map eA) := by
  unfold iSeq
  rw [pa]
  cases A with
  | none => rfl
  | some d =>
    show items d = (items d).map (List.map eA)
    cases items d with
    | none => rfl
    | some l => exact congrArg some (List.map_id l).symm
/-- a pair of any data -/
def asT2 : PyData → Option (PyData × PyData)
  | .tuple [a, b] => some (a, b)
  | _ => none
theorem bTup2A {i j : Nat} (hi : i < en.length) (hj : j < en.length) (d : PyData) : bTup [i, j] (eA d) en = (asT2 d).map fun p => (en.set i (.dat p.1)).set j (.dat p.2) := by
  cases d with
  | tuple ds =>
    match ds with
    | [] => rfl
    | [a] =>
      show ((if i < en.length then some (en.set i (.dat a)) else none).bind fun e => bNames [j] [] e) = none
      rw [if_pos hi]
      rfl
    | [a, b] =>
      show ((if i < en.length then some (en.set i (.dat a)) else none).bind fun e => (if j < e.length then some (e.set j (.dat b)) else none).bind fun e => some e) = _
      rw [if_pos hi, Option.bind_some, if_pos (by rw [List.length_set]; exact hj)]
      rfl
    | a :: b :: c :: r =>
      show ((if i < en.length then some (en.set i (.dat a)) else none).bind fun e => (if j < e.length then some (e.set j (.dat b)) else none).bind fun e => bNames [] (c :: r) e) = none
      rw [if_pos hi, Option.bind_some, if_pos (by rw [List.length_set]; exact hj)]
      rfl
  | _ => rfl
theorem r_seq_bindP {A : Option α} {b : PyData → En → Option En} {envb : β → En} {u : α → Option β} {K : β → Option ξ} {er : ξ → PyData} {G : En → Option Fl} (p : f en = A.map ea) (hb : ∀ x, b (ea x) en = (u x).map envb) (q : ∀ y, G (envb y) = rtO er (K y)) : sSeq (sBind b f) G en = rtO er ((A.bind u).bind K) := by
  unfold sSeq sBind
  rw [p]
  cases A with
  | none => rfl
  | some a =>
    show (match (b (ea a) en).map Fl.nx with
      | some (.nx e) => G e
      | r => r) = rtO er ((u a).bind K)
    rw [hb]
    cases u a with
    | none => rfl
    | some y => exact q y
theorem t_asP {A : Option α} {u : α → Option β} (h : ∀ x, u x = none → False) (e : ∀ x y, u x = some y → ea x = eb y) (pa : f en = A.map ea) : f en = (A.bind u).map eb := by
  rw [pa]
  cases A with
  | none => rfl
  | some a =>
    show some (ea a) = (u a).map eb
    cases hu : u a with
    | none => exact (h a hu).elim
    | some y => exact congrArg some (e a y hu)
theorem t_chainA {h : En → Option PyData} {A : Option Int} {B : Option PyData} {C : Option Int} (pa : f en = A.map eI) (pb : g en = B.map eA) (pc : h en = C.map eI) : fChain gLe gLe f g h en = (A.bind fun x => B.bind fun b => (asI b).bind fun y => iteO (some (decide (x ≤ y))) (C.bind fun z => some (decide (y ≤ z))) (some false)).map eB := by
  cases B with
  | none =>
    unfold fChain
    rw [pa, pb]
    cases A <;> rfl
  | some b =>
    cases b with
    | int y => exact t_chain (B := some y) pa pb pc
    | _ =>
      unfold fChain
      rw [pa, pb]
      cases A <;> rfl
theorem t_chainO {h : En → Option PyData} {A : Option Int} {B : Option (Option Int)} {C : Option Int} (pa : f en = A.map eI) (pb : g en = B.map (eO eI)) (pc : h en = C.map eI) : fChain gLe gLe f g h en = (A.bind fun x => B.bind fun b => b.bind fun y => iteO (some (decide (x ≤ y))) (C.bind fun z => some (decide (y ≤ z))) (some false)).map eB := by
  cases B with
  | none =>
    unfold fChain
    rw [pa, pb]
    cases A <;> rfl
  | some b =>
    cases b with
    | some y => exact t_chain (B := some y) pa pb pc
    | none =>
      unfold fChain
      rw [pa, pb]
      cases A <;> rfl
theorem t_partA {o : Option PyData} (p : f en = o.map eA) : fPart f en = (o.bind asI).bind fun i => some (some i) := by
  unfold fPart
  rw [p]
  cases o with
  | none => rfl
  | some d => cases d <;> rfl
theorem t_ixcO {k : Int} {pr : α → β} {A : Option (Option α)} (h : ∀ p, gIx (ea p) (.int k) = some (eb (pr p))) (pa : f en = A.map (eO ea)) : fIx f (fLit (.int k)) en = (A.bind fun o => o.bind fun p => some (pr p)).map eb := by
  unfold fIx f2
  rw [pa]
  cases A with
  | none => rfl
  | some o => cases o with
    | none => rfl
    | some a => exact h a
theorem t_chain3P {h k : En → Option PyData} {x y z w : Int} (pa : f en = (some x).map eI) (pb : g en = (some y).map eI) (pc : h en = (some z).map eI) (pd : k en = (some w).map eI) : fChain3 gLe gLt gLe f g h k en = (some (decide (x ≤ y) && (decide (y < z) && decide (z ≤ w)))).map eB := by
  unfold fChain3
  rw [pa, pb, pc, pd]
  show (match (PyData.bool (decide (x ≤ y))) with
    | .bool true => (match (PyData.bool (decide (y < z))) with
      | .bool true => some (PyData.bool (decide (z ≤ w)))
      | .bool false => some (PyData.bool false)
      | _ => none)
    | .bool false => some (PyData.bool false)
    | _ => none) = some (PyData.bool (decide (x ≤ y) && (decide (y < z) && decide (z ≤ w))))
  cases decide (x ≤ y) <;> cases decide (y < z) <;> rfl
def bInt (b : Bool) : Int := if b then 1 else 0
theorem g_intB (x : Bool) : gInt (eB x) = (some (bInt x)).map eI := by cases x <;> rfl
/-! enumerate, reversed, [::-1] -/
def enumN : Nat → List α → List (Int × α)
  | _, [] => []
  | k, x :: r => ((k : Int), x) :: enumN (k + 1) r
theorem enum_map (e : α → PyData) : ∀ (k : Nat) (l : List α), enumD k (l.map e) = (enumN k l).map (e2 eI e)
  | _, [] => rfl
  | k, x :: r => by
    show PyData.tuple [.int (k : Nat), e x] :: enumD (k + 1) (r.map e) = _
    rw [enum_map e (k + 1) r]
    rfl
theorem i_enumR {e : α → PyData} {A : Option (List α)} (pa : f en = A.map (eR e)) : iEnumF f en = (A.bind fun x => some (enumN 0 x)).map (List.map (e2 eI e)) := by
  unfold iEnumF
  rw [pa]
  cases A with
  | none => rfl
  | some l => exact congrArg some (enum_map e 0 l)
theorem i_enumL {e : α → PyData} {A : Option (List α)} (pa : f en = A.map (eL e)) : iEnumF f en = (A.bind fun x => some (enumN 0 x)).map (List.map (e2 eI e)) := by
  unfold iEnumF
  rw [pa]
  cases A with
  | none => rfl
  | some l => exact congrArg some (enum_map e 0 l)
theorem i_revR {e : α → PyData} {A : Option (List α)} (pa : f en = A.map (eR e)) : iRevF f en = (A.bind fun x => some (List.reverse x)).map (List.map e) := by
  unfold iRevF
  rw [pa]
  cases A with
  | none => rfl
  | some l => exact congrArg some (List.map_reverse).symm
theorem i_revL {e : α → PyData} {A : Option (List α)} (pa : f en = A.map (eL e)) : iRevF f en = (A.bind fun x => some (List.reverse x)).map (List.map e) := by
  unfold iRevF
  rw [pa]
  cases A with
  | none => rfl
  | some l => exact congrArg some (List.map_reverse).symm
theorem g_revL {e : α → PyData} (l : List α) : gRevL (eL e l) = (some (List.reverse l)).map (eL e) := by
  show some (PyData.list (l.map e).reverse) = some (PyData.list (l.reverse.map e))
  rw [List.map_reverse]
end
end Ty
set_option Elab.async false
set_option linter.all false
set_option maxRecDepth 100000
set_option maxHeartbeats 4000000
namespace Ty
open PySem PySem.Spec PyProof.Rows L2 DN
def N__law_is_ratio_O : Option (Int × Int) → Option Bool
  | none => some false
  | some q => N__law_is_ratio q
theorem t__law_is_ratio_O (x : Option (Int × Int)) : S__law_is_ratio [(eO (e2 eI eI)) x] = (N__law_is_ratio_O x).map eB := by
  cases x with
  | none => rfl
  | some q => exact t__law_is_ratio q

def F_check_demands (c_is_row_between : List PyData → Option PyData) : En → Option Fl := (sIf (kNot (kAnd (fT (fCall 3 c_is_row_between (fCons (fVar 0) (fCons (fLit (.int 0)) (fCons (fLit (.int 1000)) fNil))))) (fT (fEq (fLen (fVar 0)) (fVar 1))))) sNever sNil)
def S_check_demands := runD 2 (F_check_demands S_is_row_between)
def F_firm_share (c_check_dam c_check_demands c_check_has_plan c_windows c_in_window c_ratio c_spare_water c_least_ratio : List PyData → Option PyData) : En → Option Fl := (sSeq (sExpr (fCall 1 c_check_dam (fCons (fVar 0) fNil))) (sSeq (sExpr (fCall 2 c_check_demands (fCons (fVar 1) (fCons (fLen (fIx (fVar 0) (fLit (.int 3)))) fNil)))) (sSeq (sIf (fT (fEq (fSum (fVar 1)) (fLit (.int 0)))) sNever sNil) (sSeq (sExpr (fCall 1 c_check_has_plan (fCons (fVar 0) fNil))) (sSeq (sOwn 2 (fLst fNil)) (sSeq (sFor (iSeq (fCall 1 c_windows (fCons (fLen (fVar 1)) fNil))) (bName 3) (sSeq (sSet 4 (fSum (fCall 2 c_in_window (fCons (fVar 1) (fCons (fVar 3) fNil))))) (sIf (fT (fGt (fVar 4) (fLit (.int 0)))) (sApp 2 (fCall 2 c_ratio (fCons (fCall 2 c_spare_water (fCons (fVar 0) (fCons (fVar 3) fNil))) (fCons (fVar 4) fNil)))) sNil))) (sSeq (sRel 2) (sRet (fCall 1 c_least_ratio (fCons (fVar 2) fNil))))))))))
def S_firm_share := runD 5 (F_firm_share S_check_dam S_check_demands S_check_has_plan S_windows S_in_window S_ratio S_spare_water S_least_ratio)
def F_check_rows (c_check_inflows c_check_demands : List PyData → Option PyData) : En → Option Fl := (sSeq (sExpr (fCall 1 c_check_inflows (fCons (fVar 0) fNil))) (sSeq (sExpr (fCall 2 c_check_demands (fCons (fVar 1) (fCons (fLen (fVar 0)) fNil)))) (sIf (kNot (fT (fIsi isBool (fVar 2)))) sNever sNil)))
def S_check_rows := runD 3 (F_check_rows S_check_inflows S_check_demands)
def F_rows_of_months : En → Option Fl := (sRet (fLc2 (iRange1 (fVar 0)) (bName 2) kYes (iRange2 (fLit (.int 1)) (fPlus (fIf (fT (fVar 1)) (fVar 0) (fSub (fVar 0) (fVar 2))) (fLit (.int 1)))) (bName 3) kYes (fTup (fCons (fVar 2) (fCons (fVar 3) fNil))) [2, 3] [3]))
def S_rows_of_months := runD 4 (F_rows_of_months)
def F_lack_of_row : En → Option Fl := (sSeq (sBind (bTup [3, 4]) (fVar 2)) (sSeq (sSet 5 (fCut (fPlus (fVar 1) (fVar 1)) (fPart (fVar 3)) (fPart (fPlus (fVar 3) (fVar 4))))) (sSeq (sSet 6 (fCut (fPlus (fVar 0) (fVar 0)) (fPart (fVar 3)) (fPart (fPlus (fVar 3) (fVar 4))))) (sRet (fSub (fSum (fVar 5)) (fSum (fVar 6)))))))
def S_lack_of_row := runD 7 (F_lack_of_row)
def F_found_storage (c_rows_of_months c_lack_of_row : List PyData → Option PyData) : En → Option Fl := (sSeq (sIf (kAnd (fT (fVar 2)) (fT (fGt (fSum (fVar 1)) (fSum (fVar 0))))) (sRet (fLit .none)) sNil) (sSeq (sSet 3 (fCall 2 c_rows_of_months (fCons (fLen (fVar 0)) (fCons (fVar 2) fNil)))) (sRet (fMax2 (fLit (.int 0)) (fMaxL (fLc (iSeq (fVar 3)) (bName 4) kYes (fCall 3 c_lack_of_row (fCons (fVar 0) (fCons (fVar 1) (fCons (fVar 4) fNil)))) [4]))))))
def S_found_storage := runD 5 (F_found_storage S_rows_of_months S_lack_of_row)
def F_least_storage (c_check_rows c_found_storage : List PyData → Option PyData) : En → Option Fl := (sSeq (sExpr (fCall 3 c_check_rows (fCons (fVar 0) (fCons (fVar 1) (fCons (fVar 2) fNil))))) (sRet (fCall 3 c_found_storage (fCons (fVar 0) (fCons (fVar 1) (fCons (fVar 2) fNil))))))
def S_least_storage := runD 3 (F_least_storage S_check_rows S_found_storage)
def N_check_demands (demands' : (List Int)) (count' : Int) : Option Unit := (iteO ((andO (N_is_row_between demands' (0 : Int) (1000 : Int)) (some (decide (((demands').length : Int) = count')))).bind fun b4 => some (!b4)) none (some ())).bind fun _ => some ()
theorem t_check_demands (demands' : (List Int)) (count' : Int) : S_check_demands [(eR eI) demands', eI count'] = (N_check_demands demands' count').map eU := d_runN (env := (fun (s : Unit) (z : Unit) => [.dat ((eR eI) demands'), .dat (eI count')])) (n_if (P := ((andO (N_is_row_between demands' (0 : Int) (1000 : Int)) (some (decide (((demands').length : Int) = count')))).bind fun b4 => some (!b4))) (A := none) (B := (some ())) (t_knot (P := (andO (N_is_row_between demands' (0 : Int) (1000 : Int)) (some (decide (((demands').length : Int) = count'))))) (t_kand (P := (N_is_row_between demands' (0 : Int) (1000 : Int))) (Q := (some (decide (((demands').length : Int) = count')))) (t_T (P := (N_is_row_between demands' (0 : Int) (1000 : Int))) (t_call3 (A := (some demands')) (B := (some (0 : Int))) (C := (some (1000 : Int))) t_is_row_between (t_var (i := 0) (e := (eR eI)) (v := demands') rfl) (t_int (i := 0)) (t_int (i := 1000)))) (t_T (P := (some (decide (((demands').length : Int) = count')))) (t_f2 (A := (some ((demands').length : Int))) (B := (some count')) (h := (fun x2 y3 => some (decide (x2 = y3)))) (g_eq enc_I rfl) (t_f1 (A := (some demands')) (h := (fun x1 => some ((x1).length : Int))) g_lenR (t_var (i := 0) (e := (eR eI)) (v := demands') rfl)) (t_var (i := 1) (e := eI) (v := count') rfl))))) n_never (n_nil (s := ()) (z := ()) rfl))
def N_check_rows (inflows' : (List Int)) (demands' : (List Int)) (is_round' : Bool) : Option Unit := ((N_check_inflows inflows').bind fun _ => ((N_check_demands demands' ((inflows').length : Int)).bind fun _ => (iteO (some (!true)) none (some ())))).bind fun _ => some ()
theorem t_check_rows (inflows' : (List Int)) (demands' : (List Int)) (is_round' : Bool) : S_check_rows [(eR eI) inflows', (eR eI) demands', eB is_round'] = (N_check_rows inflows' demands' is_round').map eU := d_runN (env := (fun (s : Unit) (z : Unit) => [.dat ((eR eI) inflows'), .dat ((eR eI) demands'), .dat (eB is_round')])) (n_seq_expr (A := (N_check_inflows inflows')) (t_call1 (A := (some inflows')) t_check_inflows (t_var (i := 0) (e := (eR eI)) (v := inflows') rfl)) (n_seq_expr (A := (N_check_demands demands' ((inflows').length : Int))) (t_call2 (A := (some demands')) (B := (some ((inflows').length : Int))) t_check_demands (t_var (i := 1) (e := (eR eI)) (v := demands') rfl) (t_f1 (A := (some inflows')) (h := (fun x1 => some ((x1).length : Int))) g_lenR (t_var (i := 0) (e := (eR eI)) (v := inflows') rfl))) (n_if (P := (some (!true))) (A := none) (B := (some ())) (t_knot (P := (some true)) (t_T (P := (some true)) (t_isi (A := (some is_round')) (b := fun x2 => true) (fun _ => rfl) (t_var (i := 2) (e := eB) (v := is_round') rfl)))) n_never (n_nil (s := ()) (z := ()) rfl))))
def N_rows_of_months (months' : Int) (is_round' : Bool) : Option (List (Int × Int)) := ((range1O months').bind fun l => comp2L (fun i1 => (some true)) (fun i1 => (range2O (1 : Int) ((cond is_round' months' (months' - i1)) + (1 : Int)))) (fun i1 i8 => (some true)) (fun i1 i8 => (some (i1, i8))) l)
theorem t_rows_of_months (months' : Int) (is_round' : Bool) : S_rows_of_months [eI months', eB is_round'] = (N_rows_of_months months' is_round').map (eL (e2 eI eI)) := d_run (r_ret (A := ((range1O months').bind fun l => comp2L (fun i1 => (some true)) (fun i1 => (range2O (1 : Int) ((cond is_round' months' (months' - i1)) + (1 : Int)))) (fun i1 i8 => (some true)) (fun i1 i8 => (some (i1, i8))) l)) (t_lc2 (L := (range1O months')) (ea := eI) (eb := eI) (ec := (e2 eI eI)) (T := fun i1 => (some true)) (M := fun i1 => (range2O (1 : Int) ((cond is_round' months' (months' - i1)) + (1 : Int)))) (T2 := fun i1 i8 => (some true)) (B2 := fun i1 i8 => (some (i1, i8))) (i_range1 (A := (some months')) (t_var (i := 0) (e := eI) (v := months') rfl)) (fun i1 => ⟨[.dat (eI months'), .dat (eB is_round'), .dat (eI i1), .no], rfl, t_yes, (i_range2 (A := (some (1 : Int))) (B := (some ((cond is_round' months' (months' - i1)) + (1 : Int)))) (t_int (i := 1)) (t_f2 (A := (some (cond is_round' months' (months' - i1)))) (B := (some (1 : Int))) (h := (fun x4 y5 => some (x4 + y5))) g_add (t_ifP (b := is_round') (x := months') (y := (months' - i1)) (t_T (P := (some is_round')) (t_var (i := 1) (e := eB) (v := is_round') rfl)) (t_var (i := 0) (e := eI) (v := months') rfl) (t_f2 (A := (some months')) (B := (some i1)) (h := (fun x2 y3 => some (x2 - y3))) g_sub (t_var (i := 0) (e := eI) (v := months') rfl) (t_var (i := 2) (e := eI) (v := i1) rfl))) (t_int (i := 1)))), fun i8 => ⟨[.dat (eI months'), .dat (eB is_round'), .dat (eI i1), .dat (eI i8)], rfl, t_yes, (t_tup2 (A := (some i1)) (B := (some i8)) (t_var (i := 2) (e := eI) (v := i1) rfl) (t_var (i := 3) (e := eI) (v := i8) rfl))⟩⟩)))
def N_lack_of_row (inflows' : (List Int)) (demands' : (List Int)) (row' : (Int × Int)) : Option Int := ((some row').bind fun p1 => (((catO demands' demands').bind fun x9 => (some (some p1.1)).bind fun y10 => (some (some (p1.1 + p1.2))).bind fun z11 => some (cutT x9 y10 z11)).bind fun needed_2 => (((catO inflows' inflows').bind fun x19 => (some (some p1.1)).bind fun y20 => (some (some (p1.1 + p1.2))).bind fun z21 => some (cutT x19 y20 z21)).bind fun coming_12 => (some ((List.sum needed_2) - (List.sum coming_12))))))
theorem t_lack_of_row (inflows' : (List Int)) (demands' : (List Int)) (row' : (Int × Int)) : S_lack_of_row [(eR eI) inflows', (eR eI) demands', (e2 eI eI) row'] = (N_lack_of_row inflows' demands' row').map eI := d_run (r_seq_bind (A := (some row')) (envb := fun p1 => [.dat ((eR eI) inflows'), .dat ((eR eI) demands'), .dat ((e2 eI eI) row'), .dat (eI p1.1), .dat (eI p1.2), .no, .no]) (t_var (i := 2) (e := (e2 eI eI)) (v := row') rfl) (fun _ => rfl) (fun p1 => (r_seq_set (i := 5) (A := ((catO demands' demands').bind fun x9 => (some (some p1.1)).bind fun y10 => (some (some (p1.1 + p1.2))).bind fun z11 => some (cutT x9 y10 z11))) (t_cut (A := (catO demands' demands')) (L := (some (some p1.1))) (H := (some (some (p1.1 + p1.2)))) g_cutR (t_f2 (A := (some demands')) (B := (some demands')) (h := (fun x3 y4 => (catO x3 y4))) g_addR (t_var (i := 1) (e := (eR eI)) (v := demands') rfl) (t_var (i := 1) (e := (eR eI)) (v := demands') rfl)) (t_part (o := (some p1.1)) (t_var (i := 3) (e := eI) (v := p1.1) rfl)) (t_part (o := (some (p1.1 + p1.2))) (t_f2 (A := (some p1.1)) (B := (some p1.2)) (h := (fun x6 y7 => some (x6 + y7))) g_add (t_var (i := 3) (e := eI) (v := p1.1) rfl) (t_var (i := 4) (e := eI) (v := p1.2) rfl)))) (lt_of rfl) (fun needed_2 => (r_seq_set (i := 6) (A := ((catO inflows' inflows').bind fun x19 => (some (some p1.1)).bind fun y20 => (some (some (p1.1 + p1.2))).bind fun z21 => some (cutT x19 y20 z21))) (t_cut (A := (catO inflows' inflows')) (L := (some (some p1.1))) (H := (some (some (p1.1 + p1.2)))) g_cutR (t_f2 (A := (some inflows')) (B := (some inflows')) (h := (fun x13 y14 => (catO x13 y14))) g_addR (t_var (i := 0) (e := (eR eI)) (v := inflows') rfl) (t_var (i := 0) (e := (eR eI)) (v := inflows') rfl)) (t_part (o := (some p1.1)) (t_var (i := 3) (e := eI) (v := p1.1) rfl)) (t_part (o := (some (p1.1 + p1.2))) (t_f2 (A := (some p1.1)) (B := (some p1.2)) (h := (fun x16 y17 => some (x16 + y17))) g_add (t_var (i := 3) (e := eI) (v := p1.1) rfl) (t_var (i := 4) (e := eI) (v := p1.2) rfl)))) (lt_of rfl) (fun coming_12 => (r_ret (A := (some ((List.sum needed_2) - (List.sum coming_12)))) (t_f2 (A := (some (List.sum needed_2))) (B := (some (List.sum coming_12))) (h := (fun x24 y25 => some (x24 - y25))) g_sub (t_f1 (A := (some needed_2)) (h := (fun x22 => some (List.sum x22))) g_sumR (t_var (i := 5) (e := (eR eI)) (v := needed_2) rfl)) (t_f1 (A := (some coming_12)) (h := (fun x23 => some (List.sum x23))) g_sumR (t_var (i := 6) (e := (eR eI)) (v := coming_12) rfl))))))))))
def N_found_storage (inflows' : (List Int)) (demands' : (List Int)) (is_round' : Bool) : Option (Option Int) := (iteO (some (is_round' && (decide ((List.sum inflows') < (List.sum demands'))))) (some none) ((N_rows_of_months ((inflows').length : Int) is_round').bind fun rows_7 => (((some (0 : Int)).bind fun x13 => ((compL (fun i9 => (some true)) (fun i9 => (N_lack_of_row inflows' demands' i9)) rows_7).bind (fun x10 => (maxO x10))).bind fun y14 => some (max2 x13 y14)).bind fun x15 => some (some x15))))
theorem t_found_storage (inflows' : (List Int)) (demands' : (List Int)) (is_round' : Bool) : S_found_storage [(eR eI) inflows', (eR eI) demands', eB is_round'] = (N_found_storage inflows' demands' is_round').map (eO eI) := d_run (r_seq_ifret (P := (some (is_round' && (decide ((List.sum inflows') < (List.sum demands')))))) (A := (some none)) (t_kandP (b := is_round') (c := (decide ((List.sum inflows') < (List.sum demands')))) (t_T (P := (some is_round')) (t_var (i := 2) (e := eB) (v := is_round') rfl)) (t_T (P := (some (decide ((List.sum inflows') < (List.sum demands'))))) (t_f2 (A := (some (List.sum demands'))) (B := (some (List.sum inflows'))) (h := (fun x5 y6 => some (decide (y6 < x5)))) g_gt (t_f1 (A := (some demands')) (h := (fun x1 => some (List.sum x1))) g_sumR (t_var (i := 1) (e := (eR eI)) (v := demands') rfl)) (t_f1 (A := (some inflows')) (h := (fun x2 => some (List.sum x2))) g_sumR (t_var (i := 0) (e := (eR eI)) (v := inflows') rfl))))) (r_ret (A := (some none)) (t_none (A := (some ())) (e := eI) t_non)) (r_seq_set (i := 3) (A := (N_rows_of_months ((inflows').length : Int) is_round')) (t_call2 (A := (some ((inflows').length : Int))) (B := (some is_round')) t_rows_of_months (t_f1 (A := (some inflows')) (h := (fun x8 => some ((x8).length : Int))) g_lenR (t_var (i := 0) (e := (eR eI)) (v := inflows') rfl)) (t_var (i := 2) (e := eB) (v := is_round') rfl)) (lt_of rfl) (fun rows_7 => (r_ret (A := (((some (0 : Int)).bind fun x13 => ((compL (fun i9 => (some true)) (fun i9 => (N_lack_of_row inflows' demands' i9)) rows_7).bind (fun x10 => (maxO x10))).bind fun y14 => some (max2 x13 y14)).bind fun x15 => some (some x15))) (t_some (A := ((some (0 : Int)).bind fun x13 => ((compL (fun i9 => (some true)) (fun i9 => (N_lack_of_row inflows' demands' i9)) rows_7).bind (fun x10 => (maxO x10))).bind fun y14 => some (max2 x13 y14))) (t_f2 (A := (some (0 : Int))) (B := ((compL (fun i9 => (some true)) (fun i9 => (N_lack_of_row inflows' demands' i9)) rows_7).bind (fun x10 => (maxO x10)))) (h := (fun x13 y14 => some (max2 x13 y14))) g_max2 (t_int (i := 0)) (t_f1 (A := (compL (fun i9 => (some true)) (fun i9 => (N_lack_of_row inflows' demands' i9)) rows_7)) (h := (fun x10 => (maxO x10))) g_maxL (t_lc (L := (some rows_7)) (ea := (e2 eI eI)) (eb := eI) (T := fun i9 => (some true)) (Bf := fun i9 => (N_lack_of_row inflows' demands' i9)) (i_seqL (A := (some rows_7)) (e := (e2 eI eI)) (t_var (i := 3) (e := (eL (e2 eI eI))) (v := rows_7) rfl)) (fun i9 => ⟨[.dat ((eR eI) inflows'), .dat ((eR eI) demands'), .dat (eB is_round'), .dat ((eL (e2 eI eI)) rows_7), .dat ((e2 eI eI) i9)], rfl, t_yes, (t_call3 (A := (some inflows')) (B := (some demands')) (C := (some i9)) t_lack_of_row (t_var (i := 0) (e := (eR eI)) (v := inflows') rfl) (t_var (i := 1) (e := (eR eI)) (v := demands') rfl) (t_var (i := 4) (e := (e2 eI eI)) (v := i9) rfl))⟩)))))))))
def N_least_storage (inflows' : (List Int)) (demands' : (List Int)) (is_round' : Bool) : Option (Option Int) := ((N_check_rows inflows' demands' is_round').bind fun _ => (N_found_storage inflows' demands' is_round'))
theorem t_least_storage (inflows' : (List Int)) (demands' : (List Int)) (is_round' : Bool) : S_least_storage [(eR eI) inflows', (eR eI) demands', eB is_round'] = (N_least_storage inflows' demands' is_round').map (eO eI) := d_run (r_seq_expr (A := (N_check_rows inflows' demands' is_round')) (t_call3 (A := (some inflows')) (B := (some demands')) (C := (some is_round')) t_check_rows (t_var (i := 0) (e := (eR eI)) (v := inflows') rfl) (t_var (i := 1) (e := (eR eI)) (v := demands') rfl) (t_var (i := 2) (e := eB) (v := is_round') rfl)) (r_ret (A := (N_found_storage inflows' demands' is_round')) (t_call3 (A := (some inflows')) (B := (some demands')) (C := (some is_round')) t_found_storage (t_var (i := 0) (e := (eR eI)) (v := inflows') rfl) (t_var (i := 1) (e := (eR eI)) (v := demands') rfl) (t_var (i := 2) (e := eB) (v := is_round') rfl))))
def N_firm_share (dam' : (Int × Int × Int × (List Int))) (demands' : (List Int)) : Option (Int × Int) := ((N_check_dam dam').bind fun _ => ((N_check_demands demands' ((dam'.2.2.2).length : Int)).bind fun _ => (iteO (some (decide ((List.sum demands') = (0 : Int)))) none ((N_check_has_plan dam').bind fun _ => ((some []).bind fun shares_6 => (((N_windows ((demands').length : Int)).bind fun l => foldO (fun i10 s8 => (((N_in_window demands' i10).bind (fun x12 => some (List.sum x12))).bind fun needed_11 => (iteO (some (decide ((0 : Int) < needed_11))) (((N_spare_water dam' i10).bind fun a17 => (some needed_11).bind fun a18 => N_ratio a17 a18).bind fun x20 => (appO s8 x20).bind fun shares_19 => some shares_19) (some s8)))) l shares_6).bind fun s21 => (N_least_ratio s21)))))))
theorem t_firm_share (dam' : (Int × Int × Int × (List Int))) (demands' : (List Int)) : S_firm_share [(e4 eI eI eI (eR eI)) dam', (eR eI) demands'] = (N_firm_share dam' demands').map (e2 eI eI) := d_run (r_seq_expr (A := (N_check_dam dam')) (t_call1 (A := (some dam')) t_check_dam (t_var (i := 0) (e := (e4 eI eI eI (eR eI))) (v := dam') rfl)) (r_seq_expr (A := (N_check_demands demands' ((dam'.2.2.2).length : Int))) (t_call2 (A := (some demands')) (B := (some ((dam'.2.2.2).length : Int))) t_check_demands (t_var (i := 1) (e := (eR eI)) (v := demands') rfl) (t_f1 (A := (some dam'.2.2.2)) (h := (fun x2 => some ((x2).length : Int))) g_lenR (t_ixc (A := (some dam')) (k := 3) (pr := fun x1 => x1.2.2.2) (eb := (eR eI)) (fun _ => rfl) (t_var (i := 0) (e := (e4 eI eI eI (eR eI))) (v := dam') rfl)))) (r_seq_ifret (P := (some (decide ((List.sum demands') = (0 : Int))))) (A := none) (t_T (P := (some (decide ((List.sum demands') = (0 : Int))))) (t_f2 (A := (some (List.sum demands'))) (B := (some (0 : Int))) (h := (fun x4 y5 => some (decide (x4 = y5)))) (g_eq enc_I rfl) (t_f1 (A := (some demands')) (h := (fun x3 => some (List.sum x3))) g_sumR (t_var (i := 1) (e := (eR eI)) (v := demands') rfl)) (t_int (i := 0)))) r_never (r_seq_expr (A := (N_check_has_plan dam')) (t_call1 (A := (some dam')) t_check_has_plan (t_var (i := 0) (e := (e4 eI eI eI (eR eI))) (v := dam') rfl)) (r_seq_own (i := 2) (ea := (e2 eI eI)) (A := (some [])) (t_lstL (L := some []) (t_nil (α := (Int × Int)) (e := (e2 eI eI)))) (lt_of rfl) (fun shares_6 => (r_seq_nx (env := (fun (s : ((List (Int × Int)))) (z : (Slot × Slot)) => [.dat ((e4 eI eI eI (eR eI)) dam'), .dat ((eR eI) demands'), .own (List.map (e2 eI eI) s), z.1, z.2])) (A := ((N_windows ((demands').length : Int)).bind fun l => foldO (fun i10 s8 => (((N_in_window demands' i10).bind (fun x12 => some (List.sum x12))).bind fun needed_11 => (iteO (some (decide ((0 : Int) < needed_11))) (((N_spare_water dam' i10).bind fun a17 => (some needed_11).bind fun a18 => N_ratio a17 a18).bind fun x20 => (appO s8 x20).bind fun shares_19 => some shares_19) (some s8)))) l shares_6)) (n_for (env := (fun (s : ((List (Int × Int)))) (z : (Slot × Slot)) => [.dat ((e4 eI eI eI (eR eI)) dam'), .dat ((eR eI) demands'), .own (List.map (e2 eI eI) s), z.1, z.2])) (s := shares_6) (z := ((.no : Slot), (.no : Slot))) (L := (N_windows ((demands').length : Int))) (ea := (e2 eI eI)) (Bd := (fun i10 s8 => (((N_in_window demands' i10).bind (fun x12 => some (List.sum x12))).bind fun needed_11 => (iteO (some (decide ((0 : Int) < needed_11))) (((N_spare_water dam' i10).bind fun a17 => (some needed_11).bind fun a18 => N_ratio a17 a18).bind fun x20 => (appO s8 x20).bind fun shares_19 => some shares_19) (some s8))))) rfl (i_seqL (A := (N_windows ((demands').length : Int))) (e := (e2 eI eI)) (t_call1 (A := (some ((demands').length : Int))) t_windows (t_f1 (A := (some demands')) (h := (fun x7 => some ((x7).length : Int))) g_lenR (t_var (i := 1) (e := (eR eI)) (v := demands') rfl)))) (fun i10 s8 z9 => ⟨[.dat ((e4 eI eI eI (eR eI)) dam'), .dat ((eR eI) demands'), .own (List.map (e2 eI eI) s8), .dat ((e2 eI eI) i10), z9.2], rfl, (n_seq_set (i := 4) (A := ((N_in_window demands' i10).bind (fun x12 => some (List.sum x12)))) (t_f1 (A := (N_in_window demands' i10)) (h := (fun x12 => some (List.sum x12))) g_sumR (t_call2 (A := (some demands')) (B := (some i10)) t_in_window (t_var (i := 1) (e := (eR eI)) (v := demands') rfl) (t_var (i := 3) (e := (e2 eI eI)) (v := i10) rfl))) (lt_of rfl) (fun needed_11 => (n_if (P := (some (decide ((0 : Int) < needed_11)))) (A := (((N_spare_water dam' i10).bind fun a17 => (some needed_11).bind fun a18 => N_ratio a17 a18).bind fun x20 => (appO s8 x20).bind fun shares_19 => some shares_19)) (B := (some s8)) (t_T (P := (some (decide ((0 : Int) < needed_11)))) (t_f2 (A := (some needed_11)) (B := (some (0 : Int))) (h := (fun x15 y16 => some (decide (y16 < x15)))) g_gt (t_var (i := 4) (e := eI) (v := needed_11) rfl) (t_int (i := 0)))) (n_app (i := 2) (A := ((N_spare_water dam' i10).bind fun a17 => (some needed_11).bind fun a18 => N_ratio a17 a18)) (v := s8) (K := fun shares_19 => shares_19) (t_call2 (A := (N_spare_water dam' i10)) (B := (some needed_11)) t_ratio (t_call2 (A := (some dam')) (B := (some i10)) t_spare_water (t_var (i := 0) (e := (e4 eI eI eI (eR eI))) (v := dam') rfl) (t_var (i := 3) (e := (e2 eI eI)) (v := i10) rfl)) (t_var (i := 4) (e := eI) (v := needed_11) rfl)) rfl (fun shares_19 => ⟨((.dat ((e2 eI eI) i10) : Slot), (.dat (eI needed_11) : Slot)), rfl⟩)) (n_nil (s := s8) (z := ((.dat ((e2 eI eI) i10) : Slot), (.dat (eI needed_11) : Slot))) rfl))))⟩)) (fun s21 z22 => (r_seq_rel (i := 2) (ea := (e2 eI eI)) (a := s21) rfl (r_ret (A := (N_least_ratio s21)) (t_call1 (A := (some s21)) t_least_ratio (t_var (i := 2) (e := (eL (e2 eI eI))) (v := s21) rfl))))))))))))
end Ty
set_option Elab.async false
set_option linter.all false
set_option maxRecDepth 100000
set_option maxHeartbeats 4000000
namespace Ty
open PySem PySem.Spec PyProof.Rows L2 DN
def F_is_ratio (c_is_whole : List PyData → Option PyData) : En → Option Fl := (sSeq (sIf (kNot (kAnd (fT (fIsi isTup (fVar 0))) (fT (fEq (fLen (fVar 0)) (fLit (.int 2)))))) (sRet (fLit (.bool false))) sNil) (sSeq (sBind (bTup [1, 2]) (fVar 0)) (sRet (fAnd (fCall 1 c_is_whole (fCons (fVar 1) fNil)) (fAnd (fCall 1 c_is_whole (fCons (fVar 2) fNil)) (fAnd (fGt (fVar 2) (fLit (.int 0))) (fEq (fGcd (fVar 1) (fVar 2)) (fLit (.int 1)))))))))
def S_is_ratio := runD 3 (F_is_ratio S_is_whole)
def F_plus (c_ratio : List PyData → Option PyData) : En → Option Fl := (sRet (fCall 2 c_ratio (fCons (fPlus (fTimes (fIx (fVar 0) (fLit (.int 0))) (fIx (fVar 1) (fLit (.int 1)))) (fTimes (fIx (fVar 1) (fLit (.int 0))) (fIx (fVar 0) (fLit (.int 1))))) (fCons (fTimes (fIx (fVar 0) (fLit (.int 1))) (fIx (fVar 1) (fLit (.int 1)))) fNil))))
def S_plus := runD 2 (F_plus S_ratio)
def F_minus (c_ratio : List PyData → Option PyData) : En → Option Fl := (sRet (fCall 2 c_ratio (fCons (fSub (fTimes (fIx (fVar 0) (fLit (.int 0))) (fIx (fVar 1) (fLit (.int 1)))) (fTimes (fIx (fVar 1) (fLit (.int 0))) (fIx (fVar 0) (fLit (.int 1))))) (fCons (fTimes (fIx (fVar 0) (fLit (.int 1))) (fIx (fVar 1) (fLit (.int 1)))) fNil))))
def S_minus := runD 2 (F_minus S_ratio)
def F_times (c_ratio : List PyData → Option PyData) : En → Option Fl := (sRet (fCall 2 c_ratio (fCons (fTimes (fIx (fVar 0) (fLit (.int 0))) (fIx (fVar 1) (fLit (.int 0)))) (fCons (fTimes (fIx (fVar 0) (fLit (.int 1))) (fIx (fVar 1) (fLit (.int 1)))) fNil))))
def S_times := runD 2 (F_times S_ratio)
def F_divided (c_ratio : List PyData → Option PyData) : En → Option Fl := (sSeq (sPar 2 3 (fTimes (fIx (fVar 0) (fLit (.int 0))) (fIx (fVar 1) (fLit (.int 1)))) (fTimes (fIx (fVar 0) (fLit (.int 1))) (fIx (fVar 1) (fLit (.int 0))))) (sRet (fIf (fT (fGt (fVar 3) (fLit (.int 0)))) (fCall 2 c_ratio (fCons (fVar 2) (fCons (fVar 3) fNil))) (fCall 2 c_ratio (fCons (fNeg (fVar 2)) (fCons (fNeg (fVar 3)) fNil))))))
def S_divided := runD 4 (F_divided S_ratio)
def N_plus (one' : (Int × Int)) (other' : (Int × Int)) : Option (Int × Int) := (((mulO one'.1 other'.2).bind fun x9 => (mulO other'.1 one'.2).bind fun y10 => some (x9 + y10)).bind fun a15 => (mulO one'.2 other'.2).bind fun a16 => N_ratio a15 a16)
theorem t_plus (one' : (Int × Int)) (other' : (Int × Int)) : S_plus [(e2 eI eI) one', (e2 eI eI) other'] = (N_plus one' other').map (e2 eI eI) := d_run (r_ret (A := (((mulO one'.1 other'.2).bind fun x9 => (mulO other'.1 one'.2).bind fun y10 => some (x9 + y10)).bind fun a15 => (mulO one'.2 other'.2).bind fun a16 => N_ratio a15 a16)) (t_call2 (A := ((mulO one'.1 other'.2).bind fun x9 => (mulO other'.1 one'.2).bind fun y10 => some (x9 + y10))) (B := (mulO one'.2 other'.2)) t_ratio (t_f2 (A := (mulO one'.1 other'.2)) (B := (mulO other'.1 one'.2)) (h := (fun x9 y10 => some (x9 + y10))) g_add (t_f2 (A := (some one'.1)) (B := (some other'.2)) (h := (fun x3 y4 => (mulO x3 y4))) g_mul (t_ixc (A := (some one')) (k := 0) (pr := fun x1 => x1.1) (eb := eI) (fun _ => rfl) (t_var (i := 0) (e := (e2 eI eI)) (v := one') rfl)) (t_ixc (A := (some other')) (k := 1) (pr := fun x2 => x2.2) (eb := eI) (fun _ => rfl) (t_var (i := 1) (e := (e2 eI eI)) (v := other') rfl))) (t_f2 (A := (some other'.1)) (B := (some one'.2)) (h := (fun x7 y8 => (mulO x7 y8))) g_mul (t_ixc (A := (some other')) (k := 0) (pr := fun x5 => x5.1) (eb := eI) (fun _ => rfl) (t_var (i := 1) (e := (e2 eI eI)) (v := other') rfl)) (t_ixc (A := (some one')) (k := 1) (pr := fun x6 => x6.2) (eb := eI) (fun _ => rfl) (t_var (i := 0) (e := (e2 eI eI)) (v := one') rfl)))) (t_f2 (A := (some one'.2)) (B := (some other'.2)) (h := (fun x13 y14 => (mulO x13 y14))) g_mul (t_ixc (A := (some one')) (k := 1) (pr := fun x11 => x11.2) (eb := eI) (fun _ => rfl) (t_var (i := 0) (e := (e2 eI eI)) (v := one') rfl)) (t_ixc (A := (some other')) (k := 1) (pr := fun x12 => x12.2) (eb := eI) (fun _ => rfl) (t_var (i := 1) (e := (e2 eI eI)) (v := other') rfl)))))
def N_minus (one' : (Int × Int)) (other' : (Int × Int)) : Option (Int × Int) := (((mulO one'.1 other'.2).bind fun x9 => (mulO other'.1 one'.2).bind fun y10 => some (x9 - y10)).bind fun a15 => (mulO one'.2 other'.2).bind fun a16 => N_ratio a15 a16)
theorem t_minus (one' : (Int × Int)) (other' : (Int × Int)) : S_minus [(e2 eI eI) one', (e2 eI eI) other'] = (N_minus one' other').map (e2 eI eI) := d_run (r_ret (A := (((mulO one'.1 other'.2).bind fun x9 => (mulO other'.1 one'.2).bind fun y10 => some (x9 - y10)).bind fun a15 => (mulO one'.2 other'.2).bind fun a16 => N_ratio a15 a16)) (t_call2 (A := ((mulO one'.1 other'.2).bind fun x9 => (mulO other'.1 one'.2).bind fun y10 => some (x9 - y10))) (B := (mulO one'.2 other'.2)) t_ratio (t_f2 (A := (mulO one'.1 other'.2)) (B := (mulO other'.1 one'.2)) (h := (fun x9 y10 => some (x9 - y10))) g_sub (t_f2 (A := (some one'.1)) (B := (some other'.2)) (h := (fun x3 y4 => (mulO x3 y4))) g_mul (t_ixc (A := (some one')) (k := 0) (pr := fun x1 => x1.1) (eb := eI) (fun _ => rfl) (t_var (i := 0) (e := (e2 eI eI)) (v := one') rfl)) (t_ixc (A := (some other')) (k := 1) (pr := fun x2 => x2.2) (eb := eI) (fun _ => rfl) (t_var (i := 1) (e := (e2 eI eI)) (v := other') rfl))) (t_f2 (A := (some other'.1)) (B := (some one'.2)) (h := (fun x7 y8 => (mulO x7 y8))) g_mul (t_ixc (A := (some other')) (k := 0) (pr := fun x5 => x5.1) (eb := eI) (fun _ => rfl) (t_var (i := 1) (e := (e2 eI eI)) (v := other') rfl)) (t_ixc (A := (some one')) (k := 1) (pr := fun x6 => x6.2) (eb := eI) (fun _ => rfl) (t_var (i := 0) (e := (e2 eI eI)) (v := one') rfl)))) (t_f2 (A := (some one'.2)) (B := (some other'.2)) (h := (fun x13 y14 => (mulO x13 y14))) g_mul (t_ixc (A := (some one')) (k := 1) (pr := fun x11 => x11.2) (eb := eI) (fun _ => rfl) (t_var (i := 0) (e := (e2 eI eI)) (v := one') rfl)) (t_ixc (A := (some other')) (k := 1) (pr := fun x12 => x12.2) (eb := eI) (fun _ => rfl) (t_var (i := 1) (e := (e2 eI eI)) (v := other') rfl)))))
def N_times (one' : (Int × Int)) (other' : (Int × Int)) : Option (Int × Int) := ((mulO one'.1 other'.1).bind fun a9 => (mulO one'.2 other'.2).bind fun a10 => N_ratio a9 a10)
theorem t_times (one' : (Int × Int)) (other' : (Int × Int)) : S_times [(e2 eI eI) one', (e2 eI eI) other'] = (N_times one' other').map (e2 eI eI) := d_run (r_ret (A := ((mulO one'.1 other'.1).bind fun a9 => (mulO one'.2 other'.2).bind fun a10 => N_ratio a9 a10)) (t_call2 (A := (mulO one'.1 other'.1)) (B := (mulO one'.2 other'.2)) t_ratio (t_f2 (A := (some one'.1)) (B := (some other'.1)) (h := (fun x3 y4 => (mulO x3 y4))) g_mul (t_ixc (A := (some one')) (k := 0) (pr := fun x1 => x1.1) (eb := eI) (fun _ => rfl) (t_var (i := 0) (e := (e2 eI eI)) (v := one') rfl)) (t_ixc (A := (some other')) (k := 0) (pr := fun x2 => x2.1) (eb := eI) (fun _ => rfl) (t_var (i := 1) (e := (e2 eI eI)) (v := other') rfl))) (t_f2 (A := (some one'.2)) (B := (some other'.2)) (h := (fun x7 y8 => (mulO x7 y8))) g_mul (t_ixc (A := (some one')) (k := 1) (pr := fun x5 => x5.2) (eb := eI) (fun _ => rfl) (t_var (i := 0) (e := (e2 eI eI)) (v := one') rfl)) (t_ixc (A := (some other')) (k := 1) (pr := fun x6 => x6.2) (eb := eI) (fun _ => rfl) (t_var (i := 1) (e := (e2 eI eI)) (v := other') rfl)))))
def N_divided (one' : (Int × Int)) (other' : (Int × Int)) : Option (Int × Int) := ((mulO one'.1 other'.2).bind fun top_9 => (mulO one'.2 other'.1).bind fun bottom_10 => (iteO (some (decide ((0 : Int) < bottom_10))) (N_ratio top_9 bottom_10) (N_ratio (-top_9) (-bottom_10))))
theorem t_divided (one' : (Int × Int)) (other' : (Int × Int)) : S_divided [(e2 eI eI) one', (e2 eI eI) other'] = (N_divided one' other').map (e2 eI eI) := d_run (r_seq_par (i := 2) (j := 3) (A := (mulO one'.1 other'.2)) (B := (mulO one'.2 other'.1)) (t_f2 (A := (some one'.1)) (B := (some other'.2)) (h := (fun x3 y4 => (mulO x3 y4))) g_mul (t_ixc (A := (some one')) (k := 0) (pr := fun x1 => x1.1) (eb := eI) (fun _ => rfl) (t_var (i := 0) (e := (e2 eI eI)) (v := one') rfl)) (t_ixc (A := (some other')) (k := 1) (pr := fun x2 => x2.2) (eb := eI) (fun _ => rfl) (t_var (i := 1) (e := (e2 eI eI)) (v := other') rfl))) (t_f2 (A := (some one'.2)) (B := (some other'.1)) (h := (fun x7 y8 => (mulO x7 y8))) g_mul (t_ixc (A := (some one')) (k := 1) (pr := fun x5 => x5.2) (eb := eI) (fun _ => rfl) (t_var (i := 0) (e := (e2 eI eI)) (v := one') rfl)) (t_ixc (A := (some other')) (k := 0) (pr := fun x6 => x6.1) (eb := eI) (fun _ => rfl) (t_var (i := 1) (e := (e2 eI eI)) (v := other') rfl))) (lt_of rfl) (lt_of rfl) (fun top_9 bottom_10 => (r_ret (A := (iteO (some (decide ((0 : Int) < bottom_10))) (N_ratio top_9 bottom_10) (N_ratio (-top_9) (-bottom_10)))) (t_if (P := (some (decide ((0 : Int) < bottom_10)))) (A := (N_ratio top_9 bottom_10)) (B := (N_ratio (-top_9) (-bottom_10))) (t_T (P := (some (decide ((0 : Int) < bottom_10)))) (t_f2 (A := (some bottom_10)) (B := (some (0 : Int))) (h := (fun x13 y14 => some (decide (y14 < x13)))) g_gt (t_var (i := 3) (e := eI) (v := bottom_10) rfl) (t_int (i := 0)))) (t_call2 (A := (some top_9)) (B := (some bottom_10)) t_ratio (t_var (i := 2) (e := eI) (v := top_9) rfl) (t_var (i := 3) (e := eI) (v := bottom_10) rfl)) (t_call2 (A := (some (-top_9))) (B := (some (-bottom_10))) t_ratio (t_f1 (A := (some top_9)) (h := (fun x15 => some (-x15))) g_neg (t_var (i := 2) (e := eI) (v := top_9) rfl)) (t_f1 (A := (some bottom_10)) (h := (fun x16 => some (-x16))) g_neg (t_var (i := 3) (e := eI) (v := bottom_10) rfl)))))))
def N_is_ratio (value' : (Int × Int)) : Option Bool := (iteO (some (!(true && (decide ((2 : Int) = (2 : Int)))))) (some false) ((some value').bind fun p6 => (andO (N_is_whole p6.1) (andO (N_is_whole p6.2) (some ((decide ((0 : Int) < p6.2)) && (decide (((Nat.gcd (p6.1).natAbs (p6.2).natAbs : Nat) : Int) = (1 : Int)))))))))
theorem t_is_ratio (value' : (Int × Int)) : S_is_ratio [(e2 eI eI) value'] = (N_is_ratio value').map eB := d_run (r_seq_ifret (P := (some (!(true && (decide ((2 : Int) = (2 : Int))))))) (A := (some false)) (t_knot (P := (some (true && (decide ((2 : Int) = (2 : Int)))))) (t_kandP (b := true) (c := (decide ((2 : Int) = (2 : Int)))) (t_T (P := (some true)) (t_isi (A := (some value')) (b := fun x1 => true) (fun _ => rfl) (t_var (i := 0) (e := (e2 eI eI)) (v := value') rfl))) (t_T (P := (some (decide ((2 : Int) = (2 : Int))))) (t_f2 (A := (some (2 : Int))) (B := (some (2 : Int))) (h := (fun x3 y4 => some (decide (x3 = y4)))) (g_eq enc_I rfl) (t_f1 (A := (some value')) (h := (fun x2 => some (2 : Int))) (fun _ => rfl) (t_var (i := 0) (e := (e2 eI eI)) (v := value') rfl)) (t_int (i := 2)))))) (r_ret (A := (some false)) (t_bl (b := false))) (r_seq_bind (A := (some value')) (envb := fun p6 => [.dat ((e2 eI eI) value'), .dat (eI p6.1), .dat (eI p6.2)]) (t_var (i := 0) (e := (e2 eI eI)) (v := value') rfl) (fun _ => rfl) (fun p6 => (r_ret (A := (andO (N_is_whole p6.1) (andO (N_is_whole p6.2) (some ((decide ((0 : Int) < p6.2)) && (decide (((Nat.gcd (p6.1).natAbs (p6.2).natAbs : Nat) : Int) = (1 : Int)))))))) (t_and (P := (N_is_whole p6.1)) (Q := (andO (N_is_whole p6.2) (some ((decide ((0 : Int) < p6.2)) && (decide (((Nat.gcd (p6.1).natAbs (p6.2).natAbs : Nat) : Int) = (1 : Int))))))) (t_call1 (A := (some p6.1)) t_is_whole (t_var (i := 1) (e := eI) (v := p6.1) rfl)) (t_and (P := (N_is_whole p6.2)) (Q := (some ((decide ((0 : Int) < p6.2)) && (decide (((Nat.gcd (p6.1).natAbs (p6.2).natAbs : Nat) : Int) = (1 : Int)))))) (t_call1 (A := (some p6.2)) t_is_whole (t_var (i := 2) (e := eI) (v := p6.2) rfl)) (t_andP (b := (decide ((0 : Int) < p6.2))) (c := (decide (((Nat.gcd (p6.1).natAbs (p6.2).natAbs : Nat) : Int) = (1 : Int)))) (t_f2 (A := (some p6.2)) (B := (some (0 : Int))) (h := (fun x9 y10 => some (decide (y10 < x9)))) g_gt (t_var (i := 2) (e := eI) (v := p6.2) rfl) (t_int (i := 0))) (t_f2 (A := (some ((Nat.gcd (p6.1).natAbs (p6.2).natAbs : Nat) : Int))) (B := (some (1 : Int))) (h := (fun x13 y14 => some (decide (x13 = y14)))) (g_eq enc_I rfl) (t_f2 (A := (some p6.1)) (B := (some p6.2)) (h := (fun x11 y12 => some ((Nat.gcd (x11).natAbs (y12).natAbs : Nat) : Int))) g_gcd (t_var (i := 1) (e := eI) (v := p6.1) rfl) (t_var (i := 2) (e := eI) (v := p6.2) rfl)) (t_int (i := 1))))))))))
end Ty
set_option Elab.async false
set_option linter.all false
set_option maxRecDepth 100000
set_option maxHeartbeats 4000000
namespace DN
open PySem PySem.Spec PyProof.Rows L2
/-! ### a, b, c, d = x, y, [..], z : the third a list of the def's own -/
theorem Rep.fresh {K : PySem.W.Frag} {Ts : TsT} {He : Hp} {O : List Addr} {σ : St} {H H1 : Hp} {en : En} {a : Addr} {vs : List V} (r : Rep K Ts He O σ H en) (x : Xt H H1) (t : Tb Ts H1) (na : H a = none) (ha : H1 a = some (.lst vs)) :
    Rep K Ts He (a :: O) σ H1 en ∧ Xt (hide H O) (hide H1 (a :: O)) := by
  have r1 := r.go x t
  have back : Xt (hide H O) (hide H1 (a :: O)) := fun b o e => by
    obtain ⟨e1, e2⟩ := hide_some e
    have nb : b ∉ a :: O := fun z => by
      rcases List.mem_cons.mp z with z | z
      · rw [z, na] at e2; cases e2
      · exact e1 z
    rcases x b o e2 with q | ⟨ps, qs, e3, q⟩
    · exact .inl (hide_of nb q)
    · exact .inr ⟨ps, qs, e3, hide_of nb q⟩
  refine ⟨⟨r.len, fun j d h => let ⟨v, q1, q2⟩ := r.dat j d h; ⟨v, q1, Dp.mono back q2⟩, fun j es h => let ⟨a', vs', q1, q2, q3, q4, q5⟩ := r.own j es h; ⟨a', vs', q1, List.mem_cons_of_mem _ q2, q3, x.get a' _ q4 (fun _ z => nomatch z), DpAll.mono back q5⟩, r.inj, fun b hb => ?_, r1.ext, t⟩, back⟩
  rcases List.mem_cons.mp hb with z | z
  · rw [z, ha]
    exact ⟨by simp, fun ps z => nomatch z⟩
  · exact r1.occ b z
def sPar4O (i j l m : Nat) (f h g k : En → Option PyData) : En → Option Fl := fun en => (f en).bind fun x => (h en).bind fun y => (k en).bind fun u => match g en with
  | some (.list ds) => if i < en.length ∧ j < en.length ∧ l < en.length ∧ m < en.length then some (.nx ((((en.set i (.dat x)).set j (.dat y)).set l (.own ds)).set m (.dat u))) else none
  | _ => none
section
variable {X : Cx} {Ts : TsT} {pos : Pos} {a b c d : Expr}
theorem s_par4O {i j l m : Nat} {x y z u : Str} {px py pz pu pt : Pos} {kt k2 pt2} {f h g k : En → Option PyData} (hc : X.calm = true) (hN : X.N.Nodup) (hi : X.N[i]? = some x) (hj : X.N[j]? = some y) (hl : X.N[l]? = some z) (hm : X.N[m]? = some u) (hil : i ≠ l) (hjl : j ≠ l)
    (hx : X.env.scope.names.lookup x = some .local) (hy : X.env.scope.names.lookup y = some .local) (hz : X.env.scope.names.lookup z = some .local) (hu : X.env.scope.names.lookup u = some .local) (ha : DE X Ts a f) (hb : DE X Ts b h) (hcc : DNew X Ts c g) (hd : DE X Ts d k)
    (hs1 : starEach [a, b, c, d] X.env = (false, eval a X.env) :: starEach [b, c, d] X.env := by rfl) (hs2 : starEach [b, c, d] X.env = (false, eval b X.env) :: starEach [c, d] X.env := by rfl) (hs3 : starEach [c, d] X.env = (false, eval c X.env) :: starEach [d] X.env := by rfl) (hs4 : starEach [d] X.env = (false, eval d X.env) :: starEach [] X.env := by rfl)
    (hs : swapsWithSole [.Tuple [.Name x px, .Name y py, .Name z pz, .Name u pu] kt pt] (.Tuple [a, b, c, d] k2 pt2) pos.line X.env = pure false := by rfl) (hw : swappedStores [.Tuple [.Name x px, .Name y py, .Name z pz, .Name u pu] kt pt] (.Tuple [a, b, c, d] k2 pt2) X.env = pure none := by rfl) : DS X Ts (.Assign [.Tuple [.Name x px, .Name y py, .Name z pz, .Name u pu] kt pt] (.Tuple [a, b, c, d] k2 pt2) pos) (sPar4O i j l m f h g k) :=
  PS.imp (ps_asg (pe_tup (pa_cons ha (pa_cons hb (pa_cons hcc (pa_cons hd pa_nil hs4) hs3) hs2) hs1)) (pg_tup hc (pgs_cons (pg_name hN hi (Or.inl hx) (Or.inr hx)) (pgs_cons (pg_name hN hj (Or.inl hy) (Or.inr hy)) (pgs_cons (pg_name hN hl (Or.inl hz) (Or.inr hz)) (pgs_cons (pg_name hN hm (Or.inl hu) (Or.inr hu)) pgs_nil))))) hs hw) fun D σ H ⟨He, O₀, Vz, en, r, rp, hf, kk⟩ => by
    unfold sPar4O at hf
    obtain ⟨d1, h1, hf1⟩ := Option.bind_eq_some_iff.mp hf
    obtain ⟨d2, h2, hf2⟩ := Option.bind_eq_some_iff.mp hf1
    obtain ⟨d4, h4, hf3⟩ := Option.bind_eq_some_iff.mp hf2
    split at hf3
    · rename_i ds h3
      split at hf3
      · rename_i hlt
        cases hf3
        obtain ⟨O, a1, a2, rp, xv⟩ := rp
        refine tD.of rp h1 fun v H1 x1 r1 q1 => tD.of r1 h2 fun w H2 x2 r2 q2 => ⟨He, O, en, ds, r2, h3, fun p ws H3 x3 t3 na ha2 q3 => ?_⟩
        obtain ⟨r3, b3⟩ := r2.fresh x3 t3 na ha2
        obtain ⟨o3, _⟩ := r2.setO1 (i := l) hlt.2.2.1 x3 t3 na ha2 q3
        refine tD.of r3 h4 fun u4 H4 x4 r4 q4 => ⟨by show 4 ≤ sizeLine; decide, fun T nT => ⟨T, [v, w, .ref p, u4], rfl, .inl (.inl upd_same), rfl, v, _, rfl, w, _, rfl, .ref p, _, rfl, u4, _, rfl, rfl, kk _ _ ?_⟩⟩
        have x5 : Xt H4 (upd H4 T (.tup [v, w, .ref p, u4])) := Xt.upd nT
        have o5 := o3.go (x4.trans x5) (r4.tabs.new nT)
        have m1 := Dp.mono (hide_mono x5) (Dp.mono (hide_mono x4) (Dp.mono b3 (Dp.mono (hide_mono x2) q1)))
        have m2 := Dp.mono (hide_mono x5) (Dp.mono (hide_mono x4) (Dp.mono b3 q2))
        have m4 := Dp.mono (hide_mono x5) q4
        have o6 := ((o5.setD (i := i) (by simpa using hlt.1) m1).setD (i := j) (by simpa using hlt.2.1) m2).setD (i := m) (by simpa using hlt.2.2.2) m4
        rw [List.set_comm _ _ (Ne.symm hil), List.set_comm _ _ (Ne.symm hjl), List.set_comm (l := en) _ _ (Ne.symm hil), List.set_comm (l := en.set i _) _ _ (Ne.symm hjl)] at o6
        exact ⟨p :: O, fun b hb => List.mem_cons_of_mem _ (a1 b hb), a2, o6, xv.trans ((hide_mono (x1.trans x2)).trans (b3.trans ((hide_mono x4).trans (hide_mono x5))))⟩
      · cases hf3
    · cases hf3
end
/-! a, b = [..], x : the first a list of the def's own -/
def sParQ (i j : Nat) (g f : En → Option PyData) : En → Option Fl := fun en => (f en).bind fun x => match g en with
  | some (.list ds) => if i < en.length ∧ j < en.length then some (.nx ((en.set i (.own ds)).set j (.dat x))) else none
  | _ => none
section
variable {X : Cx} {Ts : TsT} {pos : Pos} {a b : Expr}
theorem s_parQ {i j : Nat} {x y : Str} {px py pt : Pos} {kt k2 pt2} {f g : En → Option PyData} (hc : X.calm = true) (hN : X.N.Nodup) (hi : X.N[i]? = some x) (hj : X.N[j]? = some y) (hij : i ≠ j)
    (hx : X.env.scope.names.lookup x = some .local) (hy : X.env.scope.names.lookup y = some .local) (ha : DNew X Ts a g) (hb : DE X Ts b f) (hw : swappedStores [.Tuple [.Name x px, .Name y py] kt pt] (.Tuple [a, b] k2 pt2) X.env = pure (some [x, y]))
    (hs1 : starEach [a, b] X.env = (false, eval a X.env) :: starEach [b] X.env := by rfl) (hs2 : starEach [b] X.env = (false, eval b X.env) :: starEach [] X.env := by rfl)
    (hs : swapsWithSole [.Tuple [.Name x px, .Name y py] kt pt] (.Tuple [a, b] k2 pt2) pos.line X.env = pure false := by rfl) : DS X Ts (.Assign [.Tuple [.Name x px, .Name y py] kt pt] (.Tuple [a, b] k2 pt2) pos) (sParQ i j g f) :=
  PS.imp (ps_par hc hN hi hj hij hx hy (pa_cons ha (pa_cons hb pa_nil hs2) hs1) hw hs) fun D σ H ⟨He, O₀, Vz, en, r, rp, hf, k⟩ => by
    unfold sParQ at hf
    obtain ⟨d1, h1, hf1⟩ := Option.bind_eq_some_iff.mp hf
    split at hf1
    · rename_i ds h2
      split at hf1
      · rename_i hlt
        cases hf1
        obtain ⟨O, a1, a2, rp, xv⟩ := rp
        refine ⟨He, O, en, ds, rp, h2, fun p ws H2 x2 t2 na ha2 q2 => ?_⟩
        obtain ⟨r3, b3⟩ := rp.fresh x2 t2 na ha2
        obtain ⟨o3, _⟩ := rp.setO1 (i := i) hlt.1 x2 t2 na ha2 q2
        exact tD.of r3 h1 fun v H3 x3 r4 q4 => ⟨.ref p, v, rfl, k _ H3 ⟨p :: O, fun b hb => List.mem_cons_of_mem _ (a1 b hb), a2, (o3.go x3 r4.tabs).setD (i := j) (by simpa using hlt.2) q4, xv.trans (b3.trans (hide_mono x3))⟩⟩
      · cases hf1
    · cases hf1
end
/-! list(x) of a list, a tuple -/
def rListOf (K : PySem.W.Frag) : List V → Hp → VK → Prop := fun vs H Q => ∃ b a xs, vs = [V.ref a] ∧ SqB K b H a xs ∧ ∀ p, H p = none → Q (.ref p) (upd H p (.lst xs))
theorem call_list_of {X : Cx} : CallR X (.type "list") (rListOf X.K) := by
  intro pins s σ H vs us Q I r h
  obtain ⟨b, a, xs, rfl, hs, q⟩ := h
  rw [Vals.ref1 r]
  have fin : ∀ (its : List Value) (T : String) (o : Obj) (n : Nat), (T = "list" ∨ T = "tuple") → s.heap.get? a = some o → o.cls = .type T → o.data = .seq its.toArray n → Vals xs its → xs.length ≤ sizeLine → wpAny (model X.prog X.w) X.A (call (.type "list") [.ref a]) (EP X pins σ Q) X.xe s := by
    intro its T o n hT ho hc hd rv hz
    refine call_list_seq a hT ho hc hd (fun h' c' hk hD => ?_) (by rw [List.size_toArray, ← rv.length]; exact hz)
    have I1 : Inv X pins σ (upd H s.heap.objs.size (.lst xs)) { s with heap := h' } :=
      I.laid (t' := s.toks) hk (Nat.le_refl _) (show ObjOk X.prog X.w _ _ _ (.lst xs) from ⟨hz, its, c', rv, hD⟩)
    exact ⟨.ref s.heap.objs.size, _, I1, rfl, q _ (I.hok.fresh (Nat.le_refl _))⟩
  cases b with
  | true =>
    obtain ⟨its, rv, pl, hz⟩ := I.list hs
    obtain ⟨o, ho, hc, n, hd⟩ := pl.isList
    exact fin its "list" o n (.inl rfl) ho hc hd rv hz
  | false =>
    obtain ⟨its, rv, pl, hz⟩ := I.tuple hs
    obtain ⟨o, ho, hc, n, hd⟩ := pl
    exact fin its "tuple" o n (.inr rfl) ho hc hd rv hz
def gList : PyData → Option PyData := fun d => (items d).map .list
def fList := f1 gList
theorem d_list {X : Cx} {Ts : TsT} {pos p : Pos} {e : Expr} {f : En → Option PyData} (hg : Gl X "list") (hm : X.mg "list" = none) (hv : bootBuiltins "list" = some (.type "list")) (ha : DB X Ts e f) (he : starEach [e] X.env = (false, eval e X.env) :: starEach [] X.env := by rfl) : DE X Ts (.Call (.Name "list" p) [e] [] pos) (fList f) :=
  b_argT call_list_of hg hm hv ha (he := he) fun d z v H O Q hz q t occ kk => by
    cases d <;> simp only [gList, items, Option.map_some, Option.map_none] at hz <;> try cases hz
    · obtain ⟨a, vs, rfl, h1, h2⟩ := q.lst
      exact ⟨true, a, vs, rfl, h1, fun l nl => kk _ _ (Xt.upd nl) (t.new nl) (lst_new nl (new_out occ nl) h2)⟩
    · rcases q with q | ⟨_, _, _, _, e, _⟩
      · cases q with
        | tup s a => exact ⟨false, _, _, rfl, sqT_mono (fun o n e => (hide_some e).2) s, fun l nl => kk _ _ (Xt.upd nl) (t.new nl) (lst_new nl (new_out occ nl) a)⟩
      · cases e
end DN
set_option Elab.async false
set_option linter.all false
set_option maxRecDepth 100000
set_option maxHeartbeats 4000000
/-! list(zip(..)): the zip drained into a new list; its first tuple stays held -/
namespace ZL
open PySem PySem.Spec PyProof.Rows L2 DN
open Sem (wp)
theorem zip_no_len : typeLookup (.type "zip") "__len__" = pure none := am_miss_of_fast (by decide +kernel)
theorem zip_no_hint : typeLookup (.type "zip") "__length_hint__" = pure none := am_miss_of_fast (by decide +kernel)
section
variable {prog : Program} {w : World} {A : Around} {E : Value → Shared → Prop} {s : Shared} {z TI TO T i1 i2 i3 : Addr} {f : Bool} {oT : Obj} {fp1 fp2 fp3 : List Addr} {n1 n2 n3 i : Nat} {P1 P2 P3 : Nat → Value → Prop} {St1 St2 St3 : Nat → Heap → Prop}
theorem held2_item {Q : Value → Shared → Prop} (S : ZipSep2 z TI TO i1 i2 fp1 fp2) (D1 : Draws prog w A i1 fp1 n1 P1 St1) (D2 : Draws prog w A i2 fp2 n2 P2 St2)
    (hz : IsZipHeld s.heap z TI TO T f) (hT : s.heap.get? T = some oT) (hTI : IsTupOf2 s.heap TI (.ref i1) (.ref i2)) (st1 : St1 i s.heap) (st2 : St2 i s.heap) (hlt1 : i < n1) (hlt2 : i < n2)
    (hQ : ∀ x1 x2 h' tk, P1 i x1 → P2 i x2 → IsZipHeld h' z TI TO T true → St1 (i + 1) h' → St2 (i + 1) h' → IsTupOf2 h' s.heap.objs.size x1 x2 → h'.objs.size = s.heap.objs.size + 1 →
      (∀ c o, c ≠ z → c ≠ i1 → c ≠ i2 → s.heap.get? c = some o → h'.get? c = some o) → Q (.ref s.heap.objs.size) { s with heap := h', toks := tk }) :
    wpAny (model prog w) A (Builtin.«zip.__next__» ⟨[.ref z], []⟩) (fun fin s' => ∃ v, fin = .done (.ret v) ∧ Q v s') E s := by
  obtain ⟨hp, g, d, tk0, os⟩ := s
  show wpAny _ _ (field (.ref z) 2 >>= _) _ _ _
  refine wpAny_bind (wpAny_field hz rfl (x := .bool false) rfl ?_)
  show wpAny _ _ (field (.ref z) 3 >>= _) _ _ _
  refine wpAny_bind (wpAny_field hz rfl (x := .ref TI) rfl ?_)
  refine wpAny_bind (wpAny_seqItems hTI rfl ?_)
  show wpAny _ _ (Builtin.SmallTypes.ownedTupleIsFree (.ref z) >>= _) _ _ _
  refine wpAny_bind (wpAny_tupleHeld_zip hz hT fun g0 hz0 hs0 => ?_)
  replace hs0 : Heap.SameBut z hp g0 := hs0
  simp only [Bool.false_eq_true, if_false]
  refine wpAny_bind ?_
  rw [← Array.forIn_toList]
  simp only [List.forIn_cons, List.forIn_nil]
  refine wpAny_bind (wpAny_bind (wpAny_holding ?_))
  show wpAny _ _ (Builtin.SmallTypes.nextOf (.ref i1) >>= _) _ _ _
  refine wpAny_bind (D1.item i ⟨g0, g, d, tk0, os⟩ _ _ hlt1 (D1.over st1 hs0 S.zf1) fun x1 p1 tk1 hx1 sn1 hp1 => wpAny_pure ?_)
  replace hp1 : Heap.SameBut i1 g0 p1 := hp1
  refine wpAny_pure ?_
  refine wpAny_bind (wpAny_bind (wpAny_holding ?_))
  show wpAny _ _ (Builtin.SmallTypes.nextOf (.ref i2) >>= _) _ _ _
  refine wpAny_bind (D2.item i ⟨p1, g, d, tk1, os⟩ _ _ hlt2 (D2.over (D2.over st2 hs0 S.zf2) hp1 S.sep1_2) fun x2 p2 tk2 hx2 sn2 hp2 => wpAny_pure ?_)
  replace hp2 : Heap.SameBut i2 p1 p2 := hp2
  refine wpAny_pure (wpAny_pure ?_)
  show wpAny _ _ (newTuple [x1, x2] >>= _) _ _ _
  refine wpAny_bind (wpAny_newTuple ?_)
  have hsz : p2.objs.size = hp.objs.size := by rw [hp2.1, hp1.1, hs0.1]
  have hz3 : IsZipHeld p2 z TI TO T true := hp2.extBut _ _ S.zi2 (hp1.extBut _ _ S.zi1 hz0)
  have hk : ∀ c o, c ≠ z → c ≠ i1 → c ≠ i2 → hp.get? c = some o → p2.get? c = some o := fun c o c1 c2 c3 e => hp2.extBut _ _ c3 (hp1.extBut _ _ c2 (hs0.extBut _ _ c1 e))
  refine wpAny_pure ⟨_, rfl, ?_⟩
  show Q (.ref p2.objs.size) _
  have up : ∀ c o, p2.get? c = some o → (p2.push { cls := .type "tuple", data := .seq #[x1, x2] }).get? c = some o := fun c o e => Heap.get?_push_of_some _ e
  have hp4 : IsTupOf2 (p2.push { cls := .type "tuple", data := .seq #[x1, x2] }) p2.objs.size x1 x2 := Heap.get?_push_size _ rfl
  have hz4 : (p2.push { cls := .type "tuple", data := .seq #[x1, x2] }).objs.size = p2.objs.size + 1 := Heap.size_push ..
  have j1 : St1 (i + 1) p2 := D1.over sn1 hp2 S.sep2_1
  rw [hsz] at hp4 hz4 ⊢
  exact hQ x1 x2 _ tk2 hx1 hx2 (up _ _ hz3) (D1.frame _ _ _ j1 fun b _ o e => up b o e) (D2.frame _ _ _ sn2 fun b _ o e => up b o e) hp4 hz4 fun c o c1 c2 c3 e => up _ _ (hk c o c1 c2 c3 e)
theorem held2_end {Q : Fin → Shared → Prop} (S : ZipSep2 z TI TO i1 i2 fp1 fp2) (D1 : Draws prog w A i1 fp1 n1 P1 St1) (D2 : Draws prog w A i2 fp2 n2 P2 St2)
    (hz : IsZipHeld s.heap z TI TO T f) (hT : s.heap.get? T = some oT) (hTI : IsTupOf2 s.heap TI (.ref i1) (.ref i2)) (st1 : St1 i s.heap) (st2 : St2 i s.heap) (hle1 : i ≤ n1) (hle2 : i ≤ n2) (hend : i = n1 ∨ i = n2)
    (hE : ∀ h' tk e, (∀ c o, c ≠ z → c ≠ i1 → c ≠ i2 → s.heap.get? c = some o → h'.get? c = some o) → (∃ o, h'.get? e = some o ∧ o.cls = .type "StopIteration") → E (.ref e) { s with heap := h', toks := tk }) :
    wpAny (model prog w) A (Builtin.«zip.__next__» ⟨[.ref z], []⟩) Q E s := by
  obtain ⟨hp, g, d, tk0, os⟩ := s
  show wpAny _ _ (field (.ref z) 2 >>= _) _ _ _
  refine wpAny_bind (wpAny_field hz rfl (x := .bool false) rfl ?_)
  show wpAny _ _ (field (.ref z) 3 >>= _) _ _ _
  refine wpAny_bind (wpAny_field hz rfl (x := .ref TI) rfl ?_)
  refine wpAny_bind (wpAny_seqItems hTI rfl ?_)
  show wpAny _ _ (Builtin.SmallTypes.ownedTupleIsFree (.ref z) >>= _) _ _ _
  refine wpAny_bind (wpAny_tupleHeld_zip hz hT fun g0 hz0 hs0 => ?_)
  replace hs0 : Heap.SameBut z hp g0 := hs0
  simp only [Bool.false_eq_true, if_false]
  refine wpAny_bind ?_
  rw [← Array.forIn_toList]
  simp only [List.forIn_cons, List.forIn_nil]
  refine wpAny_bind (wpAny_bind (wpAny_holding ?_))
  show wpAny _ _ (Builtin.SmallTypes.nextOf (.ref i1) >>= _) _ _ _
  by_cases hlt1 : i < n1
  · refine wpAny_bind (D1.item i ⟨g0, g, d, tk0, os⟩ _ _ hlt1 (D1.over st1 hs0 S.zf1) fun x1 p1 tk1 hx1 sn1 hp1 => wpAny_pure ?_)
    replace hp1 : Heap.SameBut i1 g0 p1 := hp1
    have hi2 : i = n2 := by omega
    refine wpAny_pure ?_
    refine wpAny_bind (wpAny_bind (wpAny_holding ?_))
    show wpAny _ _ (Builtin.SmallTypes.nextOf (.ref i2) >>= _) _ _ _
    refine wpAny_bind (D2.done ⟨p1, g, d, tk1, os⟩ _ _ (by rw [← hi2]; exact (D2.over (D2.over st2 hs0 S.zf2) hp1 S.sep1_2)) fun q e hq he => ?_)
    replace hq : Heap.ExtBut i2 p1 q := hq
    exact hE q tk1 e (fun c o cz c1 c2 x => hq _ _ c2 (hp1.extBut _ _ c1 (hs0.extBut _ _ cz x))) he
  · have hi1 : i = n1 := by omega
    refine wpAny_bind (D1.done ⟨g0, g, d, tk0, os⟩ _ _ (by rw [← hi1]; exact (D1.over st1 hs0 S.zf1)) fun q e hq he => ?_)
    replace hq : Heap.ExtBut i1 g0 q := hq
    exact hE q tk0 e (fun c o cz c1 c2 x => hq _ _ c1 (hs0.extBut _ _ cz x)) he
theorem held3_item {Q : Value → Shared → Prop} (S : ZipSep3 z TI TO i1 i2 i3 fp1 fp2 fp3) (D1 : Draws prog w A i1 fp1 n1 P1 St1) (D2 : Draws prog w A i2 fp2 n2 P2 St2) (D3 : Draws prog w A i3 fp3 n3 P3 St3)
    (hz : IsZipHeld s.heap z TI TO T f) (hT : s.heap.get? T = some oT) (hTI : IsTupOf3 s.heap TI (.ref i1) (.ref i2) (.ref i3)) (st1 : St1 i s.heap) (st2 : St2 i s.heap) (st3 : St3 i s.heap) (hlt1 : i < n1) (hlt2 : i < n2) (hlt3 : i < n3)
    (hQ : ∀ x1 x2 x3 h' tk, P1 i x1 → P2 i x2 → P3 i x3 → IsZipHeld h' z TI TO T true → St1 (i + 1) h' → St2 (i + 1) h' → St3 (i + 1) h' → IsTupOf3 h' s.heap.objs.size x1 x2 x3 → h'.objs.size = s.heap.objs.size + 1 →
      (∀ c o, c ≠ z → c ≠ i1 → c ≠ i2 → c ≠ i3 → s.heap.get? c = some o → h'.get? c = some o) → Q (.ref s.heap.objs.size) { s with heap := h', toks := tk }) :
    wpAny (model prog w) A (Builtin.«zip.__next__» ⟨[.ref z], []⟩) (fun fin s' => ∃ v, fin = .done (.ret v) ∧ Q v s') E s := by
  obtain ⟨hp, g, d, tk0, os⟩ := s
  show wpAny _ _ (field (.ref z) 2 >>= _) _ _ _
  refine wpAny_bind (wpAny_field hz rfl (x := .bool false) rfl ?_)
  show wpAny _ _ (field (.ref z) 3 >>= _) _ _ _
  refine wpAny_bind (wpAny_field hz rfl (x := .ref TI) rfl ?_)
  refine wpAny_bind (wpAny_seqItems hTI rfl ?_)
  show wpAny _ _ (Builtin.SmallTypes.ownedTupleIsFree (.ref z) >>= _) _ _ _
  refine wpAny_bind (wpAny_tupleHeld_zip hz hT fun g0 hz0 hs0 => ?_)
  replace hs0 : Heap.SameBut z hp g0 := hs0
  simp only [Bool.false_eq_true, if_false]
  refine wpAny_bind ?_
  rw [← Array.forIn_toList]
  simp only [List.forIn_cons, List.forIn_nil]
  refine wpAny_bind (wpAny_bind (wpAny_holding ?_))
  show wpAny _ _ (Builtin.SmallTypes.nextOf (.ref i1) >>= _) _ _ _
  refine wpAny_bind (D1.item i ⟨g0, g, d, tk0, os⟩ _ _ hlt1 (D1.over st1 hs0 S.zf1) fun x1 p1 tk1 hx1 sn1 hp1 => wpAny_pure ?_)
  replace hp1 : Heap.SameBut i1 g0 p1 := hp1
  refine wpAny_pure ?_
  refine wpAny_bind (wpAny_bind (wpAny_holding ?_))
  show wpAny _ _ (Builtin.SmallTypes.nextOf (.ref i2) >>= _) _ _ _
  refine wpAny_bind (D2.item i ⟨p1, g, d, tk1, os⟩ _ _ hlt2 (D2.over (D2.over st2 hs0 S.zf2) hp1 S.sep1_2) fun x2 p2 tk2 hx2 sn2 hp2 => wpAny_pure ?_)
  replace hp2 : Heap.SameBut i2 p1 p2 := hp2
  refine wpAny_pure ?_
  refine wpAny_bind (wpAny_bind (wpAny_holding ?_))
  show wpAny _ _ (Builtin.SmallTypes.nextOf (.ref i3) >>= _) _ _ _
  refine wpAny_bind (D3.item i ⟨p2, g, d, tk2, os⟩ _ _ hlt3 (D3.over (D3.over (D3.over st3 hs0 S.zf3) hp1 S.sep1_3) hp2 S.sep2_3) fun x3 p3 tk3 hx3 sn3 hp3 => wpAny_pure ?_)
  replace hp3 : Heap.SameBut i3 p2 p3 := hp3
  refine wpAny_pure (wpAny_pure ?_)
  show wpAny _ _ (newTuple [x1, x2, x3] >>= _) _ _ _
  refine wpAny_bind (wpAny_newTuple ?_)
  have hsz : p3.objs.size = hp.objs.size := by rw [hp3.1, hp2.1, hp1.1, hs0.1]
  have hz3 : IsZipHeld p3 z TI TO T true := hp3.extBut _ _ S.zi3 (hp2.extBut _ _ S.zi2 (hp1.extBut _ _ S.zi1 hz0))
  have hk : ∀ c o, c ≠ z → c ≠ i1 → c ≠ i2 → c ≠ i3 → hp.get? c = some o → p3.get? c = some o := fun c o c1 c2 c3 c4 e => hp3.extBut _ _ c4 (hp2.extBut _ _ c3 (hp1.extBut _ _ c2 (hs0.extBut _ _ c1 e)))
  refine wpAny_pure ⟨_, rfl, ?_⟩
  show Q (.ref p3.objs.size) _
  have up : ∀ c o, p3.get? c = some o → (p3.push { cls := .type "tuple", data := .seq #[x1, x2, x3] }).get? c = some o := fun c o e => Heap.get?_push_of_some _ e
  have hp4 : IsTupOf3 (p3.push { cls := .type "tuple", data := .seq #[x1, x2, x3] }) p3.objs.size x1 x2 x3 := Heap.get?_push_size _ rfl
  have hz4 : (p3.push { cls := .type "tuple", data := .seq #[x1, x2, x3] }).objs.size = p3.objs.size + 1 := Heap.size_push ..
  have j1 : St1 (i + 1) p3 := D1.over (D1.over sn1 hp2 S.sep2_1) hp3 S.sep3_1
  have j2 : St2 (i + 1) p3 := D2.over sn2 hp3 S.sep3_2
  rw [hsz] at hp4 hz4 ⊢
  exact hQ x1 x2 x3 _ tk3 hx1 hx2 hx3 (up _ _ hz3) (D1.frame _ _ _ j1 fun b _ o e => up b o e) (D2.frame _ _ _ j2 fun b _ o e => up b o e) (D3.frame _ _ _ sn3 fun b _ o e => up b o e) hp4 hz4 fun c o c1 c2 c3 c4 e => up _ _ (hk c o c1 c2 c3 c4 e)
theorem held3_end {Q : Fin → Shared → Prop} (S : ZipSep3 z TI TO i1 i2 i3 fp1 fp2 fp3) (D1 : Draws prog w A i1 fp1 n1 P1 St1) (D2 : Draws prog w A i2 fp2 n2 P2 St2) (D3 : Draws prog w A i3 fp3 n3 P3 St3)
    (hz : IsZipHeld s.heap z TI TO T f) (hT : s.heap.get? T = some oT) (hTI : IsTupOf3 s.heap TI (.ref i1) (.ref i2) (.ref i3)) (st1 : St1 i s.heap) (st2 : St2 i s.heap) (st3 : St3 i s.heap) (hle1 : i ≤ n1) (hle2 : i ≤ n2) (hle3 : i ≤ n3) (hend : i = n1 ∨ i = n2 ∨ i = n3)
    (hE : ∀ h' tk e, (∀ c o, c ≠ z → c ≠ i1 → c ≠ i2 → c ≠ i3 → s.heap.get? c = some o → h'.get? c = some o) → (∃ o, h'.get? e = some o ∧ o.cls = .type "StopIteration") → E (.ref e) { s with heap := h', toks := tk }) :
    wpAny (model prog w) A (Builtin.«zip.__next__» ⟨[.ref z], []⟩) Q E s := by
  obtain ⟨hp, g, d, tk0, os⟩ := s
  show wpAny _ _ (field (.ref z) 2 >>= _) _ _ _
  refine wpAny_bind (wpAny_field hz rfl (x := .bool false) rfl ?_)
  show wpAny _ _ (field (.ref z) 3 >>= _) _ _ _
  refine wpAny_bind (wpAny_field hz rfl (x := .ref TI) rfl ?_)
  refine wpAny_bind (wpAny_seqItems hTI rfl ?_)
  show wpAny _ _ (Builtin.SmallTypes.ownedTupleIsFree (.ref z) >>= _) _ _ _
  refine wpAny_bind (wpAny_tupleHeld_zip hz hT fun g0 hz0 hs0 => ?_)
  replace hs0 : Heap.SameBut z hp g0 := hs0
  simp only [Bool.false_eq_true, if_false]
  refine wpAny_bind ?_
  rw [← Array.forIn_toList]
  simp only [List.forIn_cons, List.forIn_nil]
  refine wpAny_bind (wpAny_bind (wpAny_holding ?_))
  show wpAny _ _ (Builtin.SmallTypes.nextOf (.ref i1) >>= _) _ _ _
  by_cases hlt1 : i < n1
  · refine wpAny_bind (D1.item i ⟨g0, g, d, tk0, os⟩ _ _ hlt1 (D1.over st1 hs0 S.zf1) fun x1 p1 tk1 hx1 sn1 hp1 => wpAny_pure ?_)
    replace hp1 : Heap.SameBut i1 g0 p1 := hp1
    refine wpAny_pure ?_
    refine wpAny_bind (wpAny_bind (wpAny_holding ?_))
    show wpAny _ _ (Builtin.SmallTypes.nextOf (.ref i2) >>= _) _ _ _
    have st2' : St2 i p1 := D2.over (D2.over st2 hs0 S.zf2) hp1 S.sep1_2
    have st3' : St3 i p1 := D3.over (D3.over st3 hs0 S.zf3) hp1 S.sep1_3
    by_cases hlt2 : i < n2
    · refine wpAny_bind (D2.item i ⟨p1, g, d, tk1, os⟩ _ _ hlt2 st2' fun x2 p2 tk2 hx2 sn2 hp2 => wpAny_pure ?_)
      replace hp2 : Heap.SameBut i2 p1 p2 := hp2
      have hi3 : i = n3 := by omega
      refine wpAny_pure ?_
      refine wpAny_bind (wpAny_bind (wpAny_holding ?_))
      show wpAny _ _ (Builtin.SmallTypes.nextOf (.ref i3) >>= _) _ _ _
      refine wpAny_bind (D3.done ⟨p2, g, d, tk2, os⟩ _ _ (by rw [← hi3]; exact D3.over st3' hp2 S.sep2_3) fun q e hq he => ?_)
      replace hq : Heap.ExtBut i3 p2 q := hq
      exact hE q tk2 e (fun c o cz c1 c2 c3 x => hq _ _ c3 (hp2.extBut _ _ c2 (hp1.extBut _ _ c1 (hs0.extBut _ _ cz x)))) he
    · have hi2 : i = n2 := by omega
      refine wpAny_bind (D2.done ⟨p1, g, d, tk1, os⟩ _ _ (by rw [← hi2]; exact st2') fun q e hq he => ?_)
      replace hq : Heap.ExtBut i2 p1 q := hq
      exact hE q tk1 e (fun c o cz c1 c2 c3 x => hq _ _ c2 (hp1.extBut _ _ c1 (hs0.extBut _ _ cz x))) he
  · have hi1 : i = n1 := by omega
    refine wpAny_bind (D1.done ⟨g0, g, d, tk0, os⟩ _ _ (by rw [← hi1]; exact (D1.over st1 hs0 S.zf1)) fun q e hq he => ?_)
    replace hq : Heap.ExtBut i1 g0 q := hq
    exact hE q tk0 e (fun c o cz c1 c2 c3 x => hq _ _ c1 (hs0.extBut _ _ cz x)) he
theorem next2_item {Q : Option Value → Shared → Prop} (S : ZipSep2 z TI TO i1 i2 fp1 fp2) (D1 : Draws prog w A.in1 i1 fp1 n1 P1 St1) (D2 : Draws prog w A.in1 i2 fp2 n2 P2 St2)
    (hz : IsZipHeld s.heap z TI TO T f) (hT : s.heap.get? T = some oT) (hTI : IsTupOf2 s.heap TI (.ref i1) (.ref i2)) (st1 : St1 i s.heap) (st2 : St2 i s.heap) (hlt1 : i < n1) (hlt2 : i < n2)
    (hQ : ∀ x1 x2 h' tk, P1 i x1 → P2 i x2 → IsZipHeld h' z TI TO T true → St1 (i + 1) h' → St2 (i + 1) h' → IsTupOf2 h' s.heap.objs.size x1 x2 → h'.objs.size = s.heap.objs.size + 1 →
      (∀ c o, c ≠ z → c ≠ i1 → c ≠ i2 → s.heap.get? c = some o → h'.get? c = some o) → Q (some (.ref s.heap.objs.size)) { s with heap := h', toks := tk }) : wpAny (model prog w) A (pyNext (.ref z)) Q E s := by
  have hTy : s.TypeIs (.ref z) "zip" := ⟨_, hz, rfl⟩
  unfold pyNext
  exact wpAny_bind (wpAny_attempt (wpAny_callSpecial?_slot (name := Str.ofString "__next__") hTy F.slot_zip_next
    (wpAny_call_entry F.slot_zip_next hTy F.entry_zip_next
      (held2_item S D1 D2 hz hT hTI st1 st2 hlt1 hlt2 fun x1 x2 h' tk y1 y2 b1 d1 d2 b5 b6 b7 => wpAny_pure (hQ x1 x2 h' tk y1 y2 b1 d1 d2 b5 b6 b7)) (F.args_zip_next_1 _))))
theorem next2_end {Q : Option Value → Shared → Prop} (S : ZipSep2 z TI TO i1 i2 fp1 fp2) (D1 : Draws prog w A.in1 i1 fp1 n1 P1 St1) (D2 : Draws prog w A.in1 i2 fp2 n2 P2 St2)
    (hz : IsZipHeld s.heap z TI TO T f) (hT : s.heap.get? T = some oT) (hTI : IsTupOf2 s.heap TI (.ref i1) (.ref i2)) (st1 : St1 i s.heap) (st2 : St2 i s.heap) (hle1 : i ≤ n1) (hle2 : i ≤ n2) (hend : i = n1 ∨ i = n2)
    (hQ : ∀ h' tk, (∀ c o, c ≠ z → c ≠ i1 → c ≠ i2 → s.heap.get? c = some o → h'.get? c = some o) → Q none { s with heap := h', toks := tk }) : wpAny (model prog w) A (pyNext (.ref z)) Q E s := by
  have hTy : s.TypeIs (.ref z) "zip" := ⟨_, hz, rfl⟩
  unfold pyNext
  refine wpAny_bind (wpAny_attempt (wpAny_callSpecial?_slot (name := Str.ofString "__next__") hTy F.slot_zip_next
    (wpAny_call_entry F.slot_zip_next hTy F.entry_zip_next (held2_end S D1 D2 hz hT hTI st1 st2 hle1 hle2 hend fun h' tk e hk he => ?_) (F.args_zip_next_1 _))))
  obtain ⟨o, ho, hc⟩ := he
  refine wpAny_bind (wpAny_isInstance (T := "StopIteration") (b := true) ⟨o, ho, hc⟩ isSubtype_stop ?_)
  exact wpAny_pure (hQ _ _ hk)
theorem next3_item {Q : Option Value → Shared → Prop} (S : ZipSep3 z TI TO i1 i2 i3 fp1 fp2 fp3) (D1 : Draws prog w A.in1 i1 fp1 n1 P1 St1) (D2 : Draws prog w A.in1 i2 fp2 n2 P2 St2) (D3 : Draws prog w A.in1 i3 fp3 n3 P3 St3)
    (hz : IsZipHeld s.heap z TI TO T f) (hT : s.heap.get? T = some oT) (hTI : IsTupOf3 s.heap TI (.ref i1) (.ref i2) (.ref i3)) (st1 : St1 i s.heap) (st2 : St2 i s.heap) (st3 : St3 i s.heap) (hlt1 : i < n1) (hlt2 : i < n2) (hlt3 : i < n3)
    (hQ : ∀ x1 x2 x3 h' tk, P1 i x1 → P2 i x2 → P3 i x3 → IsZipHeld h' z TI TO T true → St1 (i + 1) h' → St2 (i + 1) h' → St3 (i + 1) h' → IsTupOf3 h' s.heap.objs.size x1 x2 x3 → h'.objs.size = s.heap.objs.size + 1 →
      (∀ c o, c ≠ z → c ≠ i1 → c ≠ i2 → c ≠ i3 → s.heap.get? c = some o → h'.get? c = some o) → Q (some (.ref s.heap.objs.size)) { s with heap := h', toks := tk }) : wpAny (model prog w) A (pyNext (.ref z)) Q E s := by
  have hTy : s.TypeIs (.ref z) "zip" := ⟨_, hz, rfl⟩
  unfold pyNext
  exact wpAny_bind (wpAny_attempt (wpAny_callSpecial?_slot (name := Str.ofString "__next__") hTy F.slot_zip_next
    (wpAny_call_entry F.slot_zip_next hTy F.entry_zip_next
      (held3_item S D1 D2 D3 hz hT hTI st1 st2 st3 hlt1 hlt2 hlt3 fun x1 x2 x3 h' tk y1 y2 y3 b1 d1 d2 d3 b5 b6 b7 => wpAny_pure (hQ x1 x2 x3 h' tk y1 y2 y3 b1 d1 d2 d3 b5 b6 b7)) (F.args_zip_next_1 _))))
theorem next3_end {Q : Option Value → Shared → Prop} (S : ZipSep3 z TI TO i1 i2 i3 fp1 fp2 fp3) (D1 : Draws prog w A.in1 i1 fp1 n1 P1 St1) (D2 : Draws prog w A.in1 i2 fp2 n2 P2 St2) (D3 : Draws prog w A.in1 i3 fp3 n3 P3 St3)
    (hz : IsZipHeld s.heap z TI TO T f) (hT : s.heap.get? T = some oT) (hTI : IsTupOf3 s.heap TI (.ref i1) (.ref i2) (.ref i3)) (st1 : St1 i s.heap) (st2 : St2 i s.heap) (st3 : St3 i s.heap) (hle1 : i ≤ n1) (hle2 : i ≤ n2) (hle3 : i ≤ n3) (hend : i = n1 ∨ i = n2 ∨ i = n3)
    (hQ : ∀ h' tk, (∀ c o, c ≠ z → c ≠ i1 → c ≠ i2 → c ≠ i3 → s.heap.get? c = some o → h'.get? c = some o) → Q none { s with heap := h', toks := tk }) : wpAny (model prog w) A (pyNext (.ref z)) Q E s := by
  have hTy : s.TypeIs (.ref z) "zip" := ⟨_, hz, rfl⟩
  unfold pyNext
  refine wpAny_bind (wpAny_attempt (wpAny_callSpecial?_slot (name := Str.ofString "__next__") hTy F.slot_zip_next
    (wpAny_call_entry F.slot_zip_next hTy F.entry_zip_next (held3_end S D1 D2 D3 hz hT hTI st1 st2 st3 hle1 hle2 hle3 hend fun h' tk e hk he => ?_) (F.args_zip_next_1 _))))
  obtain ⟨o, ho, hc⟩ := he
  refine wpAny_bind (wpAny_isInstance (T := "StopIteration") (b := true) ⟨o, ho, hc⟩ isSubtype_stop ?_)
  exact wpAny_pure (hQ _ _ hk)
end
/-- a zip's turns, its tuple T held from the first one on -/
structure ZipW (prog : Program) (w : World) (A : Around) (z : Addr) (fp wr : List Addr) (n : Nat) (P : Nat → Array Value → Prop) (St : Nat → Addr → Heap → Prop) : Prop where
  sub : ∀ b ∈ wr, b ∈ fp
  typ : ∀ i T (s : Shared), St i T s.heap → s.TypeIs (.ref z) "zip"
  item : ∀ i T (s : Shared) (Q : Option Value → Shared → Prop) (E : Value → Shared → Prop), i < n → St i T s.heap →
    (∀ vals h' tk T', P i vals → St (i + 1) T' h' → (T' = T ∨ T' = s.heap.objs.size) → h'.get? s.heap.objs.size = some { cls := .type "tuple", data := .seq vals } → h'.objs.size = s.heap.objs.size + 1 → (∀ c o, c ∉ wr → s.heap.get? c = some o → h'.get? c = some o) → Q (some (.ref s.heap.objs.size)) { s with heap := h', toks := tk }) → wpAny (model prog w) A (pyNext (.ref z)) Q E s
  done : ∀ T (s : Shared) (Q : Option Value → Shared → Prop) (E : Value → Shared → Prop), St n T s.heap → (∀ h' tk, (∀ c o, c ∉ wr → s.heap.get? c = some o → h'.get? c = some o) → Q none { s with heap := h', toks := tk }) → wpAny (model prog w) A (pyNext (.ref z)) Q E s
  keep : ∀ i T h h', St i T h → (∀ b ∈ fp, ∀ o, h.get? b = some o → h'.get? b = some o) → (∀ o, h.get? T = some o → h'.get? T = some o) → St i T h'
  self : ∀ T (s : Shared) (Q : Value → Shared → Prop) (E : Value → Shared → Prop), St 0 T s.heap → Q (.ref z) s → wpAny (model prog w) A (pyIter (.ref z)) Q E s
/-- the tuples made -/
structure ZlG (P : Nat → Array Value → Prop) (lo : Addr) (h : Heap) (as : List Addr) : Prop where
  rise : as.Pairwise (· < ·)
  above : ∀ a ∈ as, lo < a
  pairs : ∀ (j : Nat) (a : Addr), as[j]? = some a → ∃ vals, P j vals ∧ h.get? a = some { cls := .type "tuple", data := .seq vals }
theorem ZlG.there {P : Nat → Array Value → Prop} {lo : Addr} {h : Heap} {as : List Addr} (g : ZlG P lo h as) {a : Addr} (ha : a ∈ as) : a < h.objs.size := by
  obtain ⟨j, hj⟩ := List.mem_iff_getElem?.mp ha
  obtain ⟨_, _, e⟩ := g.pairs j a hj
  exact Heap.lt_size e
section
variable {prog : Program} {w : World} {A : Around} {s : Shared} {R : Result → Shared → Prop} {z : Addr} {fp wr : List Addr} {n : Nat} {P : Nat → Array Value → Prop} {St : Nat → Addr → Heap → Prop}
theorem zl_loop {S : Addr} (W : ZipW prog w A.in1 z fp wr n P St) (hfp : ∀ b ∈ fp, b < S) (hn : n ≤ sizeLine) (res : Value) {h₁ : Heap}
    (hR : ∀ h' tk acc c as, (∀ b o, b ≠ S → b ∉ wr → h₁.get? b = some o → h'.get? b = some o) → h'.get? S = some { cls := .type "list", dict := none, data := .seq acc c, slots := #[] } → as.length = n → ZlG P S h' as →
      acc.toList = as.map Value.ref → R (.ok (.ret res)) { s with heap := h', toks := tk }) :
    ∀ (k i : Nat) (h : Heap) (tk c : Nat) (acc : Array Value) (as : List Addr) (T : Addr), n - i = k → i ≤ n → St i T h → T ≠ S → (∀ b o, b ≠ S → b ∉ wr → h₁.get? b = some o → h.get? b = some o) →
      h.get? S = some { cls := .type "list", dict := none, data := .seq acc c, slots := #[] } → acc.toList = as.map Value.ref → as.length = i → ZlG P S h as →
      codeAny (model prog w) A (.builtin "list.extend.loop" ⟨[.ref S, .ref z, res], []⟩) R { s with heap := h, toks := tk } := by
  have hSf : S ∉ fp := fun m => Nat.lt_irrefl _ (hfp _ m)
  have hSw : S ∉ wr := fun m => hSf (W.sub _ m)
  intro k
  induction k with
  | zero =>
    intro i h tk c acc as T hk hi hst hTS hkeep hS hacc hal hG
    have hin : i = n := by omega
    subst hin
    refine codeAny_builtin PySem.F.entry_extend_loop ?_
    rw [Around.under_plainId PySem.F.plain_extend_loop _]
    show wpAny _ A.in1 (pyNext (.ref z) >>= _) _ _ _
    refine wpAny_bind (W.done T { s with heap := h, toks := tk } _ _ hst fun h' tk' he => ?_)
    replace he : ∀ c o, c ∉ wr → h.get? c = some o → h'.get? c = some o := he
    refine wpAny_pure (hR h' tk' acc c as (fun b o h1 h2 e => he b o h2 (hkeep b o h1 h2 e)) (he S _ hSw hS) hal ⟨hG.rise, hG.above, fun j a hj => ?_⟩ hacc)
    obtain ⟨vals, e1, e2⟩ := hG.pairs j a hj
    exact ⟨vals, e1, he a _ (fun m => Nat.lt_asymm (hfp _ (W.sub _ m)) (hG.above a (List.mem_of_getElem? hj))) e2⟩
  | succ k ih =>
    intro i h tk c acc as T hk hi hst hTS hkeep hS hacc hal hG
    have hlt : i < n := by omega
    have hsz : acc.size = i := by rw [← Array.length_toList, hacc, List.length_map, hal]
    refine codeAny_builtin PySem.F.entry_extend_loop ?_
    rw [Around.under_plainId PySem.F.plain_extend_loop _]
    show wpAny _ A.in1 (pyNext (.ref z) >>= _) _ _ _
    refine wpAny_bind (W.item i T { s with heap := h, toks := tk } _ _ hlt hst fun vals h' tk' T' hP hst' hT' ht hz' hkp => ?_)
    replace hT' : T' = T ∨ T' = h.objs.size := hT'
    replace ht : h'.get? h.objs.size = some { cls := .type "tuple", data := .seq vals } := ht
    replace hkp : ∀ c o, c ∉ wr → h.get? c = some o → h'.get? c = some o := hkp
    have hS' := hkp S _ hSw hS
    have hSl : S < h.objs.size := Heap.lt_size hS
    have hT'S : T' ≠ S := by
      rcases hT' with e | e
      · rw [e]; exact hTS
      · rw [e]; exact Nat.ne_of_gt hSl
    have up : ∀ b o, b ≠ S → h'.get? b = some o → (h'.update S (Obj.mapSeq (·.push (Value.ref h.objs.size)))).get? b = some o := fun b o hb e => (Heap.get?_update_other _ _ (Ne.symm hb)).trans e
    show wpAny _ A.in1 (updateSeq S (·.push (Value.ref h.objs.size)) >>= _) _ _ _
    refine wpAny_bind ?_
    refine wpAny_updateSeq hS' rfl (wpAny_pure ⟨plainId_quiet PySem.F.plain_extend_loop _, ih (i + 1) _ tk' _ (acc.push (Value.ref h.objs.size)) (as ++ [h.objs.size]) T' (by omega) hlt (W.keep _ _ _ _ hst' (fun b hb o e => up b o (fun q => hSf (q ▸ hb)) e) (fun o e => up T' o hT'S e)) hT'S
      (fun b o h1 h2 e => up b o h1 (hkp b o h2 (hkeep b o h1 h2 e))) (Heap.get?_update_self _ hS' rfl) (by rw [Array.toList_push, hacc, List.map_append]; rfl) (by rw [List.length_append, hal]; rfl) ⟨?_, ?_, ?_⟩⟩) (by rw [hsz]; omega) (by show (acc.push (Value.ref h.objs.size)).size ≤ sizeLine + 1; rw [Array.size_push, hsz]; omega)
    · refine List.pairwise_append.mpr ⟨hG.rise, List.pairwise_singleton _ _, fun a ha b hb => ?_⟩
      rw [List.mem_singleton.mp hb]
      exact hG.there ha
    · intro a ha
      rcases List.mem_append.mp ha with ha | ha
      · exact hG.above a ha
      · rw [List.mem_singleton.mp ha]; exact hSl
    · intro j b hj
      rcases Nat.lt_trichotomy j as.length with h1 | h1 | h1
      · rw [List.getElem?_append_left h1] at hj
        obtain ⟨vals', e1, e2⟩ := hG.pairs j b hj
        have hb := hG.above b (List.mem_of_getElem? hj)
        exact ⟨vals', e1, up b _ (Nat.ne_of_gt hb) (hkp b _ (fun m => Nat.lt_asymm (hfp _ (W.sub _ m)) hb) e2)⟩
      · subst h1
        have hb : h.objs.size = b := by simpa using hj
        subst hb
        exact ⟨vals, by rw [hal]; exact hP, up _ _ (Nat.ne_of_gt hSl) ht⟩
      · have hnone : (as ++ [h.objs.size])[j]? = none := List.getElem?_eq_none (by rw [List.length_append, List.length_singleton]; omega)
        rw [hnone] at hj; cases hj
theorem zl_extend {S : Addr} (W : ZipW prog w A.in1 z fp wr n P St) (W2 : ∀ T (s : Shared) (Q : Value → Shared → Prop) (E : Value → Shared → Prop), St 0 T s.heap → Q (.ref z) s → wpAny (model prog w) A.in1 (pyIter (.ref z)) Q E s) (hfp : ∀ b ∈ fp, b < S) (hzf : z ∈ fp) (hn : n ≤ sizeLine) (res : Value) (c₀ : Nat) {T : Addr} (hst : St 0 T s.heap) (hTS : T ≠ S)
    (hS : s.heap.get? S = some { cls := .type "list", data := .seq #[] c₀ })
    (hR : ∀ h' tk acc c as, (∀ b o, b ≠ S → b ∉ wr → s.heap.get? b = some o → h'.get? b = some o) → h'.get? S = some { cls := .type "list", dict := none, data := .seq acc c, slots := #[] } → as.length = n → ZlG P S h' as →
      acc.toList = as.map Value.ref → R (.ok (.ret res)) { s with heap := h', toks := tk }) :
    wpAny (model prog w) A.in1 (Builtin.List.listExtendWith (.ref S) (.ref z) res)
      (fun fin s' => match fin with | .done f => R (.ok f) s' | .again c' => c'.quiet = true ∧ codeAny (model prog w) A c' R s') (fun e s' => R (.error e) s') s := by
  have hSf : S ∉ fp := fun m => Nat.lt_irrefl _ (hfp _ m)
  have hSz : S ≠ z := fun e => hSf (e ▸ hzf)
  unfold Builtin.List.listExtendWith
  refine wpAny_bind (wpAny_typeOf (W.typ 0 T _ hst) ?_)
  have h1 : Builtin.List.listSameRef (.ref S) (.ref z) = false := by simp [Builtin.List.listSameRef, hSz]
  have h2 : (Value.type "zip" == Value.type "list") = false := by decide
  have h3 : (Value.type "zip" == Value.type "tuple") = false := by decide
  simp only [h1, h2, h3, Bool.or_false, Bool.false_eq_true, if_false]
  refine wpAny_bind (W2 T _ _ _ hst ?_)
  refine wpAny_bind (wpAny_holding ?_)
  unfold Builtin.List.listLengthHint
  refine wpAny_bind (wpAny_specialOf (W.typ 0 T _ hst) zip_no_len ?_)
  show wpAny _ A.in1 (specialOf (Value.ref z) (Str.ofString "__length_hint__") >>= _) _ _ _
  refine wpAny_bind (wpAny_specialOf (W.typ 0 T _ hst) zip_no_hint ?_)
  refine wpAny_pure ?_
  show wpAny _ A.in1 (rule "list.extend.makes-room" >>= fun _ => Builtin.List.listTouch (.ref S) >>= fun _ =>
    again (.builtin "list.extend.loop" ⟨[.ref S, .ref z, res], []⟩)) _ _ _
  refine wpAny_bind (wpAny_rule ?_)
  refine wpAny_bind ?_
  show wpAny _ A.in1 (updateSeq S (·.push .none) >>= fun _ => updateSeq S (·.pop)) _ _ _
  refine wpAny_bind (wpAny_updateSeq hS rfl ?_)
  have hS₂ := Heap.get?_update_self (Obj.mapSeq (·.push Value.none)) hS rfl
  refine wpAny_updateSeq (hz := by seq_fits) hS₂ rfl ?_
  have hS₃ := Heap.get?_update_self (Obj.mapSeq (·.pop)) hS₂ rfl
  have oth : ∀ b o, b ≠ S → s.heap.get? b = some o → ((s.heap.update S (Obj.mapSeq (·.push Value.none))).update S (Obj.mapSeq (·.pop))).get? b = some o :=
    fun b o hb e => (Heap.get?_update_other _ _ (Ne.symm hb)).trans ((Heap.get?_update_other _ _ (Ne.symm hb)).trans e)
  exact wpAny_pure ⟨plainId_quiet PySem.F.plain_extend_loop _, zl_loop (s := s) W hfp hn res hR n 0 _ s.toks _ #[] [] T (Nat.sub_zero _) (Nat.zero_le _) (W.keep _ _ _ _ hst (fun b hb o e => oth b o (fun q => hSf (q ▸ hb)) e) (fun o e => oth T o hTS e)) hTS (fun b o hb _ e => oth b o hb e) hS₃ rfl rfl ⟨List.Pairwise.nil, (fun _ ha => nomatch ha), (fun j a hj => by simp at hj)⟩⟩
end
section
variable {prog : Program} {w : World} {A : Around} {E : Value → Shared → Prop} {s : Shared} {z : Addr} {fp wr : List Addr} {n : Nat} {P : Nat → Array Value → Prop} {St : Nat → Addr → Heap → Prop}
theorem zl_call {Q : Value → Shared → Prop} (W : ZipW prog w A.in1.in1 z fp wr n P St) (hfp : ∀ b ∈ fp, b < s.heap.objs.size) (hzf : z ∈ fp) (hn : n ≤ sizeLine) {T : Addr} (hTf : T ∈ fp) (hst : St 0 T s.heap)
    (hQ : ∀ h' tk acc c as, (∀ b o, b ∉ wr → s.heap.get? b = some o → h'.get? b = some o) → h'.get? s.heap.objs.size = some { cls := .type "list", dict := none, data := .seq acc c, slots := #[] } → as.length = n → ZlG P s.heap.objs.size h' as →
      acc.toList = as.map Value.ref → Q (.ref s.heap.objs.size) { s with heap := h', toks := tk }) :
    wpAny (model prog w) A (call (.type "list") [.ref z]) Q E s := by
  refine callType_codes (Q₁ := fun obj s₁ => obj = .ref s.heap.objs.size ∧ s₁ = { s with heap := s.heap.push { cls := .type "list", data := .seq #[] } }) PySem.F.called_list (PySem.F.typeCall_list_1 _) PySem.F.entry_list_init
    (code_list_new _ ⟨rfl, rfl⟩) fun obj s₁ h₁ => ?_
  obtain ⟨rfl, rfl⟩ := h₁
  have hS : (s.heap.push { cls := .type "list", data := .seq #[] }).get? s.heap.objs.size = some { cls := .type "list", data := .seq #[] } := Heap.get?_push_size _ rfl
  refine ⟨⟨_, hS, rfl⟩, PySem.F.args_list_init_2 _ _, ?_⟩
  have hSf : s.heap.objs.size ∉ fp := fun m => Nat.lt_irrefl _ (hfp _ m)
  show wpAny _ A.in1.in1 (do let old ← Builtin.List.listItems (.ref s.heap.objs.size); Builtin.List.listUpdate (.ref s.heap.objs.size) (fun _ => #[]); letGo old.toList.reverse; Builtin.List.listExtendWith (.ref s.heap.objs.size) (.ref z) .none) _ _ _
  refine wpAny_bind ?_
  unfold Builtin.List.listItems
  refine wpAny_bind (wpAny_seqItems hS rfl (wpAny_pure ?_))
  show wpAny _ A.in1.in1 (updateSeq s.heap.objs.size (fun _ => #[]) >>= fun _ => letGo (#[] : Array Value).toList.reverse >>= fun _ => Builtin.List.listExtendWith (.ref s.heap.objs.size) (.ref z) .none) _ _ _
  refine wpAny_bind (wpAny_updateSeq hS rfl ?_)
  have hS₂ := Heap.get?_update_self (Obj.mapSeq (fun _ => (#[] : Array Value))) hS rfl
  have oth : ∀ b o, b ≠ s.heap.objs.size → s.heap.get? b = some o → ((s.heap.push { cls := .type "list", data := .seq #[] }).update s.heap.objs.size (Obj.mapSeq (fun _ => (#[] : Array Value)))).get? b = some o :=
    fun b o hb e => (Heap.get?_update_other _ _ (Ne.symm hb)).trans (Heap.get?_push_of_some _ e)
  refine wpAny_bind (wpAny_letGo ?_)
  refine zl_extend (A := A.in1) W W.self hfp hzf hn .none _ (T := T) (W.keep _ _ _ _ hst (fun b hb o e => oth b o (fun q => hSf (q ▸ hb)) e) (fun o e => oth T o (fun q => hSf (q ▸ hTf)) e)) (fun q => hSf (q ▸ hTf)) hS₂ fun h' tk acc c as hk hS' hl hG hacc => ?_
  exact ⟨rfl, hQ h' tk acc c as (fun b o hb e => hk b o (Nat.ne_of_lt (Heap.lt_size e)) hb (oth b o (Nat.ne_of_lt (Heap.lt_size e)) e)) hS' hl hG hacc⟩
end
end ZL
set_option Elab.async false
set_option linter.all false
set_option maxRecDepth 100000
set_option maxHeartbeats 4000000
namespace ZL
open PySem PySem.Spec PyProof.Rows L2 DN
/-- the tuples tracked at their addresses -/
def putTs : Hp → List Addr → List (List V) → Hp
  | H, a :: as, p :: ts => putTs (upd H a (.tup p)) as ts
  | H, _, _ => H
theorem putTs_off {b : Addr} : ∀ (as : List Addr) (ts : List (List V)) (H : Hp), b ∉ as → putTs H as ts b = H b
  | [], _, _, _ => rfl
  | _ :: _, [], _, _ => rfl
  | a :: as, p :: ts, H, h => by
    show putTs (upd H a (.tup p)) as ts b = H b
    rw [putTs_off as ts _ (fun z => h (List.mem_cons_of_mem _ z)), upd_ne (fun z => h (by rw [z]; exact List.mem_cons_self))]
theorem putTs_at : ∀ (as : List Addr) (ts : List (List V)) (H : Hp), as.Nodup → ∀ (j : Nat) (a : Addr) (t : List V), as[j]? = some a → ts[j]? = some t → putTs H as ts a = some (.tup t)
  | a :: as, p :: ts, H, hn, 0, b, t, h1, h2 => by
    have hn' := List.nodup_cons.mp hn
    simp at h1 h2
    subst h1 h2
    show putTs (upd H a (.tup p)) as ts a = some (.tup p)
    rw [putTs_off as ts _ hn'.1, upd_same]
  | a :: as, p :: ts, H, hn, j + 1, b, t, h1, h2 => by
    rw [List.getElem?_cons_succ] at h1 h2
    show putTs (upd H a (.tup p)) as ts b = some (.tup t)
    exact putTs_at as ts _ (List.nodup_cons.mp hn).2 j b t h1 h2
  | [], _, _, _, _, _, _, h1, _ => by simp at h1
  | _ :: _, [], _, _, _, _, _, _, h2 => by simp at h2
section
variable {X : Cx} {pins : List (Addr × Obj)} {σ : L2.St} {H : Hp} {s : Shared}
theorem zl_laid {h' : Heap} {tk : Nat} {S : Addr} {ts : List (List V)} {P : Nat → Array Value → Prop} {acc : Array Value} {c : Nat} {as : List Addr} (I : Inv X pins σ H s) (hz : ts.length ≤ sizeLine) (hS0 : s.heap.objs.size ≤ S)
    (hk : ∀ b o, s.heap.get? b = some o → h'.get? b = some o) (hS : h'.get? S = some { cls := .type "list", dict := none, data := .seq acc c, slots := #[] }) (hl : as.length = ts.length) (hG : ZlG P S h' as) (hacc : acc.toList = as.map Value.ref)
    (hv : ∀ j vals, P j vals → ∃ t, ts[j]? = some t ∧ Vals t vals.toList ∧ t.length ≤ sizeLine) :
    ∃ H' : Hp, (∀ b o, H b = some o → H' b = some o) ∧ H S = none ∧ (∀ t ∈ as, H t = none) ∧ H' S = some (.lst (as.map V.ref)) ∧ (∀ (j : Nat) (a : Addr) (t : List V), as[j]? = some a → ts[j]? = some t → H' a = some (.tup t)) ∧ Inv X pins σ H' { s with heap := h', toks := tk } := by
  have hSn : S ∉ as := fun z => Nat.lt_irrefl _ (hG.above _ z)
  have nd : as.Nodup := List.Pairwise.imp (fun {a b} (h : a < b) => Nat.ne_of_lt h) hG.rise
  have new : ∀ t ∈ as, H t = none := fun t ht => I.hok.fresh (Nat.le_trans hS0 (Nat.le_of_lt (hG.above t ht)))
  have newS : H S = none := I.hok.fresh hS0
  have atP := putTs_at as ts (upd H S (.lst (as.map V.ref))) nd
  have off : ∀ b, b ∉ as → b ≠ S → putTs (upd H S (.lst (as.map V.ref))) as ts b = H b := fun b h1 h2 => by rw [putTs_off as ts _ h1, upd_ne h2]
  have low : ∀ b o, s.heap.get? b = some o → b ∉ as ∧ b ≠ S := fun b o e => ⟨fun z => absurd (Heap.lt_size e) (Nat.not_lt.mpr (Nat.le_trans hS0 (Nat.le_of_lt (hG.above b z)))), Nat.ne_of_lt (Nat.lt_of_lt_of_le (Heap.lt_size e) hS0)⟩
  have kp : ∀ b u, H b = some u → (putTs (upd H S (.lst (as.map V.ref))) as ts) b = some u := fun b u e => by
    rw [off b (fun z => by rw [new b z] at e; cases e) (fun z => by rw [z, newS] at e; cases e)]
    exact e
  have eS : putTs (upd H S (.lst (as.map V.ref))) as ts S = some (.lst (as.map V.ref)) := by rw [putTs_off as ts _ hSn, upd_same]
  refine ⟨putTs (upd H S (.lst (as.map V.ref))) as ts, kp, newS, new, eS, atP, ?_⟩
  refine I.call' (ch := []) rfl ⟨fun b o q _ _ _ => hk b o q, fun b o q _ _ _ => ⟨o.slots, hk b o q⟩, fun b o q n _ => ?_, fun b o q _ => ⟨o, hk b o q⟩, fun b xs q => kp b _ q, fun b o u q => kp b _ q, fun b ps q => ⟨#[], by rw [kp b _ q]; simp⟩⟩ (fun b u q => ?_) I.bare fun b z => by simp at z
  · obtain ⟨z1, z2⟩ := low b o q
    rw [off b z1 z2]
    exact n
  · by_cases hb : b ∈ as
    · obtain ⟨j, hj⟩ := List.mem_iff_getElem?.mp hb
      obtain ⟨vals, f1, f2⟩ := hG.pairs j b hj
      obtain ⟨t, g1, g2, g3⟩ := hv j vals f1
      rw [atP j b t hj g1] at q
      cases q
      exact ⟨g3, vals.toList, g2, ⟨_, f2, rfl, _, by rw [Array.toArray_toList]⟩⟩
    · by_cases hb2 : b = S
      · rw [hb2] at q ⊢
        rw [eS] at q
        cases q
        refine ⟨by rw [List.length_map, hl]; exact hz, acc.toList, c, by rw [hacc]; exact LiI.vals_refs as, ?_⟩
        rw [Array.toArray_toList]
        exact hS
      · rw [off b hb hb2] at q
        exact (I.hok b u q).stay (fun d v _ y => hk d v y) (fun d y => kp d _ y) fun d xs y => kp d _ y
end
/-! the turns of a zip of two, of three -/
section
variable {prog : Program} {w : World} {A : Around} {z TI TO i1 i2 i3 a1 a2 a3 : Addr} {b1 b2 b3 : Bool} {xs ys zs : List Value}
def St2 (z TI TO i1 i2 a1 a2 : Addr) (b1 b2 : Bool) (xs ys : List Value) : Nat → Addr → Heap → Prop := fun i T h =>
  ((i = 0 ∧ IsZip h z TI TO .none ∧ ∃ u v, IsTupOf2 h TO u v) ∨ (0 < i ∧ ∃ f oT, IsZipHeld h z TI TO T f ∧ h.get? T = some oT ∧ T ≠ z ∧ T ≠ TO ∧ T ≠ i1 ∧ T ≠ i2)) ∧ IsTupOf2 h TI (.ref i1) (.ref i2) ∧ (ItB b1 h i1 a1 i ∧ IsB b1 h a1 xs.toArray) ∧ (ItB b2 h i2 a2 i ∧ IsB b2 h a2 ys.toArray)
theorem isB_at {b : Bool} {h h' : Heap} {a : Addr} {its : Array Value} (x : IsB b h a its) (hk : ∀ o, h.get? a = some o → h'.get? a = some o) : IsB b h' a its := by
  cases b with
  | true => exact Heap.IsList.at (h := h) x hk
  | false => exact Heap.IsTuple.at (h := h) x hk
theorem zw2 (hh : A.handled = none) (S : ZipSep2 z TI TO i1 i2 [i1, a1] [i2, a2]) (n1 : a1 ≠ i1) (n2 : a2 ≠ i2) :
    ZipW prog w A z [z, TI, TO, i1, i2, a1, a2] [z, TO, i1, i2] (min xs.length ys.length) (fun i vals => ∃ x y, xs[i]? = some x ∧ ys[i]? = some y ∧ vals = #[x, y]) (St2 z TI TO i1 i2 a1 a2 b1 b2 xs ys) := by
  have hh1 : A.in1.handled = none := hh
  have D1 := drB (prog := prog) (w := w) hh1 b1 i1 a1 n1 xs.toArray
  have D2 := drB (prog := prog) (w := w) hh1 b2 i2 a2 n2 ys.toArray
  refine ⟨fun b hb => ?_, fun i T s st => ?_, fun i T s Q E hi st hQ => ?_, fun T s Q E st hQ => ?_, fun i T h h' st k1 k2 => ?_, fun T s Q E st q => ?_⟩
  · simp only [List.mem_cons, List.not_mem_nil, or_false] at hb ⊢
    rcases hb with e | e | e | e <;> simp [e]
  · rcases st.1 with ⟨_, e, _⟩ | ⟨_, f, oT, e, _⟩
    · exact ⟨_, e, rfl⟩
    · exact ⟨_, e, rfl⟩
  · obtain ⟨st0, hTI, st1, st2⟩ := st
    have l1 : i < xs.toArray.size := by simp; omega
    have l2 : i < ys.toArray.size := by simp; omega
    rcases st0 with ⟨e0, hz, u, v, hTO⟩ | ⟨e0, f, oT, hz, hT, t1, t2, t3, t4⟩
    · refine wpAny_pyNext_zipD2_item S D1 D2 hz hTI hTO st1 st2 l1 l2 fun x1 x2 h' tk y1 y2 z' TO' d1 d2 hT hsz hk => ?_
      refine hQ #[x1, x2] h' tk s.heap.objs.size ⟨x1, x2, by simpa using y1, by simpa using y2, rfl⟩ ⟨.inr ⟨Nat.succ_pos _, false, _, z', hT, Nat.ne_of_gt (Heap.lt_size hz), Nat.ne_of_gt (Heap.lt_size hTO), ?_, ?_⟩, hk _ _ S.TIz S.TITO S.TIi1 S.TIi2 hTI, d1, d2⟩ (.inr rfl) hT hsz fun c o hc e => hk c o (fun q => hc (by simp [q])) (fun q => hc (by simp [q])) (fun q => hc (by simp [q])) (fun q => hc (by simp [q])) e
      · obtain ⟨o, e, _⟩ := st1.1.obj; exact Nat.ne_of_gt (Heap.lt_size e)
      · obtain ⟨o, e, _⟩ := st2.1.obj; exact Nat.ne_of_gt (Heap.lt_size e)
    · refine next2_item S D1 D2 hz hT hTI st1 st2 l1 l2 fun x1 x2 h' tk y1 y2 z' d1 d2 hT' hsz hk => ?_
      exact hQ #[x1, x2] h' tk T ⟨x1, x2, by simpa using y1, by simpa using y2, rfl⟩ ⟨.inr ⟨Nat.succ_pos _, true, oT, z', hk _ _ t1 t3 t4 hT, t1, t2, t3, t4⟩, hk _ _ S.TIz S.TIi1 S.TIi2 hTI, d1, d2⟩ (.inl rfl) hT' hsz fun c o hc e => hk c o (fun q => hc (by simp [q])) (fun q => hc (by simp [q])) (fun q => hc (by simp [q])) e
  · obtain ⟨st0, hTI, st1, st2⟩ := st
    rcases st0 with ⟨e0, hz, u, v, hTO⟩ | ⟨e0, f, oT, hz, hT, t1, t2, t3, t4⟩
    · exact wpAny_pyNext_zipD2_end S D1 D2 hz hTI hTO st1 st2 (by simp; omega) (by simp; omega) (by simp; omega) fun h' tk hk => hQ h' tk fun c o hc e => hk c o (fun q => hc (by simp [q])) (fun q => hc (by simp [q])) (fun q => hc (by simp [q])) (fun q => hc (by simp [q])) e
    · exact next2_end S D1 D2 hz hT hTI st1 st2 (by simp; omega) (by simp; omega) (by simp; omega) fun h' tk hk => hQ h' tk fun c o hc e => hk c o (fun q => hc (by simp [q])) (fun q => hc (by simp [q])) (fun q => hc (by simp [q])) e
  · obtain ⟨st0, hTI, ⟨j1, p1⟩, j2, p2⟩ := st
    refine ⟨?_, k1 TI (by simp) _ hTI, ⟨j1.at fun o e => k1 i1 (by simp) o e, isB_at p1 fun o e => k1 a1 (by simp) o e⟩, j2.at fun o e => k1 i2 (by simp) o e, isB_at p2 fun o e => k1 a2 (by simp) o e⟩
    rcases st0 with ⟨e0, hz, u, v, hTO⟩ | ⟨e0, f, oT, hz, hT, t⟩
    · exact .inl ⟨e0, k1 z (by simp) _ hz, u, v, k1 TO (by simp) _ hTO⟩
    · exact .inr ⟨e0, f, oT, k1 z (by simp) _ hz, k2 _ hT, t⟩
  · rcases st.1 with ⟨_, e, _⟩ | ⟨e0, _⟩
    · exact wpAny_pyIter_zip e q
    · exact absurd e0 (Nat.lt_irrefl _)
def St3 (z TI TO i1 i2 i3 a1 a2 a3 : Addr) (b1 b2 b3 : Bool) (xs ys zs : List Value) : Nat → Addr → Heap → Prop := fun i T h =>
  ((i = 0 ∧ IsZip h z TI TO .none ∧ ∃ u v q, IsTupOf3 h TO u v q) ∨ (0 < i ∧ ∃ f oT, IsZipHeld h z TI TO T f ∧ h.get? T = some oT ∧ T ≠ z ∧ T ≠ TO ∧ T ≠ i1 ∧ T ≠ i2 ∧ T ≠ i3)) ∧ IsTupOf3 h TI (.ref i1) (.ref i2) (.ref i3) ∧ (ItB b1 h i1 a1 i ∧ IsB b1 h a1 xs.toArray) ∧ (ItB b2 h i2 a2 i ∧ IsB b2 h a2 ys.toArray) ∧ (ItB b3 h i3 a3 i ∧ IsB b3 h a3 zs.toArray)
theorem zw3 (hh : A.handled = none) (S : ZipSep3 z TI TO i1 i2 i3 [i1, a1] [i2, a2] [i3, a3]) (n1 : a1 ≠ i1) (n2 : a2 ≠ i2) (n3 : a3 ≠ i3) :
    ZipW prog w A z [z, TI, TO, i1, i2, i3, a1, a2, a3] [z, TO, i1, i2, i3] (min xs.length (min ys.length zs.length)) (fun i vals => ∃ x y u, xs[i]? = some x ∧ ys[i]? = some y ∧ zs[i]? = some u ∧ vals = #[x, y, u]) (St3 z TI TO i1 i2 i3 a1 a2 a3 b1 b2 b3 xs ys zs) := by
  have hh1 : A.in1.handled = none := hh
  have D1 := drB (prog := prog) (w := w) hh1 b1 i1 a1 n1 xs.toArray
  have D2 := drB (prog := prog) (w := w) hh1 b2 i2 a2 n2 ys.toArray
  have D3 := drB (prog := prog) (w := w) hh1 b3 i3 a3 n3 zs.toArray
  refine ⟨fun b hb => ?_, fun i T s st => ?_, fun i T s Q E hi st hQ => ?_, fun T s Q E st hQ => ?_, fun i T h h' st k1 k2 => ?_, fun T s Q E st q => ?_⟩
  · simp only [List.mem_cons, List.not_mem_nil, or_false] at hb ⊢
    rcases hb with e | e | e | e | e <;> simp [e]
  · rcases st.1 with ⟨_, e, _⟩ | ⟨_, f, oT, e, _⟩
    · exact ⟨_, e, rfl⟩
    · exact ⟨_, e, rfl⟩
  · obtain ⟨st0, hTI, st1, st2, st3⟩ := st
    have l1 : i < xs.toArray.size := by simp; omega
    have l2 : i < ys.toArray.size := by simp; omega
    have l3 : i < zs.toArray.size := by simp; omega
    rcases st0 with ⟨e0, hz, u, v, q, hTO⟩ | ⟨e0, f, oT, hz, hT, t1, t2, t3, t4, t5⟩
    · refine wpAny_pyNext_zipD3_item S D1 D2 D3 hz hTI hTO st1 st2 st3 l1 l2 l3 fun x1 x2 x3 h' tk y1 y2 y3 z' TO' d1 d2 d3 hT hsz hk => ?_
      refine hQ #[x1, x2, x3] h' tk s.heap.objs.size ⟨x1, x2, x3, by simpa using y1, by simpa using y2, by simpa using y3, rfl⟩ ⟨.inr ⟨Nat.succ_pos _, false, _, z', hT, Nat.ne_of_gt (Heap.lt_size hz), Nat.ne_of_gt (Heap.lt_size hTO), ?_, ?_, ?_⟩, hk _ _ S.TIz S.TITO S.TIi1 S.TIi2 S.TIi3 hTI, d1, d2, d3⟩ (.inr rfl) hT hsz fun c o hc e => hk c o (fun q => hc (by simp [q])) (fun q => hc (by simp [q])) (fun q => hc (by simp [q])) (fun q => hc (by simp [q])) (fun q => hc (by simp [q])) e
      · obtain ⟨o, e, _⟩ := st1.1.obj; exact Nat.ne_of_gt (Heap.lt_size e)
      · obtain ⟨o, e, _⟩ := st2.1.obj; exact Nat.ne_of_gt (Heap.lt_size e)
      · obtain ⟨o, e, _⟩ := st3.1.obj; exact Nat.ne_of_gt (Heap.lt_size e)
    · refine next3_item S D1 D2 D3 hz hT hTI st1 st2 st3 l1 l2 l3 fun x1 x2 x3 h' tk y1 y2 y3 z' d1 d2 d3 hT' hsz hk => ?_
      exact hQ #[x1, x2, x3] h' tk T ⟨x1, x2, x3, by simpa using y1, by simpa using y2, by simpa using y3, rfl⟩ ⟨.inr ⟨Nat.succ_pos _, true, oT, z', hk _ _ t1 t3 t4 t5 hT, t1, t2, t3, t4, t5⟩, hk _ _ S.TIz S.TIi1 S.TIi2 S.TIi3 hTI, d1, d2, d3⟩ (.inl rfl) hT' hsz fun c o hc e => hk c o (fun q => hc (by simp [q])) (fun q => hc (by simp [q])) (fun q => hc (by simp [q])) (fun q => hc (by simp [q])) e
  · obtain ⟨st0, hTI, st1, st2, st3⟩ := st
    rcases st0 with ⟨e0, hz, u, v, q, hTO⟩ | ⟨e0, f, oT, hz, hT, t1, t2, t3, t4, t5⟩
    · exact wpAny_pyNext_zipD3_end S D1 D2 D3 hz hTI hTO st1 st2 st3 (by simp; omega) (by simp; omega) (by simp; omega) (by simp; omega) fun h' tk hk => hQ h' tk fun c o hc e => hk c o (fun q => hc (by simp [q])) (fun q => hc (by simp [q])) (fun q => hc (by simp [q])) (fun q => hc (by simp [q])) (fun q => hc (by simp [q])) e
    · exact next3_end S D1 D2 D3 hz hT hTI st1 st2 st3 (by simp; omega) (by simp; omega) (by simp; omega) (by simp; omega) fun h' tk hk => hQ h' tk fun c o hc e => hk c o (fun q => hc (by simp [q])) (fun q => hc (by simp [q])) (fun q => hc (by simp [q])) (fun q => hc (by simp [q])) e
  · obtain ⟨st0, hTI, ⟨j1, p1⟩, ⟨j2, p2⟩, j3, p3⟩ := st
    refine ⟨?_, k1 TI (by simp) _ hTI, ⟨j1.at fun o e => k1 i1 (by simp) o e, isB_at p1 fun o e => k1 a1 (by simp) o e⟩, ⟨j2.at fun o e => k1 i2 (by simp) o e, isB_at p2 fun o e => k1 a2 (by simp) o e⟩, j3.at fun o e => k1 i3 (by simp) o e, isB_at p3 fun o e => k1 a3 (by simp) o e⟩
    rcases st0 with ⟨e0, hz, u, v, q, hTO⟩ | ⟨e0, f, oT, hz, hT, t⟩
    · exact .inl ⟨e0, k1 z (by simp) _ hz, u, v, q, k1 TO (by simp) _ hTO⟩
    · exact .inr ⟨e0, f, oT, k1 z (by simp) _ hz, k2 _ hT, t⟩
  · rcases st.1 with ⟨_, e, _⟩ | ⟨e0, _⟩
    · exact wpAny_pyIter_zip e q
    · exact absurd e0 (Nat.lt_irrefl _)
end
theorem sqB_size {X : Cx} {pins : List (Addr × Obj)} {σ : L2.St} {H : Hp} {s : Shared} (I : Inv X pins σ H s) {b : Bool} {a : Addr} {xs : List V} (q : SqB X.K b H a xs) : xs.length ≤ sizeLine := by
  cases b with
  | true =>
    obtain ⟨its, rv, p, hz⟩ := I.list q
    exact hz
  | false =>
    obtain ⟨its, rv, p, hz⟩ := I.tuple q
    exact hz
theorem vals_back {xs : List V} {its : List Value} (rv : Vals xs its) {j : Nat} {u : Value} (h : its[j]? = some u) : ∃ v, xs[j]? = some v ∧ RelV v u := by
  have hj : j < its.length := (List.getElem?_eq_some_iff.mp h).1
  have hl := rv.length
  have hx : xs[j]? = some (xs[j]'(by omega)) := List.getElem?_eq_getElem _
  obtain ⟨u', h1, h2⟩ := rv.get hx
  rw [h] at h1
  cases h1
  exact ⟨_, hx, h2⟩
def tZipL2 (K : PySem.W.Frag) (ta : TA) : TE := fun σ H Q => ta σ H fun vs H1 => ∃ b1 b2 a1 a2 xs ys, vs = [.ref a1, .ref a2] ∧ SqB K b1 H1 a1 xs ∧ SqB K b2 H1 a2 ys ∧
  ∀ (H' : Hp) (p : Addr) (as : List Addr), (∀ b o, H1 b = some o → H' b = some o) → H1 p = none → (∀ t ∈ as, H1 t = none) → H' p = some (.lst (as.map V.ref)) → as.length = min xs.length ys.length → (∀ (j : Nat) (a : Addr) (x y : V), as[j]? = some a → xs[j]? = some x → ys[j]? = some y → H' a = some (.tup [x, y])) → Q (.ref p) H'
theorem pe_zipL2 {X : Cx} {e e2 : Expr} {ta : TA} {p p2 zp pos : Pos} (hc : X.calm = true) (hgl : Gl X "list") (hml : X.mg "list" = none) (hvl : bootBuiltins "list" = some (.type "list")) (hg : Gl X "zip") (hm : X.mg "zip" = none) (ha : PA X [e, e2] ta)
    (hsl : starEach [.Call (.Name "zip" p2) [e, e2] [] zp] X.env = (false, eval (.Call (.Name "zip" p2) [e, e2] [] zp) X.env) :: starEach [] X.env := by rfl)
    (hs : starEach [e, e2] X.env = (false, eval e X.env) :: starEach [e2] X.env := by rfl) (hpl : (backTo zp (starEach [e2] X.env)).any (·.1) = false := by rfl) :
    PE X (.Call (.Name "list" p) [.Call (.Name "zip" p2) [e, e2] [] zp] [] pos) (tZipL2 X.K ta) := by
  refine ⟨fun pins s σ H Q I h => ?_⟩
  refine wpAny_Call_Name_kw (ld_blt I hgl hml hvl ?_)
  refine PyProof.Rows.callWith_type1 ?_ hsl rfl
  rw [hsl]
  show wpAny _ _ (spliced ((false, eval (.Call (.Name "zip" p2) [e, e2] [] zp) X.env) :: backTo pos (starEach [] X.env))) _ _ s
  refine Calls.spliced_cons ?_
  refine Call_ (ld_blt I hg hm PyProof.Rows.boot_zip (PyProof.Rows.callWith_type1 (thn (ha.run zp pins s σ H _ I h) fun us s1 ⟨vs, H1, I1, r1, q1⟩ => ?_) hs hpl))
  obtain ⟨b1, b2, a1, a2, xs, ys, ex, q1, q2, qR⟩ := q1
  subst ex
  cases r1 with
  | cons r rr =>
    cases rr with
    | cons r' rr =>
      cases rr
      cases r
      cases r'
      obtain ⟨its1, rv1, p1, k1⟩ := q1.inv I1
      have z1 := sqB_size I1 q1
      obtain ⟨its2, rv2, p2, k2⟩ := q2.inv I1
      have z2 := sqB_size I1 q2
      refine zip_begins2 (begB b1 a1 its1.toArray) (begB b2 a2 its2.toArray) p1 p2 fun h' hz hTI hTO g1 g2 hsz hk => ?_
      refine Calls.spliced_nil ?_
      have W := zw2 (prog := X.prog) (w := X.w) (A := X.A.in1.in1) (b1 := b1) (b2 := b2) (a1 := a1) (a2 := a2) (xs := its1) (ys := its2) (show X.A.in1.in1.handled = none from I1.ok.hd hc) (zip_sep2 (N := s1.heap.objs.size) (fun b hb => by rw [List.mem_singleton.mp hb]; exact k1) (fun b hb => by rw [List.mem_singleton.mp hb]; exact k2)) (Nat.ne_of_lt k1) (Nat.ne_of_lt (Nat.lt_succ_of_lt k2))
      refine zl_call (s := { s1 with heap := h' }) W (fun b hb => ?_) (by simp) ?_ (T := s1.heap.objs.size + 4) (by simp) ⟨.inl ⟨rfl, hz, _, _, hTO⟩, hTI, ⟨.start g1, isB_at p1 fun o e => hk _ o e⟩, ⟨.start g2, isB_at p2 fun o e => hk _ o e⟩⟩ fun h2 tk acc c as hk2 hS hl hG hacc => ?_
      · show b < h'.objs.size
        rw [hsz]
        simp only [List.mem_cons, List.not_mem_nil, or_false] at hb
        rcases hb with q | q | q | q | q | q | q
        · rw [q]; exact Nat.add_lt_add_left (show 4 < 5 by decide) _
        · rw [q]; exact Nat.add_lt_add_left (show 2 < 5 by decide) _
        · rw [q]; exact Nat.add_lt_add_left (show 3 < 5 by decide) _
        · rw [q]; exact Nat.add_lt_add_left (show 0 < 5 by decide) _
        · rw [q]; exact Nat.add_lt_add_left (show 1 < 5 by decide) _
        · rw [q]; exact Nat.lt_of_lt_of_le k1 (Nat.le_add_right _ _)
        · rw [q]; exact Nat.lt_of_lt_of_le k2 (Nat.le_add_right _ _)
      · have := rv1.length; omega
      · have hS0 : s1.heap.objs.size ≤ h'.objs.size := by rw [hsz]; exact Nat.le_add_right _ _
        have kept : ∀ b o, s1.heap.get? b = some o → h2.get? b = some o := fun b o e => by
          refine hk2 b o (fun hb => ?_) (hk b o e)
          have lt : b < s1.heap.objs.size := Heap.lt_size e
          simp only [List.mem_cons, List.not_mem_nil, or_false] at hb
          have ge : s1.heap.objs.size ≤ b := by
            rcases hb with q | q | q | q
            · rw [q]; exact Nat.le_add_right _ _
            · rw [q]; exact Nat.le_add_right _ _
            · rw [q]; exact Nat.le_refl _
            · rw [q]; exact Nat.le_add_right _ _
          exact absurd lt (Nat.not_lt.mpr ge)
        have l1 := rv1.length
        have l2 := rv2.length
        have hv : ∀ (j : Nat) (vals : Array Value), (∃ x y, its1[j]? = some x ∧ its2[j]? = some y ∧ vals = #[x, y]) → ∃ t, (List.zipWith (fun x y => [x, y]) xs ys)[j]? = some t ∧ Vals t vals.toList ∧ t.length ≤ sizeLine := by
          rintro j vals ⟨x, y, f1, f2, rfl⟩
          obtain ⟨v1, c1, d1⟩ := vals_back rv1 f1
          obtain ⟨v2, c2, d2⟩ := vals_back rv2 f2
          refine ⟨[v1, v2], by rw [List.getElem?_zipWith, c1, c2], .cons d1 (.cons d2 .nil), by show 2 ≤ sizeLine; decide⟩
        obtain ⟨H', e1, e2, e3, e4, e5, J⟩ := zl_laid (tk := tk) (ts := List.zipWith (fun x y => [x, y]) xs ys) I1 (by rw [List.length_zipWith]; omega) hS0 kept hS (by rw [List.length_zipWith]; omega) hG hacc hv
        exact ⟨.ref _, H', J, rfl, qR H' _ as e1 e2 e3 e4 (by omega) fun j a x y ha hx hy => e5 j a _ ha (by rw [List.getElem?_zipWith, hx, hy])⟩
def tZipL3 (K : PySem.W.Frag) (ta : TA) : TE := fun σ H Q => ta σ H fun vs H1 => ∃ b1 b2 b3 a1 a2 a3 xs ys zs, vs = [.ref a1, .ref a2, .ref a3] ∧ SqB K b1 H1 a1 xs ∧ SqB K b2 H1 a2 ys ∧ SqB K b3 H1 a3 zs ∧
  ∀ (H' : Hp) (p : Addr) (as : List Addr), (∀ b o, H1 b = some o → H' b = some o) → H1 p = none → (∀ t ∈ as, H1 t = none) → H' p = some (.lst (as.map V.ref)) → as.length = min xs.length (min ys.length zs.length) → (∀ (j : Nat) (a : Addr) (x y u : V), as[j]? = some a → xs[j]? = some x → ys[j]? = some y → zs[j]? = some u → H' a = some (.tup [x, y, u])) → Q (.ref p) H'
theorem pe_zipL3 {X : Cx} {e e2 e3 : Expr} {ta : TA} {p p2 zp pos : Pos} (hc : X.calm = true) (hgl : Gl X "list") (hml : X.mg "list" = none) (hvl : bootBuiltins "list" = some (.type "list")) (hg : Gl X "zip") (hm : X.mg "zip" = none) (ha : PA X [e, e2, e3] ta)
    (hsl : starEach [.Call (.Name "zip" p2) [e, e2, e3] [] zp] X.env = (false, eval (.Call (.Name "zip" p2) [e, e2, e3] [] zp) X.env) :: starEach [] X.env := by rfl)
    (hs : starEach [e, e2, e3] X.env = (false, eval e X.env) :: starEach [e2, e3] X.env := by rfl) (hpl : (backTo zp (starEach [e2, e3] X.env)).any (·.1) = false := by rfl) :
    PE X (.Call (.Name "list" p) [.Call (.Name "zip" p2) [e, e2, e3] [] zp] [] pos) (tZipL3 X.K ta) := by
  refine ⟨fun pins s σ H Q I h => ?_⟩
  refine wpAny_Call_Name_kw (ld_blt I hgl hml hvl ?_)
  refine PyProof.Rows.callWith_type1 ?_ hsl rfl
  rw [hsl]
  show wpAny _ _ (spliced ((false, eval (.Call (.Name "zip" p2) [e, e2, e3] [] zp) X.env) :: backTo pos (starEach [] X.env))) _ _ s
  refine Calls.spliced_cons ?_
  refine Call_ (ld_blt I hg hm PyProof.Rows.boot_zip (PyProof.Rows.callWith_type1 (thn (ha.run zp pins s σ H _ I h) fun us s1 ⟨vs, H1, I1, r1, q1⟩ => ?_) hs hpl))
  obtain ⟨b1, b2, b3, a1, a2, a3, xs, ys, zs, ex, q1, q2, q3, qR⟩ := q1
  subst ex
  cases r1 with
  | cons r rr =>
    cases rr with
    | cons r' rr =>
      cases rr with
      | cons r'' rr =>
        cases rr
        cases r
        cases r'
        cases r''
        obtain ⟨its1, rv1, p1, k1⟩ := q1.inv I1
        have z1 := sqB_size I1 q1
        obtain ⟨its2, rv2, p2, k2⟩ := q2.inv I1
        have z2 := sqB_size I1 q2
        obtain ⟨its3, rv3, p3, k3⟩ := q3.inv I1
        have z3 := sqB_size I1 q3
        refine zip_begins3 (begB b1 a1 its1.toArray) (begB b2 a2 its2.toArray) (begB b3 a3 its3.toArray) p1 p2 p3 fun h' hz hTI hTO g1 g2 g3 hsz hk => ?_
        refine Calls.spliced_nil ?_
        have W := zw3 (prog := X.prog) (w := X.w) (A := X.A.in1.in1) (b1 := b1) (b2 := b2) (b3 := b3) (a1 := a1) (a2 := a2) (a3 := a3) (xs := its1) (ys := its2) (zs := its3) (show X.A.in1.in1.handled = none from I1.ok.hd hc) (zip_sep3 (N := s1.heap.objs.size) (fun b hb => by rw [List.mem_singleton.mp hb]; exact k1) (fun b hb => by rw [List.mem_singleton.mp hb]; exact k2) (fun b hb => by rw [List.mem_singleton.mp hb]; exact k3)) (Nat.ne_of_lt k1) (Nat.ne_of_lt (Nat.lt_succ_of_lt k2)) (Nat.ne_of_lt (Nat.lt_succ_of_lt (Nat.lt_succ_of_lt k3)))
        refine zl_call (s := { s1 with heap := h' }) W (fun b hb => ?_) (by simp) ?_ (T := s1.heap.objs.size + 5) (by simp) ⟨.inl ⟨rfl, hz, _, _, _, hTO⟩, hTI, ⟨.start g1, isB_at p1 fun o e => hk _ o e⟩, ⟨.start g2, isB_at p2 fun o e => hk _ o e⟩, ⟨.start g3, isB_at p3 fun o e => hk _ o e⟩⟩ fun h2 tk acc c as hk2 hS hl hG hacc => ?_
        · show b < h'.objs.size
          rw [hsz]
          simp only [List.mem_cons, List.not_mem_nil, or_false] at hb
          rcases hb with q | q | q | q | q | q | q | q | q
          · rw [q]; exact Nat.add_lt_add_left (show 5 < 6 by decide) _
          · rw [q]; exact Nat.add_lt_add_left (show 3 < 6 by decide) _
          · rw [q]; exact Nat.add_lt_add_left (show 4 < 6 by decide) _
          · rw [q]; exact Nat.add_lt_add_left (show 0 < 6 by decide) _
          · rw [q]; exact Nat.add_lt_add_left (show 1 < 6 by decide) _
          · rw [q]; exact Nat.add_lt_add_left (show 2 < 6 by decide) _
          · rw [q]; exact Nat.lt_of_lt_of_le k1 (Nat.le_add_right _ _)
          · rw [q]; exact Nat.lt_of_lt_of_le k2 (Nat.le_add_right _ _)
          · rw [q]; exact Nat.lt_of_lt_of_le k3 (Nat.le_add_right _ _)
        · have := rv1.length; omega
        · have hS0 : s1.heap.objs.size ≤ h'.objs.size := by rw [hsz]; exact Nat.le_add_right _ _
          have kept : ∀ b o, s1.heap.get? b = some o → h2.get? b = some o := fun b o e => by
            refine hk2 b o (fun hb => ?_) (hk b o e)
            have lt : b < s1.heap.objs.size := Heap.lt_size e
            simp only [List.mem_cons, List.not_mem_nil, or_false] at hb
            have ge : s1.heap.objs.size ≤ b := by
              rcases hb with q | q | q | q | q
              · rw [q]; exact Nat.le_add_right _ _
              · rw [q]; exact Nat.le_add_right _ _
              · rw [q]; exact Nat.le_refl _
              · rw [q]; exact Nat.le_add_right _ _
              · rw [q]; exact Nat.le_add_right _ _
            exact absurd lt (Nat.not_lt.mpr ge)
          have l1 := rv1.length
          have l2 := rv2.length
          have l3 := rv3.length
          have hv : ∀ (j : Nat) (vals : Array Value), (∃ x y u, its1[j]? = some x ∧ its2[j]? = some y ∧ its3[j]? = some u ∧ vals = #[x, y, u]) → ∃ t, (List.zipWith (fun x q => x :: q) xs (List.zipWith (fun y u => [y, u]) ys zs))[j]? = some t ∧ Vals t vals.toList ∧ t.length ≤ sizeLine := by
            rintro j vals ⟨x, y, u, f1, f2, f3, rfl⟩
            obtain ⟨v1, c1, d1⟩ := vals_back rv1 f1
            obtain ⟨v2, c2, d2⟩ := vals_back rv2 f2
            obtain ⟨v3, c3, d3⟩ := vals_back rv3 f3
            refine ⟨[v1, v2, v3], by rw [List.getElem?_zipWith, List.getElem?_zipWith, c1, c2, c3], .cons d1 (.cons d2 (.cons d3 .nil)), by show 3 ≤ sizeLine; decide⟩
          obtain ⟨H', e1, e2, e3, e4, e5, J⟩ := zl_laid (tk := tk) (ts := List.zipWith (fun x q => x :: q) xs (List.zipWith (fun y u => [y, u]) ys zs)) I1 (by rw [List.length_zipWith, List.length_zipWith]; omega) hS0 kept hS (by rw [List.length_zipWith, List.length_zipWith]; omega) hG hacc hv
          exact ⟨.ref _, H', J, rfl, qR H' _ as e1 e2 e3 e4 (by omega) fun j a x y u ha hx hy hu => e5 j a _ ha (by rw [List.getElem?_zipWith, List.getElem?_zipWith, hx, hy, hu])⟩
end ZL
namespace DN
open PySem PySem.Spec PyProof.Rows L2 ZL
theorem dpAll_ix {K : PySem.W.Frag} {H : Hp} : ∀ {vs : List V} {ds : List PyData}, vs.length = ds.length → (∀ (j : Nat) (v : V) (d : PyData), vs[j]? = some v → ds[j]? = some d → Dp K H v d) → DpAll K H vs ds
  | [], [], _, _ => .nil
  | v :: vs, d :: ds, hl, h => .cons (h 0 v d rfl rfl) (dpAll_ix (by simpa using hl) fun j v d h1 h2 => h (j + 1) v d (by rw [List.getElem?_cons_succ]; exact h1) (by rw [List.getElem?_cons_succ]; exact h2))
  | [], _ :: _, hl, _ => by simp at hl
  | _ :: _, [], hl, _ => by simp at hl
def fZipL (f g : En → Option PyData) : En → Option PyData := fun en => (iZip f g en).map .list
def fZipL3 (f g h : En → Option PyData) : En → Option PyData := fun en => (iZip3 f g h en).map .list
section
variable {X : Cx} {Ts : TsT} {pos p p2 zp : Pos} {e e2 e3 : Expr} {f g h : En → Option PyData}
theorem d_zipL (hc : X.calm = true) (hgl : Gl X "list") (hml : X.mg "list" = none) (hvl : bootBuiltins "list" = some (.type "list")) (hg : Gl X "zip") (hm : X.mg "zip" = none) (ha : DE X Ts e f) (hb : DE X Ts e2 g)
    (hsl : starEach [.Call (.Name "zip" p2) [e, e2] [] zp] X.env = (false, eval (.Call (.Name "zip" p2) [e, e2] [] zp) X.env) :: starEach [] X.env := by rfl)
    (hs : starEach [e, e2] X.env = (false, eval e X.env) :: starEach [e2] X.env := by rfl) (hs2 : starEach [e2] X.env = (false, eval e2 X.env) :: starEach [] X.env := by rfl) (hpl : (backTo zp (starEach [e2] X.env)).any (·.1) = false := by rfl) :
    DE X Ts (.Call (.Name "list" p) [.Call (.Name "zip" p2) [e, e2] [] zp] [] pos) (fZipL f g) :=
  PE.imp (pe_zipL2 (ta := tCons (tD X.K Ts f) (tCons (tD X.K Ts g) tNil)) hc hgl hml hvl hg hm (pa_cons ha (pa_cons hb pa_nil hs2) hs) hsl hs hpl) fun σ H Q ⟨He, O, en, d, rp, hf, kk⟩ => by
    obtain ⟨ps, h0, rfl⟩ := Option.map_eq_some_iff.mp hf
    unfold iZip at h0
    obtain ⟨x, h1, hf1⟩ := Option.bind_eq_some_iff.mp h0
    obtain ⟨y, h2, hf2⟩ := Option.bind_eq_some_iff.mp hf1
    refine tD.of rp h1 fun v H1 x1 r1 q1 => tD.of r1 h2 fun w H2 x2 r2 q2 => ?_
    have q1 := Dp.mono (hide_mono x2) q1
    have main : ∀ ds es, lt_items x = some ds → lt_items y = some es → ps = pairs ds es → ∃ b1 b2 a1 a2 us ws, [v, w] = [V.ref a1, V.ref a2] ∧ SqB X.K b1 H2 a1 us ∧ SqB X.K b2 H2 a2 ws ∧
      ∀ (H' : Hp) (p : Addr) (as : List Addr), (∀ b o, H2 b = some o → H' b = some o) → H2 p = none → (∀ t ∈ as, H2 t = none) → H' p = some (.lst (as.map V.ref)) → as.length = min us.length ws.length → (∀ (j : Nat) (a : Addr) (x y : V), as[j]? = some a → us[j]? = some x → ws[j]? = some y → H' a = some (.tup [x, y])) → Q (.ref p) H' := fun ds es h4 h5 e => by
      subst e
      obtain ⟨b1, a1, us, rfl, s1, t1⟩ := dp_sqB q1 h4
      obtain ⟨b2, a2, ws, rfl, s2, t2⟩ := dp_sqB q2 h5
      refine ⟨b1, b2, a1, a2, us, ws, rfl, s1.mono fun o n e => (hide_some e).2, s2.mono fun o n e => (hide_some e).2, fun H' p as kp np nt hp hl ht => ?_⟩
      have xt : Xt H2 H' := fun b o e => .inl (kp b o e)
      refine kk (.ref p) H' ((x1.trans x2).trans xt) (r2.tabs.kept kp) (.lst (.inl (.inl (hide_of (fun z => (r2.occ p z).1 np) hp))) ?_)
      have l1 := DpAll.len t1
      have l2 := DpAll.len t2
      refine dpAll_ix (by rw [List.length_map, pairs_len, hl, l1, l2]) fun j v d hv hd => ?_
      rw [List.getElem?_map] at hv
      obtain ⟨a, ha, rfl⟩ := Option.map_eq_some_iff.mp hv
      have hj : j < as.length := (List.getElem?_eq_some_iff.mp ha).1
      have j1 : j < us.length := by omega
      have j2 : j < ws.length := by omega
      obtain ⟨d1, c1, m1⟩ := DpAll.get t1 (List.getElem?_eq_getElem j1)
      obtain ⟨d2, c2, m2⟩ := DpAll.get t2 (List.getElem?_eq_getElem j2)
      rw [pairs_get c1 c2] at hd
      cases hd
      exact .tup (.inl (.inl (hide_of (fun z => (r2.occ a z).1 (nt a (List.mem_of_getElem? ha))) (ht j a _ _ ha (List.getElem?_eq_getElem j1) (List.getElem?_eq_getElem j2))))) (.cons (Dp.mono (hide_mono xt) m1) (.cons (Dp.mono (hide_mono xt) m2) .nil))
    cases x <;> cases y <;> simp only at hf2 <;> cases hf2 <;> exact main _ _ rfl rfl rfl
theorem d_zipL3 (hc : X.calm = true) (hgl : Gl X "list") (hml : X.mg "list" = none) (hvl : bootBuiltins "list" = some (.type "list")) (hg : Gl X "zip") (hm : X.mg "zip" = none) (ha : DE X Ts e f) (hb : DE X Ts e2 g) (hcc : DE X Ts e3 h)
    (hsl : starEach [.Call (.Name "zip" p2) [e, e2, e3] [] zp] X.env = (false, eval (.Call (.Name "zip" p2) [e, e2, e3] [] zp) X.env) :: starEach [] X.env := by rfl)
    (hs : starEach [e, e2, e3] X.env = (false, eval e X.env) :: starEach [e2, e3] X.env := by rfl) (hs2 : starEach [e2, e3] X.env = (false, eval e2 X.env) :: starEach [e3] X.env := by rfl) (hs3 : starEach [e3] X.env = (false, eval e3 X.env) :: starEach [] X.env := by rfl) (hpl : (backTo zp (starEach [e2, e3] X.env)).any (·.1) = false := by rfl) :
    DE X Ts (.Call (.Name "list" p) [.Call (.Name "zip" p2) [e, e2, e3] [] zp] [] pos) (fZipL3 f g h) :=
  PE.imp (pe_zipL3 (ta := tCons (tD X.K Ts f) (tCons (tD X.K Ts g) (tCons (tD X.K Ts h) tNil))) hc hgl hml hvl hg hm (pa_cons ha (pa_cons hb (pa_cons hcc pa_nil hs3) hs2) hs) hsl hs hpl) fun σ H Q ⟨He, O, en, d, rp, hf, kk⟩ => by
    obtain ⟨ps, h0, rfl⟩ := Option.map_eq_some_iff.mp hf
    unfold iZip3 at h0
    obtain ⟨x, h1, hf1⟩ := Option.bind_eq_some_iff.mp h0
    obtain ⟨y, h2, hf2⟩ := Option.bind_eq_some_iff.mp hf1
    obtain ⟨z, h3, hf3⟩ := Option.bind_eq_some_iff.mp hf2
    obtain ⟨ds, h4, hf4⟩ := Option.bind_eq_some_iff.mp hf3
    obtain ⟨es, h5, hf5⟩ := Option.bind_eq_some_iff.mp hf4
    obtain ⟨fs, h6, hf6⟩ := Option.bind_eq_some_iff.mp hf5
    cases hf6
    refine tD.of rp h1 fun v H1 x1 r1 q1 => tD.of r1 h2 fun w H2 x2 r2 q2 => tD.of r2 h3 fun u H3 x3 r3 q3 => ?_
    have q1 := Dp.mono (hide_mono (x2.trans x3)) q1
    have q2 := Dp.mono (hide_mono x3) q2
    obtain ⟨b1, a1, us, rfl, s1, t1⟩ := dp_sqB q1 h4
    obtain ⟨b2, a2, ws, rfl, s2, t2⟩ := dp_sqB q2 h5
    obtain ⟨b3, a3, ks, rfl, s3, t3⟩ := dp_sqB q3 h6
    refine ⟨b1, b2, b3, a1, a2, a3, us, ws, ks, rfl, s1.mono fun o n e => (hide_some e).2, s2.mono fun o n e => (hide_some e).2, s3.mono fun o n e => (hide_some e).2, fun H' p as kp np nt hp hl ht => ?_⟩
    have xt : Xt H3 H' := fun b o e => .inl (kp b o e)
    refine kk (.ref p) H' (((x1.trans x2).trans x3).trans xt) (r3.tabs.kept kp) (.lst (.inl (.inl (hide_of (fun z => (r3.occ p z).1 np) hp))) ?_)
    have l1 := DpAll.len t1
    have l2 := DpAll.len t2
    have l3 := DpAll.len t3
    refine dpAll_ix (by rw [List.length_map, trips_len, hl, l1, l2, l3]) fun j v d hv hd => ?_
    rw [List.getElem?_map] at hv
    obtain ⟨a, ha, rfl⟩ := Option.map_eq_some_iff.mp hv
    have hj : j < as.length := (List.getElem?_eq_some_iff.mp ha).1
    have j1 : j < us.length := by omega
    have j2 : j < ws.length := by omega
    have j3 : j < ks.length := by omega
    obtain ⟨d1, c1, m1⟩ := DpAll.get t1 (List.getElem?_eq_getElem j1)
    obtain ⟨d2, c2, m2⟩ := DpAll.get t2 (List.getElem?_eq_getElem j2)
    obtain ⟨d3, c3, m3⟩ := DpAll.get t3 (List.getElem?_eq_getElem j3)
    rw [trips_get c1 c2 c3] at hd
    cases hd
    exact .tup (.inl (.inl (hide_of (fun z => (r3.occ a z).1 (nt a (List.mem_of_getElem? ha))) (ht j a _ _ _ ha (List.getElem?_eq_getElem j1) (List.getElem?_eq_getElem j2) (List.getElem?_eq_getElem j3))))) (.cons (Dp.mono (hide_mono xt) m1) (.cons (Dp.mono (hide_mono xt) m2) (.cons (Dp.mono (hide_mono xt) m3) .nil)))
end
end DN
set_option Elab.async false
set_option linter.all false
set_option maxRecDepth 100000
set_option maxHeartbeats 4000000
namespace Ty
open PySem PySem.Spec PyProof.Rows L2 DN
section
variable {α β γ δ ξ σ ζ : Type} {en : En} {f g h k : En → Option PyData} {F G : En → Option Fl} {ea : α → PyData} {eb : β → PyData} {ec : γ → PyData} {ed : δ → PyData} {er : ξ → PyData}
/-! zip of three -/
def zip3 (x : List α) (y : List β) (z : List γ) : List (α × β × γ) := x.zip (y.zip z)
theorem trips_zip : ∀ (xs : List α) (ys : List β) (zs : List γ), trips (xs.map ea) (ys.map eb) (zs.map ec) = (zip3 xs ys zs).map (e3 ea eb ec)
  | [], _, _ => by simp [trips, zip3]
  | _ :: _, [], _ => by simp [trips, zip3]
  | _ :: _, _ :: _, [] => by simp [trips, zip3]
  | x :: xs, y :: ys, z :: zs => by
    show PyData.tuple [ea x, eb y, ec z] :: trips (xs.map ea) (ys.map eb) (zs.map ec) = _
    rw [trips_zip xs ys zs]
    rfl
theorem i_zip3 {A : Option (List α)} {B : Option (List β)} {C : Option (List γ)} {s : List α → PyData} {t : List β → PyData} {u : List γ → PyData} (hs : ∀ x, lt_items (s x) = some (x.map ea)) (ht : ∀ x, lt_items (t x) = some (x.map eb)) (hu : ∀ x, lt_items (u x) = some (x.map ec))
    (pa : f en = A.map s) (pb : g en = B.map t) (pc : h en = C.map u) : iZip3 f g h en = (A.bind fun x => B.bind fun y => C.bind fun z => some (zip3 x y z)).map (List.map (e3 ea eb ec)) := by
  unfold iZip3
  rw [pa, pb, pc]
  cases A with
  | none => rfl
  | some x => cases B with
    | none => rfl
    | some y => cases C with
      | none => rfl
      | some z =>
        show (lt_items (s x)).bind (fun xs => (lt_items (t y)).bind fun ys => (lt_items (u z)).bind fun zs => some (trips xs ys zs)) = _
        rw [hs, ht, hu]
        exact congrArg some (trips_zip x y z)
/-! a, b, [..], d -/
variable {A : Option α} {B : Option β} {C : Option (List γ)} {D : Option δ} {i j l m : Nat}
theorem par4O_eq (p : f en = A.map ea) (p1 : g en = B.map eb) (p2 : h en = C.map (eL ec)) (p3 : k en = D.map ed) (hi : i < en.length) (hj : j < en.length) (hl : l < en.length) (hm : m < en.length) : sPar4O i j l m f g h k en = (A.bind fun x => B.bind fun y => C.bind fun z => D.bind fun u => some (Fl.nx ((((en.set i (.dat (ea x))).set j (.dat (eb y))).set l (.own (z.map ec))).set m (.dat (ed u))))) := by
  unfold sPar4O
  rw [p, p1, p2, p3]
  cases A with
  | none => rfl
  | some a => cases B with
    | none => rfl
    | some b => cases C with
      | none => cases D <;> rfl
      | some c => cases D with
        | none => rfl
        | some d =>
          show (if i < en.length ∧ j < en.length ∧ l < en.length ∧ m < en.length then _ else _) = _
          rw [if_pos ⟨hi, hj, hl, hm⟩]
          rfl
theorem r_seq_par4O {K : α → β → List γ → δ → Option ξ} (p : f en = A.map ea) (p1 : g en = B.map eb) (p2 : h en = C.map (eL ec)) (p3 : k en = D.map ed) (hi : i < en.length) (hj : j < en.length) (hl : l < en.length) (hm : m < en.length) (q : ∀ x y z u, G ((((en.set i (.dat (ea x))).set j (.dat (eb y))).set l (.own (List.map ec z))).set m (.dat (ed u))) = rtO er (K x y z u)) : sSeq (sPar4O i j l m f g h k) G en = rtO er (A.bind fun x => B.bind fun y => C.bind fun z => D.bind fun u => K x y z u) := by
  unfold sSeq
  rw [par4O_eq p p1 p2 p3 hi hj hl hm]
  cases A with
  | none => rfl
  | some a => cases B with
    | none => rfl
    | some b => cases C with
      | none => rfl
      | some c => cases D with
        | none => rfl
        | some d => exact q a b c d
/-! an append among draws -/
theorem w_app {ρ i : Nat} {f : En → Option PyData} {e : α → PyData} {v : List α} {x : α} {Q : Fl → Prop} (hi : en[i]? = some (.own (List.map e v))) (hl : v.length ≤ 1000000) (hf : ∀ rw, f (en.set ρ (.own rw)) = some (e x)) (h : Q (.nx (en.set i (.own (List.map e (v ++ [x])))))) : lApp i (wP ρ f) en Q := by
  refine ⟨_, hi, by rw [List.length_map]; exact hl, e x, hf, ?_⟩
  rw [List.map_append] at h
  exact h
end
theorem n_par3 {α β γ σ ζ : Type} {en : En} {f g h : En → Option PyData} {ea : α → PyData} {eb : β → PyData} {ec : γ → PyData} {A : Option α} {B : Option β} {C : Option γ} {i j l : Nat} {K : α → β → γ → σ} {env : σ → ζ → En} (p : f en = A.map ea) (p1 : g en = B.map eb) (p2 : h en = C.map ec) (hi : i < en.length) (hj : j < en.length) (hl : l < en.length) (q : ∀ x y u, ∃ z, ((en.set i (.dat (ea x))).set j (.dat (eb y))).set l (.dat (ec u)) = env (K x y u) z) : NX (sPar3 i j l f g h en) (A.bind fun x => B.bind fun y => C.bind fun u => some (K x y u)) env := by
  unfold sPar3 bName
  rw [p, p1, p2]
  cases A with
  | none => exact rfl
  | some a => cases B with
    | none => exact rfl
    | some b => cases C with
      | none => exact rfl
      | some c =>
        obtain ⟨z, e⟩ := q a b c
        refine ⟨z, ?_⟩
        simp only [Option.map_some, Option.bind_some, hi, hj, hl, if_true, List.length_set, e]
def notinO (x : PyData) (ds : List PyData) : Option Bool := if (SeqAt.shaped x && SeqAt.shaped (.list ds)) = true then some (!ds.any fun z => PyData.eqv z x) else none
theorem g_notinL {α β : Type} {ea : α → PyData} {eb : β → PyData} (x : α) (y : List β) : gNotIn (ea x) (eL eb y) = (notinO (ea x) (List.map eb y)).map eB := by
  show (if (SeqAt.shaped (ea x) && SeqAt.shaped (.list (List.map eb y))) = true then some (PyData.bool (!(List.map eb y).any fun z => PyData.eqv z (ea x))) else none) = _
  unfold notinO
  split <;> rfl
theorem j_seq_bind {α ξ σ ζ : Type} {en : En} {f : En → Option PyData} {G : En → Option Fl} {ea : α → PyData} {A : Option α} {env : σ → ζ → En} {b : PyData → En → Option En} {envb : α → En} {K : α → Option (ξ ⊕ σ)} {e : ξ → PyData} (p : f en = A.map ea) (hb : ∀ x, b (ea x) en = some (envb x)) (q : ∀ x, JX (G (envb x)) (K x) e env) : JX (sSeq (sBind b f) G en) (A.bind K) e env := by
  unfold sSeq sBind
  rw [p]
  cases A with
  | none => exact rfl
  | some a =>
    show JX (match (b (ea a) en).map Fl.nx with
      | some (.nx e) => G e
      | r => r) (K a) e env
    rw [hb]
    exact q a
theorem t_zipL {α : Type} {en : En} {f g : En → Option PyData} {e : α → PyData} {A : Option (List α)} (p : iZip f g en = A.map (List.map e)) : fZipL f g en = A.map (eL e) := by
  unfold fZipL
  rw [p]
  cases A <;> rfl
theorem t_zipL3 {α : Type} {en : En} {f g h : En → Option PyData} {e : α → PyData} {A : Option (List α)} (p : iZip3 f g h en = A.map (List.map e)) : fZipL3 f g h en = A.map (eL e) := by
  unfold fZipL3
  rw [p]
  cases A <;> rfl
def bindJ {β σ : Type} (A : Option (β ⊕ σ)) (K : σ → Option β) : Option β := A.bind (outJ K)
theorem r_seq_bj {ξ σ ζ : Type} {en : En} {F G : En → Option Fl} {er : ξ → PyData} {env : σ → ζ → En} {A : Option (ξ ⊕ σ)} {K : σ → Option ξ} (p : JX (F en) A er env) (q : ∀ s z, G (env s z) = rtO er (K s)) : sSeq F G en = rtO er (bindJ A K) := r_seq_j p q
/-- x + y, which nothing unfolds -/
noncomputable def addI (x y : Int) : Int := Classical.choose (⟨x + y, rfl⟩ : ∃ z, z = x + y)
theorem addI_eq (x y : Int) : addI x y = x + y := Classical.choose_spec (⟨x + y, rfl⟩ : ∃ z, z = x + y)
theorem g_addI (x y : Int) : gPlus (eI x) (eI y) = (some (addI x y)).map eI := by
  rw [addI_eq]
  exact g_add x y
end Ty
set_option Elab.async false
set_option linter.all false
set_option maxRecDepth 100000
set_option maxHeartbeats 4000000
namespace Ty
open PySem PySem.Spec PyProof.Rows L2 DN
def F_greatest_ratio (c_is_less : List PyData → Option PyData) : En → Option Fl := (sSeq (sSet 1 (fIx (fVar 0) (fLit (.int 0)))) (sSeq (sFor (iSeq (fVar 0)) (bName 2) (sIf (fT (fCall 2 c_is_less (fCons (fVar 1) (fCons (fVar 2) fNil)))) (sSet 1 (fVar 2)) sNil)) (sRet (fVar 1))))
def S_greatest_ratio := runD 3 (F_greatest_ratio S_is_less)
def F_run_months : En → Option Fl := (sSeq (sBind (bTup [2, 3, 4, 5]) (fVar 0)) (sSeq (sOwn 6 (fLst fNil)) (sSeq (sFor (iZip (fVar 5) (fVar 1)) (bTup [7, 8]) (sSeq (sSet 9 (fPlus (fVar 3) (fVar 7))) (sSeq (sSet 10 (fMin2 (fVar 8) (fVar 9))) (sSeq (sSet 3 (fMin2 (fVar 2) (fSub (fVar 9) (fVar 10)))) (sApp 6 (fTup (fCons (fVar 10) (fCons (fSub (fSub (fVar 9) (fVar 10)) (fVar 3)) (fCons (fVar 3) fNil))))))))) (sRet (fTuple (fOwn 6))))))
def S_run_months := runD 11 (F_run_months)
def F_run (c_check_dam c_check_demands c_run_months : List PyData → Option PyData) : En → Option Fl := (sSeq (sExpr (fCall 1 c_check_dam (fCons (fVar 0) fNil))) (sSeq (sExpr (fCall 2 c_check_demands (fCons (fVar 1) (fCons (fLen (fIx (fVar 0) (fLit (.int 3)))) fNil)))) (sRet (fCall 2 c_run_months (fCons (fVar 0) (fCons (fVar 1) fNil))))))
def S_run := runD 2 (F_run S_check_dam S_check_demands S_run_months)
def F_flood_curve (c_check_capacity__d c_check_inflows : List PyData → Option PyData) : En → Option Fl := (sSeq (sExpr (fCall 1 c_check_capacity__d (fCons (fVar 0) fNil))) (sSeq (sExpr (fCall 1 c_check_capacity__d (fCons (fVar 1) fNil))) (sSeq (sExpr (fCall 1 c_check_inflows (fCons (fVar 2) fNil))) (sSeq (sSet 3 (fVar 0)) (sSeq (sOwn 4 (fLst (fCons (fVar 3) fNil))) (sSeq (sFor (iRevF (fVar 2)) (bName 5) (sSeq (sIf (fT (fNotN (fVar 3) (fLit .none))) (sSeq (sSet 3 (fMin2 (fVar 0) (fSub (fPlus (fVar 3) (fVar 1)) (fVar 5)))) (sSet 3 (fIf (fT (fLt (fVar 3) (fLit (.int 0)))) (fLit .none) (fVar 3)))) sNil) (sApp 4 (fVar 3)))) (sRet (fTuple (f1 gRevL (fOwn 4))))))))))
def S_flood_curve := runD 6 (F_flood_curve S_check_capacity__d S_check_inflows)
def F_fill_curve (c_check_dam c_check_demands : List PyData → Option PyData) : En → Option Fl := (sSeq (sExpr (fCall 1 c_check_dam (fCons (fVar 0) fNil))) (sSeq (sExpr (fCall 2 c_check_demands (fCons (fVar 1) (fCons (fLen (fIx (fVar 0) (fLit (.int 3)))) fNil)))) (sSeq (sBind (bTup [2, 3, 4, 5]) (fVar 0)) (sSeq (sOwn 6 (fLst (fCons (fVar 4) fNil))) (sSeq (sFor (iRevF (fZipL (fVar 5) (fVar 1))) (bTup [7, 8]) (sSeq (sIf (fT (fNotN (fVar 4) (fLit .none))) (sSeq (sSet 4 (fMax2 (fLit (.int 0)) (fSub (fPlus (fVar 4) (fVar 8)) (fVar 7)))) (sSet 4 (fIf (fT (fGt (fVar 4) (fVar 2))) (fLit .none) (fVar 4)))) sNil) (sApp 6 (fVar 4)))) (sRet (fTuple (f1 gRevL (fOwn 6)))))))))
def S_fill_curve := runD 9 (F_fill_curve S_check_dam S_check_demands)
def F_window_peak (c_ratio c_in_window : List PyData → Option PyData) : En → Option Fl := (sSeq (sBind (bTup [2, 3, 4, 5]) (fVar 0)) (sSeq (sBind (bTup [6, 7]) (fVar 1)) (sSeq (sSet 8 (fIf (fT (fEq (fVar 6) (fLit (.int 0)))) (fVar 3) (fLit (.int 0)))) (sRet (fCall 2 c_ratio (fCons (fSub (fPlus (fVar 8) (fSum (fCall 2 c_in_window (fCons (fVar 5) (fCons (fVar 1) fNil))))) (fVar 2)) (fCons (fPlus (fSub (fVar 7) (fVar 6)) (fLit (.int 1))) fNil)))))))
def S_window_peak := runD 9 (F_window_peak S_ratio S_in_window)
def F_least_peak (c_check_dam c_check_has_plan c_greatest_ratio c_windows c_window_peak : List PyData → Option PyData) : En → Option Fl := (sSeq (sExpr (fCall 1 c_check_dam (fCons (fVar 0) fNil))) (sSeq (sExpr (fCall 1 c_check_has_plan (fCons (fVar 0) fNil))) (sRet (fCall 1 c_greatest_ratio (fCons (fPlus (fLst (fCons (fTup (fCons (fLit (.int 0)) (fCons (fLit (.int 1)) fNil))) fNil)) (fLc (iSeq (fCall 1 c_windows (fCons (fLen (fIx (fVar 0) (fLit (.int 3)))) fNil))) (bName 1) kYes (fCall 2 c_window_peak (fCons (fVar 0) (fCons (fVar 1) fNil))) [1])) fNil)))))
def S_least_peak := runD 2 (F_least_peak S_check_dam S_check_has_plan S_greatest_ratio S_windows S_window_peak)
def F_check_dam_and_demands (c_check_dam c_check_demands : List PyData → Option PyData) : En → Option Fl := (sSeq (sExpr (fCall 1 c_check_dam (fCons (fVar 0) fNil))) (sExpr (fCall 2 c_check_demands (fCons (fVar 1) (fCons (fLen (fIx (fVar 0) (fLit (.int 3)))) fNil)))))
def S_check_dam_and_demands := runD 2 (F_check_dam_and_demands S_check_dam S_check_demands)
def F_all_given (c_run_months : List PyData → Option PyData) : En → Option Fl := (sRet (fTuple (fLc (iSeq (fCall 2 c_run_months (fCons (fVar 0) (fCons (fVar 1) fNil)))) (bName 2) kYes (fIx (fVar 2) (fLit (.int 0))) [2])))
def S_all_given := runD 3 (F_all_given S_run_months)
def F_total_lack (c_check_dam_and_demands c_all_given : List PyData → Option PyData) : En → Option Fl := (sSeq (sExpr (fCall 2 c_check_dam_and_demands (fCons (fVar 0) (fCons (fVar 1) fNil)))) (sRet (fSub (fSum (fVar 1)) (fSum (fCall 2 c_all_given (fCons (fVar 0) (fCons (fVar 1) fNil)))))))
def S_total_lack := runD 2 (F_total_lack S_check_dam_and_demands S_all_given)
def N_flood_curve (capacity' : Int) (outlet' : Int) (inflows' : (List Int)) : Option (List (Option Int)) := ((N_check_capacity__d capacity').bind fun _ => ((N_check_capacity__d outlet').bind fun _ => ((N_check_inflows inflows').bind fun _ => ((some (some capacity')).bind fun most_1 => ((some [most_1]).bind fun curve_3 => ((foldO (fun i7 s5 => ((iteO (some s5.1.isSome) ((((some capacity').bind fun x19 => ((s5.1.bind fun u11 => some (u11 + outlet')).bind fun x15 => (some i7).bind fun y16 => some (x15 - y16)).bind fun y20 => some (min2 x19 y20)).bind fun x21 => some (some x21)).bind fun most_10 => ((iteO (most_10.bind fun u23 => some (decide (u23 < (0 : Int)))) (some none) (some most_10)).bind fun most_22 => some most_22)) (some s5.1)).bind fun s27 => ((appO s5.2 s27).bind fun curve_29 => some (s27, curve_29)))) (List.reverse inflows') (most_1, curve_3)).bind fun s31 => (some (List.reverse s31.2))))))))
theorem t_flood_curve (capacity' : Int) (outlet' : Int) (inflows' : (List Int)) : S_flood_curve [eI capacity', eI outlet', (eR eI) inflows'] = (N_flood_curve capacity' outlet' inflows').map (eR (eO eI)) := d_run (r_seq_expr (A := (N_check_capacity__d capacity')) (t_call1 (A := (some capacity')) (N := N_check_capacity__d) t_check_capacity__d (t_var (i := 0) (e := eI) (v := capacity') rfl)) (r_seq_expr (A := (N_check_capacity__d outlet')) (t_call1 (A := (some outlet')) (N := N_check_capacity__d) t_check_capacity__d (t_var (i := 1) (e := eI) (v := outlet') rfl)) (r_seq_expr (A := (N_check_inflows inflows')) (t_call1 (A := (some inflows')) (N := N_check_inflows) t_check_inflows (t_var (i := 2) (e := (eR eI)) (v := inflows') rfl)) (r_seq_set (i := 3) (A := (some (some capacity'))) (t_some (A := (some capacity')) (t_var (i := 0) (e := eI) (v := capacity') rfl)) (lt_of rfl) (fun most_1 => (r_seq_own (i := 4) (ea := (eO eI)) (A := (some [most_1])) (t_lstL (L := (some [most_1])) (t_cons (A := (some most_1)) (L := (some [])) (t_var (i := 3) (e := (eO eI)) (v := most_1) rfl) (t_nil (α := (Option Int)) (e := (eO eI))))) (lt_of rfl) (fun curve_3 => (r_seq_nx (env := (fun (s : ((Option Int) × (List (Option Int)))) (z : (Slot)) => [.dat (eI capacity'), .dat (eI outlet'), .dat ((eR eI) inflows'), .dat ((eO eI) s.1), .own (List.map (eO eI) s.2), z])) (n_for (env := (fun (s : ((Option Int) × (List (Option Int)))) (z : (Slot)) => [.dat (eI capacity'), .dat (eI outlet'), .dat ((eR eI) inflows'), .dat ((eO eI) s.1), .own (List.map (eO eI) s.2), z])) (s := (most_1, curve_3)) (z := (.no : Slot)) (L := (some (List.reverse inflows'))) (ea := eI) (Bd := (fun i7 s5 => ((iteO (some s5.1.isSome) ((((some capacity').bind fun x19 => ((s5.1.bind fun u11 => some (u11 + outlet')).bind fun x15 => (some i7).bind fun y16 => some (x15 - y16)).bind fun y20 => some (min2 x19 y20)).bind fun x21 => some (some x21)).bind fun most_10 => ((iteO (most_10.bind fun u23 => some (decide (u23 < (0 : Int)))) (some none) (some most_10)).bind fun most_22 => some most_22)) (some s5.1)).bind fun s27 => ((appO s5.2 s27).bind fun curve_29 => some (s27, curve_29))))) rfl (i_revR (A := (some inflows')) (e := eI) (t_var (i := 2) (e := (eR eI)) (v := inflows') rfl)) (fun i7 s5 z6 => ⟨[.dat (eI capacity'), .dat (eI outlet'), .dat ((eR eI) inflows'), .dat ((eO eI) s5.1), .own (List.map (eO eI) s5.2), .dat (eI i7)], rfl, (n_seq (env2 := (fun (s : ((Option Int))) (z : Unit) => [.dat (eI capacity'), .dat (eI outlet'), .dat ((eR eI) inflows'), .dat ((eO eI) s), .own (List.map (eO eI) s5.2), .dat (eI i7)])) (A := (iteO (some s5.1.isSome) ((((some capacity').bind fun x19 => ((s5.1.bind fun u11 => some (u11 + outlet')).bind fun x15 => (some i7).bind fun y16 => some (x15 - y16)).bind fun y20 => some (min2 x19 y20)).bind fun x21 => some (some x21)).bind fun most_10 => ((iteO (most_10.bind fun u23 => some (decide (u23 < (0 : Int)))) (some none) (some most_10)).bind fun most_22 => some most_22)) (some s5.1))) (n_if (P := (some s5.1.isSome)) (A := ((((some capacity').bind fun x19 => ((s5.1.bind fun u11 => some (u11 + outlet')).bind fun x15 => (some i7).bind fun y16 => some (x15 - y16)).bind fun y20 => some (min2 x19 y20)).bind fun x21 => some (some x21)).bind fun most_10 => ((iteO (most_10.bind fun u23 => some (decide (u23 < (0 : Int)))) (some none) (some most_10)).bind fun most_22 => some most_22))) (B := (some s5.1)) (t_T (P := (some s5.1.isSome)) (t_f2 (A := (some s5.1)) (B := (some ())) (h := (fun x8 y9 => some x8.isSome)) (g_notN (fun _ => rfl)) (t_var (i := 3) (e := (eO eI)) (v := s5.1) rfl) t_non)) (n_seq_set (i := 3) (A := (((some capacity').bind fun x19 => ((s5.1.bind fun u11 => some (u11 + outlet')).bind fun x15 => (some i7).bind fun y16 => some (x15 - y16)).bind fun y20 => some (min2 x19 y20)).bind fun x21 => some (some x21))) (t_some (A := ((some capacity').bind fun x19 => ((s5.1.bind fun u11 => some (u11 + outlet')).bind fun x15 => (some i7).bind fun y16 => some (x15 - y16)).bind fun y20 => some (min2 x19 y20))) (t_f2 (A := (some capacity')) (B := ((s5.1.bind fun u11 => some (u11 + outlet')).bind fun x15 => (some i7).bind fun y16 => some (x15 - y16))) (h := (fun x19 y20 => some (min2 x19 y20))) g_min2 (t_var (i := 0) (e := eI) (v := capacity') rfl) (t_f2 (A := (s5.1.bind fun u11 => some (u11 + outlet'))) (B := (some i7)) (h := (fun x15 y16 => some (x15 - y16))) g_sub (t_f2 (A := (some s5.1)) (B := (some outlet')) (h := (fun x13 y14 => (x13.bind fun u11 => some (u11 + y14)))) (g_o1 (fun x => by cases x <;> rfl) g_add) (t_var (i := 3) (e := (eO eI)) (v := s5.1) rfl) (t_var (i := 1) (e := eI) (v := outlet') rfl)) (t_var (i := 5) (e := eI) (v := i7) rfl)))) (lt_of rfl) (fun most_10 => (n_set  (K := fun most_22 => most_22) (i := 3) (A := (iteO (most_10.bind fun u23 => some (decide (u23 < (0 : Int)))) (some none) (some most_10))) (t_if (P := (most_10.bind fun u23 => some (decide (u23 < (0 : Int))))) (A := (some none)) (B := (some most_10)) (t_T (P := (most_10.bind fun u23 => some (decide (u23 < (0 : Int))))) (t_f2 (A := (some most_10)) (B := (some (0 : Int))) (h := (fun x25 y26 => (x25.bind fun u23 => some (decide (u23 < y26))))) (g_o1 (fun x => by cases x <;> rfl) g_lt) (t_var (i := 3) (e := (eO eI)) (v := most_10) rfl) (t_int (i := 0)))) (t_none (A := (some ())) (e := eI) t_non) (t_var (i := 3) (e := (eO eI)) (v := most_10) rfl)) (lt_of rfl) (fun most_22 => ⟨(), rfl⟩)))) (n_nil (s := s5.1) (z := ()) rfl)) (fun s27 z28 => (n_app (i := 4) (A := (some s27)) (v := s5.2) (K := fun curve_29 => (s27, curve_29)) (t_var (i := 3) (e := (eO eI)) (v := s27) rfl) rfl (fun curve_29 => ⟨(.dat (eI i7) : Slot), rfl⟩))))⟩)) (fun s31 z32 => (r_ret (A := (some (List.reverse s31.2))) (t_f1 (A := (some (List.reverse s31.2))) (h := (fun x34 => some x34)) g_tupL (t_f1 (A := (some s31.2)) (h := (fun x33 => some (List.reverse x33))) g_revL (t_own (i := 4) (e := (eO eI)) (v := s31.2) rfl)))))))))))))
def N_fill_curve (dam' : (Int × Int × Int × (List Int))) (demands' : (List Int)) : Option (List (Option Int)) := ((N_check_dam dam').bind fun _ => ((N_check_demands demands' ((dam'.2.2.2).length : Int)).bind fun _ => ((some dam').bind fun p3 => ((some (List.map (fun y => (some y)) [p3.2.2.1])).bind fun curve_4 => ((foldO (fun i11 s9 => ((iteO (some s9.1.isSome) ((((some (0 : Int)).bind fun x23 => ((s9.1.bind fun u15 => some (u15 + i11.2)).bind fun x19 => (some i11.1).bind fun y20 => some (x19 - y20)).bind fun y24 => some (max2 x23 y24)).bind fun x25 => some (some x25)).bind fun least_14 => ((iteO (least_14.bind fun u27 => some (decide (p3.1 < u27))) (some none) (some least_14)).bind fun least_26 => some least_26)) (some s9.1)).bind fun s31 => ((appO s9.2 s31).bind fun curve_33 => some (s31, curve_33)))) (List.reverse (List.zip p3.2.2.2 demands')) ((some p3.2.2.1), curve_4)).bind fun s35 => (some (List.reverse s35.2)))))))
theorem t_fill_curve (dam' : (Int × Int × Int × (List Int))) (demands' : (List Int)) : S_fill_curve [(e4 eI eI eI (eR eI)) dam', (eR eI) demands'] = (N_fill_curve dam' demands').map (eR (eO eI)) := d_run (r_seq_expr (A := (N_check_dam dam')) (t_call1 (A := (some dam')) (N := N_check_dam) t_check_dam (t_var (i := 0) (e := (e4 eI eI eI (eR eI))) (v := dam') rfl)) (r_seq_expr (A := (N_check_demands demands' ((dam'.2.2.2).length : Int))) (t_call2 (A := (some demands')) (B := (some ((dam'.2.2.2).length : Int))) (N := N_check_demands) t_check_demands (t_var (i := 1) (e := (eR eI)) (v := demands') rfl) (t_f1 (A := (some dam'.2.2.2)) (h := (fun x2 => some ((x2).length : Int))) g_lenR (t_ixc (A := (some dam')) (k := 3) (pr := fun x1 => x1.2.2.2) (eb := (eR eI)) (fun _ => rfl) (t_var (i := 0) (e := (e4 eI eI eI (eR eI))) (v := dam') rfl)))) (r_seq_bind (A := (some dam')) (envb := fun p3 => [.dat ((e4 eI eI eI (eR eI)) dam'), .dat ((eR eI) demands'), .dat (eI p3.1), .dat (eI p3.2.1), .dat (eI p3.2.2.1), .dat ((eR eI) p3.2.2.2), .no, .no, .no]) (t_var (i := 0) (e := (e4 eI eI eI (eR eI))) (v := dam') rfl) (fun _ => rfl) (fun p3 => (r_seq_own (i := 6) (ea := (eO eI)) (A := (some (List.map (fun y => (some y)) [p3.2.2.1]))) (t_as (A := (some [p3.2.2.1])) (u := fun x5 => List.map (fun y => (some y)) x5) (ea := (eL eI)) (eb := (eL (eO eI))) (fun _ => as_L (ea := eI) (eb := (eO eI)) (u := fun y => (some y)) (fun _ => rfl) _) (t_lstL (L := (some [p3.2.2.1])) (t_cons (A := (some p3.2.2.1)) (L := (some [])) (t_var (i := 4) (e := eI) (v := p3.2.2.1) rfl) (t_nil (α := Int) (e := eI))))) (lt_of rfl) (fun curve_4 => (r_seq_nx (env := (fun (s : ((Option Int) × (List (Option Int)))) (z : (Slot × Slot)) => [.dat ((e4 eI eI eI (eR eI)) dam'), .dat ((eR eI) demands'), .dat (eI p3.1), .dat (eI p3.2.1), .dat ((eO eI) s.1), .dat ((eR eI) p3.2.2.2), .own (List.map (eO eI) s.2), z.1, z.2])) (n_for (env := (fun (s : ((Option Int) × (List (Option Int)))) (z : (Slot × Slot)) => [.dat ((e4 eI eI eI (eR eI)) dam'), .dat ((eR eI) demands'), .dat (eI p3.1), .dat (eI p3.2.1), .dat ((eO eI) s.1), .dat ((eR eI) p3.2.2.2), .own (List.map (eO eI) s.2), z.1, z.2])) (s := ((some p3.2.2.1), curve_4)) (z := ((.no : Slot), (.no : Slot))) (L := (some (List.reverse (List.zip p3.2.2.2 demands')))) (ea := (e2 eI eI)) (Bd := (fun i11 s9 => ((iteO (some s9.1.isSome) ((((some (0 : Int)).bind fun x23 => ((s9.1.bind fun u15 => some (u15 + i11.2)).bind fun x19 => (some i11.1).bind fun y20 => some (x19 - y20)).bind fun y24 => some (max2 x23 y24)).bind fun x25 => some (some x25)).bind fun least_14 => ((iteO (least_14.bind fun u27 => some (decide (p3.1 < u27))) (some none) (some least_14)).bind fun least_26 => some least_26)) (some s9.1)).bind fun s31 => ((appO s9.2 s31).bind fun curve_33 => some (s31, curve_33))))) rfl (i_revL (A := (some (List.zip p3.2.2.2 demands'))) (e := (e2 eI eI)) (t_zipL (i_zip (A := (some p3.2.2.2)) (B := (some demands')) (ea := eI) (eb := eI) (fun _ _ => rfl) (t_var (i := 5) (e := (eR eI)) (v := p3.2.2.2) rfl) (t_var (i := 1) (e := (eR eI)) (v := demands') rfl)))) (fun i11 s9 z10 => ⟨[.dat ((e4 eI eI eI (eR eI)) dam'), .dat ((eR eI) demands'), .dat (eI p3.1), .dat (eI p3.2.1), .dat ((eO eI) s9.1), .dat ((eR eI) p3.2.2.2), .own (List.map (eO eI) s9.2), .dat (eI i11.1), .dat (eI i11.2)], rfl, (n_seq (env2 := (fun (s : ((Option Int))) (z : Unit) => [.dat ((e4 eI eI eI (eR eI)) dam'), .dat ((eR eI) demands'), .dat (eI p3.1), .dat (eI p3.2.1), .dat ((eO eI) s), .dat ((eR eI) p3.2.2.2), .own (List.map (eO eI) s9.2), .dat (eI i11.1), .dat (eI i11.2)])) (A := (iteO (some s9.1.isSome) ((((some (0 : Int)).bind fun x23 => ((s9.1.bind fun u15 => some (u15 + i11.2)).bind fun x19 => (some i11.1).bind fun y20 => some (x19 - y20)).bind fun y24 => some (max2 x23 y24)).bind fun x25 => some (some x25)).bind fun least_14 => ((iteO (least_14.bind fun u27 => some (decide (p3.1 < u27))) (some none) (some least_14)).bind fun least_26 => some least_26)) (some s9.1))) (n_if (P := (some s9.1.isSome)) (A := ((((some (0 : Int)).bind fun x23 => ((s9.1.bind fun u15 => some (u15 + i11.2)).bind fun x19 => (some i11.1).bind fun y20 => some (x19 - y20)).bind fun y24 => some (max2 x23 y24)).bind fun x25 => some (some x25)).bind fun least_14 => ((iteO (least_14.bind fun u27 => some (decide (p3.1 < u27))) (some none) (some least_14)).bind fun least_26 => some least_26))) (B := (some s9.1)) (t_T (P := (some s9.1.isSome)) (t_f2 (A := (some s9.1)) (B := (some ())) (h := (fun x12 y13 => some x12.isSome)) (g_notN (fun _ => rfl)) (t_var (i := 4) (e := (eO eI)) (v := s9.1) rfl) t_non)) (n_seq_set (i := 4) (A := (((some (0 : Int)).bind fun x23 => ((s9.1.bind fun u15 => some (u15 + i11.2)).bind fun x19 => (some i11.1).bind fun y20 => some (x19 - y20)).bind fun y24 => some (max2 x23 y24)).bind fun x25 => some (some x25))) (t_some (A := ((some (0 : Int)).bind fun x23 => ((s9.1.bind fun u15 => some (u15 + i11.2)).bind fun x19 => (some i11.1).bind fun y20 => some (x19 - y20)).bind fun y24 => some (max2 x23 y24))) (t_f2 (A := (some (0 : Int))) (B := ((s9.1.bind fun u15 => some (u15 + i11.2)).bind fun x19 => (some i11.1).bind fun y20 => some (x19 - y20))) (h := (fun x23 y24 => some (max2 x23 y24))) g_max2 (t_int (i := 0)) (t_f2 (A := (s9.1.bind fun u15 => some (u15 + i11.2))) (B := (some i11.1)) (h := (fun x19 y20 => some (x19 - y20))) g_sub (t_f2 (A := (some s9.1)) (B := (some i11.2)) (h := (fun x17 y18 => (x17.bind fun u15 => some (u15 + y18)))) (g_o1 (fun x => by cases x <;> rfl) g_add) (t_var (i := 4) (e := (eO eI)) (v := s9.1) rfl) (t_var (i := 8) (e := eI) (v := i11.2) rfl)) (t_var (i := 7) (e := eI) (v := i11.1) rfl)))) (lt_of rfl) (fun least_14 => (n_set  (K := fun least_26 => least_26) (i := 4) (A := (iteO (least_14.bind fun u27 => some (decide (p3.1 < u27))) (some none) (some least_14))) (t_if (P := (least_14.bind fun u27 => some (decide (p3.1 < u27)))) (A := (some none)) (B := (some least_14)) (t_T (P := (least_14.bind fun u27 => some (decide (p3.1 < u27)))) (t_f2 (A := (some least_14)) (B := (some p3.1)) (h := (fun x29 y30 => (x29.bind fun u27 => some (decide (y30 < u27))))) (g_o1 (fun x => by cases x <;> rfl) g_gt) (t_var (i := 4) (e := (eO eI)) (v := least_14) rfl) (t_var (i := 2) (e := eI) (v := p3.1) rfl))) (t_none (A := (some ())) (e := eI) t_non) (t_var (i := 4) (e := (eO eI)) (v := least_14) rfl)) (lt_of rfl) (fun least_26 => ⟨(), rfl⟩)))) (n_nil (s := s9.1) (z := ()) rfl)) (fun s31 z32 => (n_app (i := 6) (A := (some s31)) (v := s9.2) (K := fun curve_33 => (s31, curve_33)) (t_var (i := 4) (e := (eO eI)) (v := s31) rfl) rfl (fun curve_33 => ⟨((.dat (eI i11.1) : Slot), (.dat (eI i11.2) : Slot)), rfl⟩))))⟩)) (fun s35 z36 => (r_ret (A := (some (List.reverse s35.2))) (t_f1 (A := (some (List.reverse s35.2))) (h := (fun x38 => some x38)) g_tupL (t_f1 (A := (some s35.2)) (h := (fun x37 => some (List.reverse x37))) g_revL (t_own (i := 6) (e := (eO eI)) (v := s35.2) rfl))))))))))))
def N_window_peak (dam' : (Int × Int × Int × (List Int))) (window' : (Int × Int)) : Option (Int × Int) := ((some dam').bind fun p1 => ((some window').bind fun p2 => ((some (cond (decide (p2.1 = (0 : Int))) p1.2.1 (0 : Int))).bind fun held_3 => ((((some held_3).bind fun x7 => ((N_in_window p1.2.2.2 window').bind (fun x6 => some (List.sum x6))).bind fun y8 => some (x7 + y8)).bind fun x9 => (some p1.1).bind fun y10 => some (x9 - y10)).bind fun a15 => (some ((p2.2 - p2.1) + (1 : Int))).bind fun a16 => N_ratio a15 a16))))
theorem t_window_peak (dam' : (Int × Int × Int × (List Int))) (window' : (Int × Int)) : S_window_peak [(e4 eI eI eI (eR eI)) dam', (e2 eI eI) window'] = (N_window_peak dam' window').map (e2 eI eI) := d_run (r_seq_bind (A := (some dam')) (envb := fun p1 => [.dat ((e4 eI eI eI (eR eI)) dam'), .dat ((e2 eI eI) window'), .dat (eI p1.1), .dat (eI p1.2.1), .dat (eI p1.2.2.1), .dat ((eR eI) p1.2.2.2), .no, .no, .no]) (t_var (i := 0) (e := (e4 eI eI eI (eR eI))) (v := dam') rfl) (fun _ => rfl) (fun p1 => (r_seq_bind (A := (some window')) (envb := fun p2 => [.dat ((e4 eI eI eI (eR eI)) dam'), .dat ((e2 eI eI) window'), .dat (eI p1.1), .dat (eI p1.2.1), .dat (eI p1.2.2.1), .dat ((eR eI) p1.2.2.2), .dat (eI p2.1), .dat (eI p2.2), .no]) (t_var (i := 1) (e := (e2 eI eI)) (v := window') rfl) (fun _ => rfl) (fun p2 => (r_seq_set (i := 8) (A := (some (cond (decide (p2.1 = (0 : Int))) p1.2.1 (0 : Int)))) (t_ifP (b := (decide (p2.1 = (0 : Int)))) (x := p1.2.1) (y := (0 : Int)) (t_T (P := (some (decide (p2.1 = (0 : Int))))) (t_f2 (A := (some p2.1)) (B := (some (0 : Int))) (h := (fun x4 y5 => some (decide (x4 = y5)))) (g_eq enc_I rfl) (t_var (i := 6) (e := eI) (v := p2.1) rfl) (t_int (i := 0)))) (t_var (i := 3) (e := eI) (v := p1.2.1) rfl) (t_int (i := 0))) (lt_of rfl) (fun held_3 => (r_ret (A := ((((some held_3).bind fun x7 => ((N_in_window p1.2.2.2 window').bind (fun x6 => some (List.sum x6))).bind fun y8 => some (x7 + y8)).bind fun x9 => (some p1.1).bind fun y10 => some (x9 - y10)).bind fun a15 => (some ((p2.2 - p2.1) + (1 : Int))).bind fun a16 => N_ratio a15 a16)) (t_call2 (A := (((some held_3).bind fun x7 => ((N_in_window p1.2.2.2 window').bind (fun x6 => some (List.sum x6))).bind fun y8 => some (x7 + y8)).bind fun x9 => (some p1.1).bind fun y10 => some (x9 - y10))) (B := (some ((p2.2 - p2.1) + (1 : Int)))) (N := N_ratio) t_ratio (t_f2 (A := ((some held_3).bind fun x7 => ((N_in_window p1.2.2.2 window').bind (fun x6 => some (List.sum x6))).bind fun y8 => some (x7 + y8))) (B := (some p1.1)) (h := (fun x9 y10 => some (x9 - y10))) g_sub (t_f2 (A := (some held_3)) (B := ((N_in_window p1.2.2.2 window').bind (fun x6 => some (List.sum x6)))) (h := (fun x7 y8 => some (x7 + y8))) g_add (t_var (i := 8) (e := eI) (v := held_3) rfl) (t_f1 (A := (N_in_window p1.2.2.2 window')) (h := (fun x6 => some (List.sum x6))) g_sumR (t_call2 (A := (some p1.2.2.2)) (B := (some window')) (N := N_in_window) t_in_window (t_var (i := 5) (e := (eR eI)) (v := p1.2.2.2) rfl) (t_var (i := 1) (e := (e2 eI eI)) (v := window') rfl)))) (t_var (i := 2) (e := eI) (v := p1.1) rfl)) (t_f2 (A := (some (p2.2 - p2.1))) (B := (some (1 : Int))) (h := (fun x13 y14 => some (x13 + y14))) g_add (t_f2 (A := (some p2.2)) (B := (some p2.1)) (h := (fun x11 y12 => some (x11 - y12))) g_sub (t_var (i := 7) (e := eI) (v := p2.2) rfl) (t_var (i := 6) (e := eI) (v := p2.1) rfl)) (t_int (i := 1)))))))))))
def N_greatest_ratio (ratios' : (List (Int × Int))) : Option (Int × Int) := ((atI ratios' (0 : Int)).bind fun greatest_1 => ((foldO (fun i6 s4 => (iteO (N_is_less s4 i6) ((some i6).bind fun greatest_7 => some greatest_7) (some s4))) ratios' greatest_1).bind fun s8 => (some s8)))
theorem t_greatest_ratio (ratios' : (List (Int × Int))) : S_greatest_ratio [(eL (e2 eI eI)) ratios'] = (N_greatest_ratio ratios').map (e2 eI eI) := d_run (r_seq_set (i := 1) (A := (atI ratios' (0 : Int))) (t_f2 (A := (some ratios')) (B := (some (0 : Int))) (h := (fun x2 y3 => (atI x2 y3))) g_ixL (t_var (i := 0) (e := (eL (e2 eI eI))) (v := ratios') rfl) (t_int (i := 0))) (lt_of rfl) (fun greatest_1 => (r_seq_nx (env := (fun (s : ((Int × Int))) (z : (Slot)) => [.dat ((eL (e2 eI eI)) ratios'), .dat ((e2 eI eI) s), z])) (n_for (env := (fun (s : ((Int × Int))) (z : (Slot)) => [.dat ((eL (e2 eI eI)) ratios'), .dat ((e2 eI eI) s), z])) (s := greatest_1) (z := (.no : Slot)) (L := (some ratios')) (ea := (e2 eI eI)) (Bd := (fun i6 s4 => (iteO (N_is_less s4 i6) ((some i6).bind fun greatest_7 => some greatest_7) (some s4)))) rfl (i_seqL (A := (some ratios')) (e := (e2 eI eI)) (t_var (i := 0) (e := (eL (e2 eI eI))) (v := ratios') rfl)) (fun i6 s4 z5 => ⟨[.dat ((eL (e2 eI eI)) ratios'), .dat ((e2 eI eI) s4), .dat ((e2 eI eI) i6)], rfl, (n_if (P := (N_is_less s4 i6)) (A := ((some i6).bind fun greatest_7 => some greatest_7)) (B := (some s4)) (t_T (P := (N_is_less s4 i6)) (t_call2 (A := (some s4)) (B := (some i6)) (N := N_is_less) t_is_less (t_var (i := 1) (e := (e2 eI eI)) (v := s4) rfl) (t_var (i := 2) (e := (e2 eI eI)) (v := i6) rfl))) (n_set  (K := fun greatest_7 => greatest_7) (i := 1) (A := (some i6)) (t_var (i := 2) (e := (e2 eI eI)) (v := i6) rfl) (lt_of rfl) (fun greatest_7 => ⟨(.dat ((e2 eI eI) i6) : Slot), rfl⟩)) (n_nil (s := s4) (z := (.dat ((e2 eI eI) i6) : Slot)) rfl))⟩)) (fun s8 z9 => (r_ret (A := (some s8)) (t_var (i := 1) (e := (e2 eI eI)) (v := s8) rfl))))))
def N_least_peak (dam' : (Int × Int × Int × (List Int))) : Option (Int × Int) := ((N_check_dam dam').bind fun _ => ((N_check_has_plan dam').bind fun _ => (((some [((0 : Int), (1 : Int))]).bind fun x4 => ((N_windows ((dam'.2.2.2).length : Int)).bind fun l => compL (fun (i3 : (Int × Int)) => (some true)) (fun (i3 : (Int × Int)) => (N_window_peak dam' i3)) l).bind fun y5 => (catO x4 y5)).bind fun a6 => N_greatest_ratio a6)))
theorem t_least_peak (dam' : (Int × Int × Int × (List Int))) : S_least_peak [(e4 eI eI eI (eR eI)) dam'] = (N_least_peak dam').map (e2 eI eI) := d_run (r_seq_expr (A := (N_check_dam dam')) (t_call1 (A := (some dam')) (N := N_check_dam) t_check_dam (t_var (i := 0) (e := (e4 eI eI eI (eR eI))) (v := dam') rfl)) (r_seq_expr (A := (N_check_has_plan dam')) (t_call1 (A := (some dam')) (N := N_check_has_plan) t_check_has_plan (t_var (i := 0) (e := (e4 eI eI eI (eR eI))) (v := dam') rfl)) (r_ret (A := (((some [((0 : Int), (1 : Int))]).bind fun x4 => ((N_windows ((dam'.2.2.2).length : Int)).bind fun l => compL (fun (i3 : (Int × Int)) => (some true)) (fun (i3 : (Int × Int)) => (N_window_peak dam' i3)) l).bind fun y5 => (catO x4 y5)).bind fun a6 => N_greatest_ratio a6)) (t_call1 (A := ((some [((0 : Int), (1 : Int))]).bind fun x4 => ((N_windows ((dam'.2.2.2).length : Int)).bind fun l => compL (fun (i3 : (Int × Int)) => (some true)) (fun (i3 : (Int × Int)) => (N_window_peak dam' i3)) l).bind fun y5 => (catO x4 y5))) (N := N_greatest_ratio) t_greatest_ratio (t_f2 (A := (some [((0 : Int), (1 : Int))])) (B := ((N_windows ((dam'.2.2.2).length : Int)).bind fun l => compL (fun (i3 : (Int × Int)) => (some true)) (fun (i3 : (Int × Int)) => (N_window_peak dam' i3)) l)) (h := (fun x4 y5 => (catO x4 y5))) g_addL (t_lstL (L := (some [((0 : Int), (1 : Int))])) (t_cons (A := (some ((0 : Int), (1 : Int)))) (L := (some [])) (t_tup2 (A := (some (0 : Int))) (B := (some (1 : Int))) (t_int (i := 0)) (t_int (i := 1))) (t_nil (α := (Int × Int)) (e := (e2 eI eI))))) (t_lc (L := (N_windows ((dam'.2.2.2).length : Int))) (ea := (e2 eI eI)) (eb := (e2 eI eI)) (T := fun (i3 : (Int × Int)) => (some true)) (Bf := fun (i3 : (Int × Int)) => (N_window_peak dam' i3)) (i_seqL (A := (N_windows ((dam'.2.2.2).length : Int))) (e := (e2 eI eI)) (t_call1 (A := (some ((dam'.2.2.2).length : Int))) (N := N_windows) t_windows (t_f1 (A := (some dam'.2.2.2)) (h := (fun x2 => some ((x2).length : Int))) g_lenR (t_ixc (A := (some dam')) (k := 3) (pr := fun x1 => x1.2.2.2) (eb := (eR eI)) (fun _ => rfl) (t_var (i := 0) (e := (e4 eI eI eI (eR eI))) (v := dam') rfl))))) (fun i3 => ⟨[.dat ((e4 eI eI eI (eR eI)) dam'), .dat ((e2 eI eI) i3)], rfl, t_yes, (t_call2 (A := (some dam')) (B := (some i3)) (N := N_window_peak) t_window_peak (t_var (i := 0) (e := (e4 eI eI eI (eR eI))) (v := dam') rfl) (t_var (i := 1) (e := (e2 eI eI)) (v := i3) rfl))⟩)))))))
def N_run_months (dam' : (Int × Int × Int × (List Int))) (demands' : (List Int)) : Option (List (Int × Int × Int)) := ((some dam').bind fun p1 => ((some []).bind fun months_2 => ((foldO (fun i7 s5 => ((some (s5.1 + i7.1)).bind fun there_8 => ((some (min2 i7.2 there_8)).bind fun given_11 => ((some (min2 p1.1 (there_8 - given_11))).bind fun held_16 => ((appO s5.2 (given_11, ((there_8 - given_11) - held_16), held_16)).bind fun months_27 => some (held_16, months_27)))))) (List.zip p1.2.2.2 demands') (p1.2.1, months_2)).bind fun s29 => (some s29.2))))
theorem t_run_months (dam' : (Int × Int × Int × (List Int))) (demands' : (List Int)) : S_run_months [(e4 eI eI eI (eR eI)) dam', (eR eI) demands'] = (N_run_months dam' demands').map (eR (e3 eI eI eI)) := d_run (r_seq_bind (A := (some dam')) (envb := fun p1 => [.dat ((e4 eI eI eI (eR eI)) dam'), .dat ((eR eI) demands'), .dat (eI p1.1), .dat (eI p1.2.1), .dat (eI p1.2.2.1), .dat ((eR eI) p1.2.2.2), .no, .no, .no, .no, .no]) (t_var (i := 0) (e := (e4 eI eI eI (eR eI))) (v := dam') rfl) (fun _ => rfl) (fun p1 => (r_seq_own (i := 6) (ea := (e3 eI eI eI)) (A := (some [])) (t_lstL (L := some []) (t_nil (α := (Int × Int × Int)) (e := (e3 eI eI eI)))) (lt_of rfl) (fun months_2 => (r_seq_nx (env := (fun (s : (Int × (List (Int × Int × Int)))) (z : (Slot × Slot × Slot × Slot)) => [.dat ((e4 eI eI eI (eR eI)) dam'), .dat ((eR eI) demands'), .dat (eI p1.1), .dat (eI s.1), .dat (eI p1.2.2.1), .dat ((eR eI) p1.2.2.2), .own (List.map (e3 eI eI eI) s.2), z.1, z.2.1, z.2.2.1, z.2.2.2])) (n_for (env := (fun (s : (Int × (List (Int × Int × Int)))) (z : (Slot × Slot × Slot × Slot)) => [.dat ((e4 eI eI eI (eR eI)) dam'), .dat ((eR eI) demands'), .dat (eI p1.1), .dat (eI s.1), .dat (eI p1.2.2.1), .dat ((eR eI) p1.2.2.2), .own (List.map (e3 eI eI eI) s.2), z.1, z.2.1, z.2.2.1, z.2.2.2])) (s := (p1.2.1, months_2)) (z := ((.no : Slot), (.no : Slot), (.no : Slot), (.no : Slot))) (L := (some (List.zip p1.2.2.2 demands'))) (ea := (e2 eI eI)) (Bd := (fun i7 s5 => ((some (s5.1 + i7.1)).bind fun there_8 => ((some (min2 i7.2 there_8)).bind fun given_11 => ((some (min2 p1.1 (there_8 - given_11))).bind fun held_16 => ((appO s5.2 (given_11, ((there_8 - given_11) - held_16), held_16)).bind fun months_27 => some (held_16, months_27))))))) rfl (i_zip (A := (some p1.2.2.2)) (B := (some demands')) (ea := eI) (eb := eI) (fun _ _ => rfl) (t_var (i := 5) (e := (eR eI)) (v := p1.2.2.2) rfl) (t_var (i := 1) (e := (eR eI)) (v := demands') rfl)) (fun i7 s5 z6 => ⟨[.dat ((e4 eI eI eI (eR eI)) dam'), .dat ((eR eI) demands'), .dat (eI p1.1), .dat (eI s5.1), .dat (eI p1.2.2.1), .dat ((eR eI) p1.2.2.2), .own (List.map (e3 eI eI eI) s5.2), .dat (eI i7.1), .dat (eI i7.2), z6.2.2.1, z6.2.2.2], rfl, (n_seq_set (i := 9) (A := (some (s5.1 + i7.1))) (t_f2 (A := (some s5.1)) (B := (some i7.1)) (h := (fun x9 y10 => some (x9 + y10))) g_add (t_var (i := 3) (e := eI) (v := s5.1) rfl) (t_var (i := 7) (e := eI) (v := i7.1) rfl)) (lt_of rfl) (fun there_8 => (n_seq_set (i := 10) (A := (some (min2 i7.2 there_8))) (t_f2 (A := (some i7.2)) (B := (some there_8)) (h := (fun x14 y15 => some (min2 x14 y15))) g_min2 (t_var (i := 8) (e := eI) (v := i7.2) rfl) (t_var (i := 9) (e := eI) (v := there_8) rfl)) (lt_of rfl) (fun given_11 => (n_seq_set (i := 3) (A := (some (min2 p1.1 (there_8 - given_11)))) (t_f2 (A := (some p1.1)) (B := (some (there_8 - given_11))) (h := (fun x21 y22 => some (min2 x21 y22))) g_min2 (t_var (i := 2) (e := eI) (v := p1.1) rfl) (t_f2 (A := (some there_8)) (B := (some given_11)) (h := (fun x17 y18 => some (x17 - y18))) g_sub (t_var (i := 9) (e := eI) (v := there_8) rfl) (t_var (i := 10) (e := eI) (v := given_11) rfl))) (lt_of rfl) (fun held_16 => (n_app (i := 6) (A := (some (given_11, ((there_8 - given_11) - held_16), held_16))) (v := s5.2) (K := fun months_27 => (held_16, months_27)) (t_tup3 (A := (some given_11)) (B := (some ((there_8 - given_11) - held_16))) (C := (some held_16)) (t_var (i := 10) (e := eI) (v := given_11) rfl) (t_f2 (A := (some (there_8 - given_11))) (B := (some held_16)) (h := (fun x25 y26 => some (x25 - y26))) g_sub (t_f2 (A := (some there_8)) (B := (some given_11)) (h := (fun x23 y24 => some (x23 - y24))) g_sub (t_var (i := 9) (e := eI) (v := there_8) rfl) (t_var (i := 10) (e := eI) (v := given_11) rfl)) (t_var (i := 3) (e := eI) (v := held_16) rfl)) (t_var (i := 3) (e := eI) (v := held_16) rfl)) rfl (fun months_27 => ⟨((.dat (eI i7.1) : Slot), (.dat (eI i7.2) : Slot), (.dat (eI there_8) : Slot), (.dat (eI given_11) : Slot)), rfl⟩))))))))⟩)) (fun s29 z30 => (r_ret (A := (some s29.2)) (t_f1 (A := (some s29.2)) (h := (fun x31 => some x31)) g_tupL (t_own (i := 6) (e := (e3 eI eI eI)) (v := s29.2) rfl)))))))))
def N_run (dam' : (Int × Int × Int × (List Int))) (demands' : (List Int)) : Option (List (Int × Int × Int)) := ((N_check_dam dam').bind fun _ => ((N_check_demands demands' ((dam'.2.2.2).length : Int)).bind fun _ => (N_run_months dam' demands')))
theorem t_run (dam' : (Int × Int × Int × (List Int))) (demands' : (List Int)) : S_run [(e4 eI eI eI (eR eI)) dam', (eR eI) demands'] = (N_run dam' demands').map (eR (e3 eI eI eI)) := d_run (r_seq_expr (A := (N_check_dam dam')) (t_call1 (A := (some dam')) (N := N_check_dam) t_check_dam (t_var (i := 0) (e := (e4 eI eI eI (eR eI))) (v := dam') rfl)) (r_seq_expr (A := (N_check_demands demands' ((dam'.2.2.2).length : Int))) (t_call2 (A := (some demands')) (B := (some ((dam'.2.2.2).length : Int))) (N := N_check_demands) t_check_demands (t_var (i := 1) (e := (eR eI)) (v := demands') rfl) (t_f1 (A := (some dam'.2.2.2)) (h := (fun x2 => some ((x2).length : Int))) g_lenR (t_ixc (A := (some dam')) (k := 3) (pr := fun x1 => x1.2.2.2) (eb := (eR eI)) (fun _ => rfl) (t_var (i := 0) (e := (e4 eI eI eI (eR eI))) (v := dam') rfl)))) (r_ret (A := (N_run_months dam' demands')) (t_call2 (A := (some dam')) (B := (some demands')) (N := N_run_months) t_run_months (t_var (i := 0) (e := (e4 eI eI eI (eR eI))) (v := dam') rfl) (t_var (i := 1) (e := (eR eI)) (v := demands') rfl)))))
def N_check_dam_and_demands (dam' : (Int × Int × Int × (List Int))) (demands' : (List Int)) : Option Unit := ((N_check_dam dam').bind fun _ => ((N_check_demands demands' ((dam'.2.2.2).length : Int)).bind fun _ => some ())).bind fun _ => some ()
theorem t_check_dam_and_demands (dam' : (Int × Int × Int × (List Int))) (demands' : (List Int)) : S_check_dam_and_demands [(e4 eI eI eI (eR eI)) dam', (eR eI) demands'] = (N_check_dam_and_demands dam' demands').map eU := d_runN (env := (fun (s : Unit) (z : Unit) => [.dat ((e4 eI eI eI (eR eI)) dam'), .dat ((eR eI) demands')])) (n_seq_expr (A := (N_check_dam dam')) (t_call1 (A := (some dam')) (N := N_check_dam) t_check_dam (t_var (i := 0) (e := (e4 eI eI eI (eR eI))) (v := dam') rfl)) (n_expr (A := (N_check_demands demands' ((dam'.2.2.2).length : Int))) (s := ()) (z := ()) (t_call2 (A := (some demands')) (B := (some ((dam'.2.2.2).length : Int))) (N := N_check_demands) t_check_demands (t_var (i := 1) (e := (eR eI)) (v := demands') rfl) (t_f1 (A := (some dam'.2.2.2)) (h := (fun x2 => some ((x2).length : Int))) g_lenR (t_ixc (A := (some dam')) (k := 3) (pr := fun x1 => x1.2.2.2) (eb := (eR eI)) (fun _ => rfl) (t_var (i := 0) (e := (e4 eI eI eI (eR eI))) (v := dam') rfl)))) rfl))
def N_all_given (dam' : (Int × Int × Int × (List Int))) (demands' : (List Int)) : Option (List Int) := (((N_run_months dam' demands').bind fun l => compL (fun (i1 : (Int × Int × Int)) => (some true)) (fun (i1 : (Int × Int × Int)) => (some i1.1)) l).bind (fun x3 => some x3))
theorem t_all_given (dam' : (Int × Int × Int × (List Int))) (demands' : (List Int)) : S_all_given [(e4 eI eI eI (eR eI)) dam', (eR eI) demands'] = (N_all_given dam' demands').map (eR eI) := d_run (r_ret (A := (((N_run_months dam' demands').bind fun l => compL (fun (i1 : (Int × Int × Int)) => (some true)) (fun (i1 : (Int × Int × Int)) => (some i1.1)) l).bind (fun x3 => some x3))) (t_f1 (A := ((N_run_months dam' demands').bind fun l => compL (fun (i1 : (Int × Int × Int)) => (some true)) (fun (i1 : (Int × Int × Int)) => (some i1.1)) l)) (h := (fun x3 => some x3)) g_tupL (t_lc (L := (N_run_months dam' demands')) (ea := (e3 eI eI eI)) (eb := eI) (T := fun (i1 : (Int × Int × Int)) => (some true)) (Bf := fun (i1 : (Int × Int × Int)) => (some i1.1)) (i_seqR (A := (N_run_months dam' demands')) (e := (e3 eI eI eI)) (t_call2 (A := (some dam')) (B := (some demands')) (N := N_run_months) t_run_months (t_var (i := 0) (e := (e4 eI eI eI (eR eI))) (v := dam') rfl) (t_var (i := 1) (e := (eR eI)) (v := demands') rfl))) (fun i1 => ⟨[.dat ((e4 eI eI eI (eR eI)) dam'), .dat ((eR eI) demands'), .dat ((e3 eI eI eI) i1)], rfl, t_yes, (t_ixc (A := (some i1)) (k := 0) (pr := fun x2 => x2.1) (eb := eI) (fun _ => rfl) (t_var (i := 2) (e := (e3 eI eI eI)) (v := i1) rfl))⟩))))
def N_total_lack (dam' : (Int × Int × Int × (List Int))) (demands' : (List Int)) : Option Int := ((N_check_dam_and_demands dam' demands').bind fun _ => ((some (List.sum demands')).bind fun x3 => ((N_all_given dam' demands').bind (fun x2 => some (List.sum x2))).bind fun y4 => some (x3 - y4)))
theorem t_total_lack (dam' : (Int × Int × Int × (List Int))) (demands' : (List Int)) : S_total_lack [(e4 eI eI eI (eR eI)) dam', (eR eI) demands'] = (N_total_lack dam' demands').map eI := d_run (r_seq_expr (A := (N_check_dam_and_demands dam' demands')) (t_call2 (A := (some dam')) (B := (some demands')) (N := N_check_dam_and_demands) t_check_dam_and_demands (t_var (i := 0) (e := (e4 eI eI eI (eR eI))) (v := dam') rfl) (t_var (i := 1) (e := (eR eI)) (v := demands') rfl)) (r_ret (A := ((some (List.sum demands')).bind fun x3 => ((N_all_given dam' demands').bind (fun x2 => some (List.sum x2))).bind fun y4 => some (x3 - y4))) (t_f2 (A := (some (List.sum demands'))) (B := ((N_all_given dam' demands').bind (fun x2 => some (List.sum x2)))) (h := (fun x3 y4 => some (x3 - y4))) g_sub (t_f1 (A := (some demands')) (h := (fun x1 => some (List.sum x1))) g_sumR (t_var (i := 1) (e := (eR eI)) (v := demands') rfl)) (t_f1 (A := (N_all_given dam' demands')) (h := (fun x2 => some (List.sum x2))) g_sumR (t_call2 (A := (some dam')) (B := (some demands')) (N := N_all_given) t_all_given (t_var (i := 0) (e := (e4 eI eI eI (eR eI))) (v := dam') rfl) (t_var (i := 1) (e := (eR eI)) (v := demands') rfl))))))
end Ty
set_option Elab.async false
set_option linter.all false
set_option maxRecDepth 100000
set_option maxHeartbeats 4000000
namespace DN
open PySem PySem.Spec PyProof.Rows L2
/-! targets = x.pop(), x a list of the def's own -/
def sPop (i : Nat) (b : PyData → En → Option En) : En → Option Fl := fun en => match en[i]? with
  | some (.own ds) => ds.getLast?.bind fun d => (b d (en.set i (.own ds.dropLast))).map .nx
  | _ => none
theorem DpAll.last {K : PySem.W.Frag} {H : Hp} : ∀ {vs : List V} {ds : List PyData} {d : PyData}, DpAll K H vs ds → ds.getLast? = some d → ∃ v, vs[vs.length - 1]? = some v ∧ Dp K H v d ∧ DpAll K H vs.dropLast ds.dropLast
  | [], [], d, _, h => by cases h
  | [v], [e], d, .cons q .nil, h => by
    cases h
    exact ⟨v, rfl, q, .nil⟩
  | v :: v2 :: vs, e :: e2 :: ds, d, .cons q t, h => by
    rw [List.getLast?_cons_cons] at h
    obtain ⟨u, h1, h2, h3⟩ := DpAll.last t h
    refine ⟨u, ?_, h2, .cons q h3⟩
    simpa using h1
  | [v], _ :: _ :: _, d, .cons q t, h => by cases t
  | _ :: _ :: _, [_], d, .cons q t, h => by cases t
section
variable {X : Cx} {Ts : TsT} {pos : Pos}
theorem s_pop {tg : Expr} {vs : List Nat} {b : PyData → En → Option En} {i : Nat} {x : Str} {px ap cpos : Pos} (hg : DG X Ts tg vs b) (hN : X.N[i]? = some x := by rfl) (hv : Vis X.env.scope x := by first | exact Or.inl rfl | exact Or.inr (Or.inl rfl) | exact Or.inr (Or.inr rfl)) (hd : (x == ("__debug__" : Str)) = false := by decide) (hcd : (x == ("__classdict__" : Str)) = false := by decide)
    (hbase : attributeBase (.Name x px) "pop" X.env (eval (.Name x px) X.env) = eval (.Name x px) X.env := by rfl) (hline : (ap.endLine == cpos.line) = true := by rfl)
    (hs : swapsWithSole [tg] (.Call (.Attribute (.Name x px) "pop" ap) [] [] cpos) pos.line X.env = pure false := by rfl) (hw : swappedStores [tg] (.Call (.Attribute (.Name x px) "pop" ap) [] [] cpos) X.env = pure none := by rfl)
    (h1 : (assignEach [tg] X.env).map (·.2) = [assign tg X.env] := by rfl) : DS X Ts (.Assign [tg] (.Call (.Attribute (.Name x px) "pop" ap) [] [] cpos) pos) (sPop i b) :=
  PS.imp (ps_asg (pe_bm0 PySem.F.plainAttrs_list PySem.F.slot_list_pop PySem.F.type_list_pop mt_pop (pe_var hN hv hd hcd) hbase hline) hg hs hw h1) fun D σ H ⟨He, O₀, Vz, en, r, rp, hf, k⟩ => by
    unfold sPop at hf
    split at hf
    · rename_i ds hd
      obtain ⟨d, g1, g2⟩ := Option.bind_eq_some_iff.mp hf
      obtain ⟨e1, g3, rfl⟩ := Option.map_eq_some_iff.mp g2
      clear hf g2
      obtain ⟨O, a1, a2, rp, xv⟩ := rp
      obtain ⟨a, vs', p1, p2, p3, p4, p5⟩ := rp.own i ds hd
      have hi : i < en.length := (List.getElem?_eq_some_iff.mp hd).1
      obtain ⟨y, y1, y2, y3⟩ := DpAll.last p5 g1
      have hu : Xt (hide H O) (hide (upd H a (.lst vs'.dropLast)) O) := hide_upd p2
      have rq : Rep X.K Ts He O σ (upd H a (.lst vs'.dropLast)) (en.set i (.own ds.dropLast)) := by
        refine ⟨by simp [rp.len], fun j d' h => ?_, fun j es h => ?_, fun j kk es es' aa h1 h2 h3 h4 => ?_, fun b hb => ?_, fun b o e => ?_, rp.tabs.upd fun u z => by rw [p4] at z; cases z; exact lst_noc⟩
        · have hj : i ≠ j := fun z => by subst z; rw [List.getElem?_set_self hi] at h; cases h
          rw [List.getElem?_set_ne hj] at h
          obtain ⟨u, q1, q2⟩ := rp.dat j d' h
          exact ⟨u, q1, Dp.mono hu q2⟩
        · by_cases hj : i = j
          · subst hj
            rw [List.getElem?_set_self hi] at h
            cases h
            exact ⟨a, vs'.dropLast, p1, p2, p3, upd_same, DpAll.mono hu y3⟩
          · rw [List.getElem?_set_ne hj] at h
            obtain ⟨a', vs'', q1, q2, q3, q4, q5⟩ := rp.own j es h
            have hne : a' ≠ a := fun z => hj (by subst z; exact rp.inj i j ds es a' hd h p1 q1)
            exact ⟨a', vs'', q1, q2, q3, by rw [upd_ne hne]; exact q4, DpAll.mono hu q5⟩
        · have toOwn : ∀ (j : Nat) (es : List PyData), (en.set i (Slot.own ds.dropLast))[j]? = some (Slot.own es) → ∃ es', en[j]? = some (Slot.own es') := fun j es h => by
            by_cases hj : i = j
            · subst hj; exact ⟨ds, hd⟩
            · rw [List.getElem?_set_ne hj] at h; exact ⟨es, h⟩
          obtain ⟨e1, g1⟩ := toOwn j es h1
          obtain ⟨e2, g2⟩ := toOwn kk es' h2
          exact rp.inj j kk e1 e2 aa g1 g2 h3 h4
        · by_cases z : b = a
          · rw [z, upd_same]
            exact ⟨by simp, fun ps z => nomatch z⟩
          · rw [upd_ne z]
            exact rp.occ b hb
        · have hne : b ≠ a := fun z => by rw [z, p3] at e; cases e
          rw [upd_ne hne]
          exact rp.ext b o e
      refine ⟨.ref a, p1, .inl ⟨rfl, _, .inl (.inl p4)⟩, a, vs', y, rfl, rfl, p4, y1, ?_⟩
      exact ⟨He, O, _, d, e1, rq, Dp.mono hu y2, g3, fun σ' r' _ => k σ' _ ⟨O, a1, a2, r', xv.trans hu⟩⟩
    · cases hf
end
/-! comparisons of a list of the def's own -/
theorem DpB.toDp {K : PySem.W.Frag} {H : Hp} {O : List Addr} {v : V} {d : PyData} (q : DpB K H O v d) : Dp K H v d := by
  rcases q with q | ⟨a, vs, ds, rfl, rfl, h1, h2⟩
  · exact Dp.mono hide_out q
  · exact .lst (.inl (.inl h1)) (DpAll.mono hide_out h2)
section
variable {X : Cx} {Ts : TsT} {a b c d : Expr} {pos : Pos} {fa fb fc fd : En → Option PyData}
theorem w_eqB {K : PySem.W.Frag} : ∀ σ H Q, tD K Ts (fEq fa fb) σ H Q → tOp (rEqD K) (tB K Ts fa) (tD K Ts fb) σ H Q := fun σ H Q ⟨He, O, en, z, rp, hf, kk⟩ => by
  obtain ⟨x, h1, hf1⟩ := Option.bind_eq_some_iff.mp hf
  obtain ⟨y, h2, hg⟩ := Option.bind_eq_some_iff.mp hf1
  refine tB.of rp h1 fun v H1 x1 r1 q1 => tD.of r1 h2 fun w H2 x2 r2 q2 => ?_
  unfold gEq at hg
  split at hg
  · rename_i hs
    rw [Bool.and_eq_true] at hs
    cases hg
    exact ⟨x, y, Dp.mono x2 q1.toDp, Dp.mono hide_out q2, hs.1, hs.2, kk _ H2 (x1.trans x2) r2.tabs (.bl _)⟩
  · cases hg
theorem w_neB {K : PySem.W.Frag} : ∀ σ H Q, tD K Ts (fNe fa fb) σ H Q → tOp (rNeD K) (tB K Ts fa) (tD K Ts fb) σ H Q := fun σ H Q ⟨He, O, en, z, rp, hf, kk⟩ => by
  obtain ⟨x, h1, hf1⟩ := Option.bind_eq_some_iff.mp hf
  obtain ⟨y, h2, hg⟩ := Option.bind_eq_some_iff.mp hf1
  refine tB.of rp h1 fun v H1 x1 r1 q1 => tD.of r1 h2 fun w H2 x2 r2 q2 => ?_
  unfold gNe at hg
  split at hg
  · rename_i hs
    rw [Bool.and_eq_true] at hs
    cases hg
    exact ⟨x, y, Dp.mono x2 q1.toDp, Dp.mono hide_out q2, hs.1, hs.2, kk _ H2 (x1.trans x2) r2.tabs (.bl _)⟩
  · cases hg
theorem b_eq {k : Nat} (hr : Room k X.A) (ha : DB X Ts a fa) (hb : DE X Ts b fb) : DE X Ts (.Compare a [.Eq] [b] pos) (fEq fa fb) := PE.imp (pe_cmpR (op_eqD hr.units) ha hb (nomark _)) w_eqB
theorem b_ne {k : Nat} (hr : Room k X.A) (ha : DB X Ts a fa) (hb : DE X Ts b fb) : DE X Ts (.Compare a [.NotEq] [b] pos) (fNe fa fb) := PE.imp (pe_cmpR (op_neD hr.units) ha hb (nomark _)) w_neB
theorem bt_eq {k : Nat} (hr : Room k X.A) (ha : DB X Ts a fa) (hb : DE X Ts b fb) : DT X Ts (.Compare a [.Eq] [b] pos) (fT (fEq fa fb)) := dt_of (pt_cmpR (op_eqD hr.units) ha hb (nomark _)) w_eqB
theorem bt_ne {k : Nat} (hr : Room k X.A) (ha : DB X Ts a fa) (hb : DE X Ts b fb) : DT X Ts (.Compare a [.NotEq] [b] pos) (fT (fNe fa fb)) := dt_of (pt_cmpR (op_neD hr.units) ha hb (nomark _)) w_neB
/-! a <= b <= c < d -/
theorem d_lelelt (ha : DE X Ts a fa) (hb : DE X Ts b fb) (hc : DE X Ts c fc) (hd : DE X Ts d fd) (hm : lastMarks [.LtE, .LtE, .Lt] [b, c, d] = false := by with_unfolding_all rfl) :
    DE X Ts (.Compare a [.LtE, .LtE, .Lt] [b, c, d] pos) (fChain3 gLe gLe gLt fa fb fc fd) := PE.imp (pe_chain3 op_le op_le op_lt ha hb hc hd hm) w_chain3
theorem pt_chain3 {ta tb tc td : TE} {op op' op'' : CmpOp} {r r' r'' : R2} (ho : OpR X (compareOp op) r) (ho' : OpR X (compareOp op') r') (ho'' : OpR X (compareOp op'') r'') (ha : PE X a ta) (hb : PE X b tb) (hc : PE X c tc) (hd : PE X d td)
    (hm : lastMarks [op, op', op''] [b, c, d] = false := by with_unfolding_all rfl) : PT X (.Compare a [op, op', op''] [b, c, d] pos) (tTest (tChain3 r r' r'' ta tb tc td)) := by
  refine ⟨fun pins s σ H Q I h => ?_⟩
  refine isTrue_chain (thn (ha.run pins s σ H _ I h) fun v s1 ⟨x, H1, I1, r1, q1⟩ => test_link (thn (hb.run pins s1 σ H1 _ I1 q1) fun u s2 ⟨y, H2, I2, r2, q2⟩ =>
    thn (ho pins s2 σ H2 x y v u _ I2 r1 r2 q2) fun d s3 ⟨z, H3, I3, r3, k, e, q3⟩ => ?_)) hm
  subst e
  cases r3
  refine wpAny_truthy_bool ?_
  cases k with
  | false =>
    obtain ⟨k', e', q'⟩ := q3
    cases e'
    exact ite_ff ⟨H3, I3, q'⟩
  | true =>
    refine ite_tt (test_link (thn (hc.run pins s3 σ H3 _ I3 q3) fun w' s4 ⟨z', H4, I4, r4, q4⟩ => thn (ho' pins s4 σ H4 y z' u w' _ I4 r2 r4 q4) fun d5 s5 ⟨z5, H5, I5, r5, k5, e5, q5⟩ => ?_))
    subst e5
    cases r5
    refine wpAny_truthy_bool ?_
    cases k5 with
    | false =>
      obtain ⟨k', e', q'⟩ := q5
      cases e'
      exact ite_ff ⟨H5, I5, q'⟩
    | true =>
      refine ite_tt (test_last (thn (hd.run pins s5 σ H5 _ I5 q5) fun w6 s6 ⟨z6, H6, I6, r6, q6⟩ => thn (ho'' pins s6 σ H6 z' z6 w' w6 _ I6 r4 r6 q6) fun d7 s7 ⟨z7, H7, I7, r7, k7, e7, q7⟩ => ?_))
      subst e7
      cases r7
      exact wpAny_truthy_bool ⟨H7, I7, q7⟩
theorem dt_lelelt (ha : DE X Ts a fa) (hb : DE X Ts b fb) (hc : DE X Ts c fc) (hd : DE X Ts d fd) (hm : lastMarks [.LtE, .LtE, .Lt] [b, c, d] = false := by with_unfolding_all rfl) :
    DT X Ts (.Compare a [.LtE, .LtE, .Lt] [b, c, d] pos) (fT (fChain3 gLe gLe gLt fa fb fc fd)) := dt_of (pt_chain3 op_le op_le op_lt ha hb hc hd hm) w_chain3
end
end DN
set_option Elab.async false
set_option linter.all false
set_option maxRecDepth 100000
set_option maxHeartbeats 4000000
namespace HT
open PySem PySem.Spec PyProof.Rows
section
variable {prog : Program} {w : World} {A : Around} {E : Value → Shared → Prop} {s : Shared}
theorem places_rev (n : Nat) : Builtin.Slice.slicePlaces ((n : Int) - 1) (-1) (-1) = n := by
  unfold Builtin.Slice.slicePlaces
  have h1 : ¬ ((-1 : Int) > 0) := by omega
  have h2 : -(-1 : Int) = 1 := by omega
  simp only [h1, if_false, h2, Int.ediv_one]
  split <;> omega
theorem sliceApplied_rev {sl : Addr} {vs : Value} {n : Nat} {Q : Int × Int × Nat → Shared → Prop} (hs : s.heap.IsSliceOf sl .none .none vs) (ps : IsPart vs (some (-1)))
    (h : Q ((n : Int) - 1, -1, n) s) : wpAny (model prog w) A (Builtin.Slice.sliceApplied (.ref sl) (pure (n : Int))) Q E s := by
  obtain ⟨os, hos, hcs, hds⟩ := id hs
  unfold Builtin.Slice.sliceApplied Builtin.Slice.sliceFields
  refine wpAny_bind (wpAny_bind (wpAny_field hos hds (x := .none) rfl (wpAny_bind (wpAny_field hos hds (x := .none) rfl (wpAny_bind (wpAny_field hos hds (x := vs) rfl (wpAny_pure ?_)))))))
  refine wpAny_bind (slicePart_ ps ?_)
  show wpAny _ _ (if ((-1 : Int) == 0) = true then _ else _) _ _ s
  rw [if_neg (by decide)]
  refine wpAny_bind (slicePart_none (wpAny_bind (slicePart_none (wpAny_bind (wpAny_pure ?_)))))
  show wpAny _ _ (pure ((n : Int) - 1, (-1 : Int), Builtin.Slice.slicePlaces ((n : Int) - 1) (-1) (-1))) _ _ s
  rw [places_rev]
  exact wpAny_pure h
theorem fm_congr {α β : Type} {f g : α → Option β} : ∀ l : List α, (∀ x ∈ l, f x = g x) → l.filterMap f = l.filterMap g
  | [], _ => rfl
  | a :: r, h => by
    rw [List.filterMap_cons, List.filterMap_cons, h a List.mem_cons_self, fm_congr r fun x hx => h x (List.mem_cons_of_mem _ hx)]
theorem pick_rev (xs : Array Value) : ((List.range xs.size).filterMap fun (m : Nat) => xs[((xs.size : Int) - 1 + (m : Int) * (-1)).toNat]?).toArray = xs.toList.reverse.toArray := by
  congr 1
  have key : ∀ l : List Value, (List.range l.length).filterMap (fun (m : Nat) => l[((l.length : Int) - 1 + (m : Int) * (-1)).toNat]?) = l.reverse := fun l => by
    have e : ∀ m ∈ List.range l.length, l[((l.length : Int) - 1 + (m : Int) * (-1)).toNat]? = some (l.reverse[m]?.getD .none) := fun m hm => by
      have hm := List.mem_range.mp hm
      rw [List.getElem?_reverse hm]
      have e1 : ((l.length : Int) - 1 + (m : Int) * (-1)).toNat = l.length - 1 - m := by omega
      rw [e1, List.getElem?_eq_getElem (by omega)]
      rfl
    rw [fm_congr _ e, show (fun m : Nat => some (l.reverse[m]?.getD Value.none)) = some ∘ (fun m : Nat => l.reverse[m]?.getD Value.none) from rfl, List.filterMap_eq_map]
    refine List.ext_getElem (by simp) fun i h1 h2 => ?_
    simp at h2
    rw [List.getElem_map, List.getElem_range, List.getElem?_eq_getElem (by simpa using h2)]
    rfl
  have := key xs.toList
  simpa using this
theorem getItem_tuple_rev {t sl : Addr} {items : Array Value} {vs : Value} {Q : Value → Shared → Prop} (ht : IsTup s.heap t items) (hs : s.heap.IsSliceOf sl .none .none vs) (ps : IsPart vs (some (-1)))
    (h : Q (.ref s.heap.objs.size) { s with heap := s.heap.push { cls := .type "tuple", data := .seq items.toList.reverse.toArray } })
    (hsz : items.size ≤ sizeLine) : wpAny (model prog w) A (getItem (.ref t) (.ref sl)) Q E s := by
  have htake : sizeOk (.seq items.toList.reverse.toArray) := by
    show items.toList.reverse.toArray.size ≤ sizeLine
    rw [List.size_toArray, List.length_reverse, Array.length_toList]
    exact hsz
  obtain ⟨os, hos, hcs, hds⟩ := id hs
  have hTs : s.TypeIs (.ref sl) "slice" := ⟨os, hos, hcs⟩
  unfold getItem
  try with_reducible refine wpAny_holding ?_
  first | refine wpAny_bind (wpAny_pure ?_) | skip
  refine wpAny_bind (wpAny_sequenceKey ht.typeIs (by decide) ?_)
  refine wpAny_bind (wpAny_callSpecial?_slot (name := Str.ofString "__getitem__") ht.typeIs PyProof.Rows.slot_tuple_getitem
    (wpAny_call_entry PyProof.Rows.slot_tuple_getitem ht.typeIs entry_tuple_getitem ?_ (args_tuple_getitem _ _)))
  show wpAny _ _ (Builtin.Tuple.tupleItemsOf (.ref t) >>= _) _ _ s
  refine wpAny_bind (tupleItemsOf_ ht ?_)
  refine wpAny_bind (wpAny_typeOf hTs ?_)
  rw [if_pos (by decide)]
  refine wpAny_bind (sliceApplied_rev hs ps ?_)
  have hno : ¬ (((items.size : Int) - 1 == 0 && (-1 : Int) == 1 && items.size == items.size) = true) := by
    intro q
    rw [Bool.and_eq_true, Bool.and_eq_true] at q
    exact absurd q.1.2 (by decide)
  show wpAny _ _ (if (((items.size : Int) - 1 == 0 && (-1 : Int) == 1 && items.size == items.size)) = true then _ else _) _ _ s
  rw [if_neg hno, pick_rev]
  first
    | exact wpAny_bind (m := Builtin.Tuple.tupleExact _) (wpAny_newObj_type (wpAny_pure ⟨_, rfl, wpAny_pure h⟩) htake)
    | exact wpAny_bind (m := Builtin.Tuple.tupleExact _) (wpAny_newObj_type (wpAny_bind (wpAny_pure (wpAny_pure ⟨_, rfl, wpAny_pure h⟩))) htake)
    | exact wpAny_bind (wpAny_bind (m := Builtin.Tuple.tupleExact _) (wpAny_newObj_type (wpAny_pure (wpAny_pure ⟨_, rfl, wpAny_pure h⟩)) htake))
    | exact wpAny_bind (wpAny_bind (m := Builtin.Tuple.tupleExact _) (wpAny_newObj_type (wpAny_pure ⟨_, rfl, wpAny_pure h⟩) htake))
end
end HT
namespace DN
open PySem PySem.Spec PyProof.Rows L2
/-! xs[::-1] of a list or a tuple -/
def tRevX (K : PySem.W.Frag) (te : TE) : TE := fun σ H Q => te σ H fun x H1 => ∃ a xs, x = .ref a ∧ ((SqL K H1 a xs ∧ ∀ p, H1 p = none → Q (.ref p) (upd H1 p (.lst xs.reverse))) ∨ (SqT K H1 a xs ∧ ∀ p, H1 p = none → Q (.ref p) (upd H1 p (.tup xs.reverse))))
section
variable {X : Cx} {Ts : TsT} {e : Expr} {f : En → Option PyData}
theorem pe_revX {te : TE} {k : Nat} {p1 p2 p3 pos : Pos} (he : PE X e te) : PE X (.Subscript e (.Slice none none (some (.UnaryOp .USub (.Constant (.int 1) k p1) p2)) p3) pos) (tRevX X.K te) := by
  refine ⟨fun pins s σ H Q I h => ?_⟩
  refine Subscript_ (thn (he.run pins s σ H _ I h) fun v s1 ⟨x, H1, I1, r1, q1⟩ => ?_)
  obtain ⟨a, xs, ex, q⟩ := q1
  subst ex
  cases r1
  have hst : PO X (some (.UnaryOp .USub (.Constant (.int 1) k p1) p2)) (tPart (tUn (rU fun i => .int (-i)) (tC (.int 1)))) := po_some (pe_un un_neg pe_int)
  refine wpAny_Slice (thn (po_none.run pins s1 σ H1 (fun o H2 => o = none ∧ H2 = H1) I1 ⟨rfl, rfl⟩) fun vl s2 ⟨l, H2, I2, pl, el, e2⟩ => ?_)
  subst el e2
  refine thn (po_none.run pins s2 σ H2 (fun o H3 => o = none ∧ H3 = H2) I2 ⟨rfl, rfl⟩) fun vu s3 ⟨u, H3, I3, pu, eu, e3⟩ => ?_
  subst eu e3
  refine thn (hst.run pins s3 σ H3 (fun o H4 => o = some (-1) ∧ H4 = H3) I3 ⟨1, rfl, -1, rfl, rfl, rfl⟩) fun vs s4 ⟨o, H4, I4, ps, eo, e4⟩ => ?_
  subst eo e4
  have I5 : Inv X pins σ H4 { s4 with heap := s4.heap.push { cls := .type "slice", data := .fields #[vl, vu, vs] } } := I4.kept (t' := s4.toks) fun b ob q => Heap.get?_push_of_some _ q
  show wpAny (model X.prog X.w) X.A (subscriptTail e (.Slice none none (some (.UnaryOp .USub (.Constant (.int 1) k p1) p2)) p3) (.ref a) (.ref s4.heap.objs.size)) (EP X pins σ Q) X.xe { s4 with heap := s4.heap.push { cls := .type "slice", data := .fields #[vl, vu, vs] } }
  rcases q with ⟨hx, q⟩ | ⟨hx, q⟩
  · obtain ⟨its, r, ht, hz⟩ := I5.list hx
    have hlen := r.length
    refine tail_any (ops := [.ref a, .ref s4.heap.objs.size]) ht.isList.typeIs (PySem.slot_list_getitem.lookup) ?_ (by with_unfolding_all rfl)
    refine wpAny_getItem_list_slice ht.isList (Heap.IsSliceOf.new _ vl vu vs) pl pu ps (by decide) ?_ (by rw [List.size_toArray]; omega)
    rw [PySem.W.krv_pick]
    refine ⟨.ref _, _, I5.laid (t' := s4.toks) (o := .lst xs.reverse) (fun b ob q => Heap.get?_push_of_some _ q) (Nat.le_refl _) ?_, rfl, q _ (I5.hok.fresh (Nat.le_refl _))⟩
    exact ⟨by rw [List.length_reverse]; exact hz, _, 0, r.reverse, Heap.get?_push_size _ rfl⟩
  · obtain ⟨its, r, ht, hz⟩ := I5.tuple hx
    have hlen := r.length
    cases pl
    cases pu
    refine tail_any (ops := [.ref a, .ref s4.heap.objs.size]) ht.typeIs (PyProof.Rows.slot_tuple_getitem.lookup) ?_ (by with_unfolding_all rfl)
    refine HT.getItem_tuple_rev ht (Heap.IsSliceOf.new _ .none .none vs) ps ?_ (by rw [List.size_toArray]; omega)
    refine ⟨.ref _, _, I5.laid (t' := s4.toks) (o := .tup xs.reverse) (fun b ob q => Heap.get?_push_of_some _ q) (Nat.le_refl _) ?_, rfl, q _ (I5.hok.fresh (Nat.le_refl _))⟩
    exact ⟨by rw [List.length_reverse]; exact hz, _, r.reverse, IsTup.new _ _⟩
def gRevX : PyData → Option PyData
  | .list ds => some (.list ds.reverse)
  | .tuple ds => some (.tuple ds.reverse)
  | _ => none
theorem b_revX {k : Nat} {p1 p2 p3 pos : Pos} (ha : DB X Ts e f) : DE X Ts (.Subscript e (.Slice none none (some (.UnaryOp .USub (.Constant (.int 1) k p1) p2)) p3) pos) (f1 gRevX f) := PE.imp (pe_revX ha) fun σ H Q ⟨He, O, en, d, rp, hf, kk⟩ => by
  unfold f1 at hf
  obtain ⟨x, h1, h4⟩ := Option.bind_eq_some_iff.mp hf
  refine tB.of rp h1 fun v H1 x1 r1 q1 => ?_
  cases x <;> simp only [gRevX] at h4 <;> cases h4
  · obtain ⟨a, vs, rfl, s, qs⟩ := q1.lst
    exact ⟨a, vs, rfl, .inl ⟨s, fun p np => kk _ _ (x1.trans (Xt.upd np)) (r1.tabs.new np) (lst_new np (new_out r1.occ np) (dpAll_rev qs))⟩⟩
  · obtain ⟨a, vs, rfl, s, qs⟩ := q1.tup
    exact ⟨a, vs, rfl, .inr ⟨s, fun p np => kk _ _ (x1.trans (Xt.upd np)) (r1.tabs.new np) (tup_new np (new_out r1.occ np) (dpAll_rev qs))⟩⟩
end
end DN
set_option Elab.async false
set_option linter.all false
set_option maxRecDepth 100000
set_option maxHeartbeats 4000000
namespace Ty
open PySem PySem.Spec PyProof.Rows L2 DN
universe u
section
variable {α β γ σ τ ζ ξ : Type} {en : En} {f g : En → Option PyData} {F G : En → Option Fl} {ea : α → PyData} {i j : Nat} {env : σ → ζ → En}
def popK (v : List α) (K : α → List α → Option σ) : Option σ := match v.getLast? with
  | some x => K x v.dropLast
  | none => none
theorem n_seq_pop {v : List α} {b : PyData → En → Option En} {envb : α → List α → En} {K : α → List α → Option σ} (ho : en[i]? = some (.own (v.map ea))) (hb : ∀ x (w : List α), b (ea x) (en.set i (.own (w.map ea))) = some (envb x w)) (q : ∀ x w, NX (G (envb x w)) (K x w) env) : NX (sSeq (sPop i b) G en) (popK v K) env := by
  unfold sSeq sPop popK
  rw [ho]
  show NX (match ((v.map ea).getLast?.bind fun d => (b d (en.set i (.own (v.map ea).dropLast))).map Fl.nx) with
    | some (.nx e) => G e
    | r => r) _ env
  rw [List.getLast?_map]
  cases v.getLast? with
  | none => exact rfl
  | some a =>
    show NX (match ((b (ea a) (en.set i (.own (v.map ea).dropLast))).map Fl.nx) with
      | some (.nx e) => G e
      | r => r) _ env
    rw [show (v.map ea).dropLast = v.dropLast.map ea from List.map_dropLast.symm, hb]
    exact q a v.dropLast
theorem t_chain3Q {h k : En → Option PyData} {x y z w : Int} (pa : f en = (some x).map eI) (pb : g en = (some y).map eI) (pc : h en = (some z).map eI) (pd : k en = (some w).map eI) : fChain3 gLe gLe gLt f g h k en = (some (decide (x ≤ y) && (decide (y ≤ z) && decide (z < w)))).map eB := by
  unfold fChain3
  rw [pa, pb, pc, pd]
  show (match (PyData.bool (decide (x ≤ y))) with
    | .bool true => (match (PyData.bool (decide (y ≤ z))) with
      | .bool true => some (PyData.bool (decide (z < w)))
      | .bool false => some (PyData.bool false)
      | _ => none)
    | .bool false => some (PyData.bool false)
    | _ => none) = some (PyData.bool (decide (x ≤ y) && (decide (y ≤ z) && decide (z < w))))
  cases decide (x ≤ y) <;> cases decide (y ≤ z) <;> rfl
theorem t_kandS {en : Option α → En} {o : Option α} {k l : En → Option Bool} {Q : α → Option Bool} (p : k (en o) = some o.isSome) (q : ∀ x, l (en (some x)) = Q x) : kAnd k l (en o) = andO (some o.isSome) (o.bind Q) := by
  unfold kAnd andO iteO
  rw [p]
  cases o with
  | none => rfl
  | some a => exact q a
theorem t_andS {en : Option α → En} {o : Option α} {k l : En → Option PyData} {Q : α → Option Bool} (p : k (en o) = (some o.isSome).map eB) (q : ∀ x, l (en (some x)) = (Q x).map eB) : fAnd k l (en o) = (andO (some o.isSome) (o.bind Q)).map eB := by
  unfold fAnd andO iteO
  rw [p]
  cases o with
  | none => rfl
  | some a => exact q a
theorem g_revXL {e : α → PyData} (l : List α) : gRevX (eL e l) = (some (List.reverse l)).map (eL e) := by
  show some (PyData.list (l.map e).reverse) = some (PyData.list (l.reverse.map e))
  rw [List.map_reverse]
theorem g_revXR {e : α → PyData} (l : List α) : gRevX (eR e l) = (some (List.reverse l)).map (eR e) := by
  show some (PyData.tuple (l.map e).reverse) = some (PyData.tuple (l.reverse.map e))
  rw [List.map_reverse]
/-- a test with a last part that asks whether a name is not None, and a body that uses it -/
theorem n_ifS {en : Option α → En} {o : Option α} {k : En → Option Bool} {P : Option α → Option Bool} {A : α → Option σ} {B : Option σ} (p : ∀ o, k (en o) = P o) (h0 : P none ≠ some true) (q : ∀ x, NX (F (en (some x))) (A x) env) (r : NX (G (en o)) B env) : NX (sIf k F G (en o)) (iteO (P o) (o.bind A) B) env := by
  unfold sIf
  rw [p]
  cases hp : P o with
  | none => exact rfl
  | some b => cases b with
    | true => cases o with
      | none => exact absurd hp h0
      | some a => exact q a
    | false => exact r
theorem and_ff (b : Bool) : some (b && false) ≠ some true := by cases b <;> exact fun h => nomatch h
theorem andO_ff (X : Option Bool) : andO X (some false) ≠ some true := by
  cases X with
  | none => exact fun h => nomatch h
  | some b => cases b <;> exact fun h => nomatch h
end
end Ty
set_option Elab.async false
set_option linter.all false
set_option maxRecDepth 100000
set_option maxHeartbeats 4000000
namespace Ty
open PySem PySem.Spec PyProof.Rows L2 DN
def F_spells (c_check_inflows c_is_between : List PyData → Option PyData) : En → Option Fl := (sSeq (sExpr (fCall 1 c_check_inflows (fCons (fVar 0) fNil))) (sSeq (sIf (kNot (fT (fCall 3 c_is_between (fCons (fVar 1) (fCons (fLit (.int 0)) (fCons (fLit (.int 1000)) fNil)))))) sNever sNil) (sSeq (sOwn 2 (fLst fNil)) (sSeq (sFor (iEnumF (fVar 0)) (bTup [3, 4]) (sIf (fT (fLt (fVar 4) (fVar 1))) (sSeq (sSet 5 (fSub (fVar 1) (fVar 4))) (sIf (kAnd (fT (fNe (fOwn 2) (fLst fNil))) (fT (fEq (fIx (fIx (fOwn 2) (fNeg (fLit (.int 1)))) (fLit (.int 1))) (fSub (fVar 3) (fLit (.int 1)))))) (sSeq (sPop 2 (bTup [6, 7, 8])) (sApp 2 (fTup (fCons (fVar 6) (fCons (fVar 3) (fCons (fPlus (fVar 8) (fVar 5)) fNil)))))) (sApp 2 (fTup (fCons (fVar 3) (fCons (fVar 3) (fCons (fVar 5) fNil))))))) sNil)) (sRet (fTuple (fOwn 2)))))))
def S_spells := runD 9 (F_spells S_check_inflows S_is_between)
def N_spells (inflows' : (List Int)) (level' : Int) : Option (List (Int × Int × Int)) := ((N_check_inflows inflows').bind fun _ => (iteO ((N_is_between level' (0 : Int) (1000 : Int)).bind fun b1 => some (!b1)) none ((some []).bind fun found_2 => ((foldO (fun i6 s4 => (iteO (some (decide (i6.2 < level'))) ((some (level' - i6.2)).bind fun lack_11 => (iteO (andO (some (!decide (s4 = ([] : (List (Int × Int × Int)))))) (((atI s4 (-(1 : Int))).bind fun x19 => some x19.2.1).bind fun x22 => (some (i6.1 - (1 : Int))).bind fun y23 => some (decide (x22 = y23)))) (popK s4 fun p24 found_25 => ((appO found_25 (p24.1, i6.1, (p24.2.2 + lack_11))).bind fun found_28 => some found_28)) ((appO s4 (i6.1, i6.1, lack_11)).bind fun found_30 => some found_30))) (some s4))) (enumN 0 inflows') found_2).bind fun s32 => (some s32)))))
theorem t_spells (inflows' : (List Int)) (level' : Int) : S_spells [(eR eI) inflows', eI level'] = (N_spells inflows' level').map (eR (e3 eI eI eI)) := d_run (r_seq_expr (A := (N_check_inflows inflows')) (t_call1 (A := (some inflows')) (N := N_check_inflows) t_check_inflows (t_var (i := 0) (e := (eR eI)) (v := inflows') rfl)) (r_seq_ifret (P := ((N_is_between level' (0 : Int) (1000 : Int)).bind fun b1 => some (!b1))) (A := none) (t_knot (P := (N_is_between level' (0 : Int) (1000 : Int))) (t_T (P := (N_is_between level' (0 : Int) (1000 : Int))) (t_call3 (A := (some level')) (B := (some (0 : Int))) (C := (some (1000 : Int))) (N := N_is_between) t_is_between (t_var (i := 1) (e := eI) (v := level') rfl) (t_int (i := 0)) (t_int (i := 1000))))) r_never (r_seq_own (i := 2) (ea := (e3 eI eI eI)) (A := (some [])) (t_lstL (L := some []) (t_nil (α := (Int × Int × Int)) (e := (e3 eI eI eI)))) (lt_of rfl) (fun found_2 => (r_seq_nx (env := (fun (s : ((List (Int × Int × Int)))) (z : (Slot × Slot × Slot × Slot × Slot × Slot)) => [.dat ((eR eI) inflows'), .dat (eI level'), .own (List.map (e3 eI eI eI) s), z.1, z.2.1, z.2.2.1, z.2.2.2.1, z.2.2.2.2.1, z.2.2.2.2.2])) (n_for (env := (fun (s : ((List (Int × Int × Int)))) (z : (Slot × Slot × Slot × Slot × Slot × Slot)) => [.dat ((eR eI) inflows'), .dat (eI level'), .own (List.map (e3 eI eI eI) s), z.1, z.2.1, z.2.2.1, z.2.2.2.1, z.2.2.2.2.1, z.2.2.2.2.2])) (s := found_2) (z := ((.no : Slot), (.no : Slot), (.no : Slot), (.no : Slot), (.no : Slot), (.no : Slot))) (L := (some (enumN 0 inflows'))) (ea := (e2 eI eI)) (Bd := (fun i6 s4 => (iteO (some (decide (i6.2 < level'))) ((some (level' - i6.2)).bind fun lack_11 => (iteO (andO (some (!decide (s4 = ([] : (List (Int × Int × Int)))))) (((atI s4 (-(1 : Int))).bind fun x19 => some x19.2.1).bind fun x22 => (some (i6.1 - (1 : Int))).bind fun y23 => some (decide (x22 = y23)))) (popK s4 fun p24 found_25 => ((appO found_25 (p24.1, i6.1, (p24.2.2 + lack_11))).bind fun found_28 => some found_28)) ((appO s4 (i6.1, i6.1, lack_11)).bind fun found_30 => some found_30))) (some s4)))) rfl (i_enumR (A := (some inflows')) (e := eI) (t_var (i := 0) (e := (eR eI)) (v := inflows') rfl)) (fun i6 s4 z5 => ⟨[.dat ((eR eI) inflows'), .dat (eI level'), .own (List.map (e3 eI eI eI) s4), .dat (eI i6.1), .dat (eI i6.2), z5.2.2.1, z5.2.2.2.1, z5.2.2.2.2.1, z5.2.2.2.2.2], rfl, (n_if (P := (some (decide (i6.2 < level')))) (A := ((some (level' - i6.2)).bind fun lack_11 => (iteO (andO (some (!decide (s4 = ([] : (List (Int × Int × Int)))))) (((atI s4 (-(1 : Int))).bind fun x19 => some x19.2.1).bind fun x22 => (some (i6.1 - (1 : Int))).bind fun y23 => some (decide (x22 = y23)))) (popK s4 fun p24 found_25 => ((appO found_25 (p24.1, i6.1, (p24.2.2 + lack_11))).bind fun found_28 => some found_28)) ((appO s4 (i6.1, i6.1, lack_11)).bind fun found_30 => some found_30)))) (B := (some s4)) (t_T (P := (some (decide (i6.2 < level')))) (t_f2 (A := (some i6.2)) (B := (some level')) (h := (fun x9 y10 => some (decide (x9 < y10)))) g_lt (t_var (i := 4) (e := eI) (v := i6.2) rfl) (t_var (i := 1) (e := eI) (v := level') rfl))) (n_seq_set (i := 5) (A := (some (level' - i6.2))) (t_f2 (A := (some level')) (B := (some i6.2)) (h := (fun x12 y13 => some (x12 - y13))) g_sub (t_var (i := 1) (e := eI) (v := level') rfl) (t_var (i := 4) (e := eI) (v := i6.2) rfl)) (lt_of rfl) (fun lack_11 => (n_if (P := (andO (some (!decide (s4 = ([] : (List (Int × Int × Int)))))) (((atI s4 (-(1 : Int))).bind fun x19 => some x19.2.1).bind fun x22 => (some (i6.1 - (1 : Int))).bind fun y23 => some (decide (x22 = y23))))) (A := (popK s4 fun p24 found_25 => ((appO found_25 (p24.1, i6.1, (p24.2.2 + lack_11))).bind fun found_28 => some found_28))) (B := ((appO s4 (i6.1, i6.1, lack_11)).bind fun found_30 => some found_30)) (t_kand (P := (some (!decide (s4 = ([] : (List (Int × Int × Int))))))) (Q := (((atI s4 (-(1 : Int))).bind fun x19 => some x19.2.1).bind fun x22 => (some (i6.1 - (1 : Int))).bind fun y23 => some (decide (x22 = y23)))) (t_T (P := (some (!decide (s4 = ([] : (List (Int × Int × Int))))))) (t_f2 (A := (some s4)) (B := (some ([] : (List (Int × Int × Int))))) (h := (fun x14 y15 => some (!decide (x14 = y15)))) (g_ne (enc_L (enc_3 enc_I enc_I enc_I)) rfl) (t_own (i := 2) (e := (e3 eI eI eI)) (v := s4) rfl) (t_lstL (L := some []) (t_nil (α := (Int × Int × Int)) (e := (e3 eI eI eI)))))) (t_T (P := (((atI s4 (-(1 : Int))).bind fun x19 => some x19.2.1).bind fun x22 => (some (i6.1 - (1 : Int))).bind fun y23 => some (decide (x22 = y23)))) (t_f2 (A := ((atI s4 (-(1 : Int))).bind fun x19 => some x19.2.1)) (B := (some (i6.1 - (1 : Int)))) (h := (fun x22 y23 => some (decide (x22 = y23)))) (g_eq enc_I rfl) (t_ixc (A := (atI s4 (-(1 : Int)))) (k := 1) (pr := fun x19 => x19.2.1) (eb := eI) (fun _ => rfl) (t_f2 (A := (some s4)) (B := (some (-(1 : Int)))) (h := (fun x17 y18 => (atI x17 y18))) g_ixL (t_own (i := 2) (e := (e3 eI eI eI)) (v := s4) rfl) (t_f1 (A := (some (1 : Int))) (h := (fun x16 => some (-x16))) g_neg (t_int (i := 1))))) (t_f2 (A := (some i6.1)) (B := (some (1 : Int))) (h := (fun x20 y21 => some (x20 - y21))) g_sub (t_var (i := 3) (e := eI) (v := i6.1) rfl) (t_int (i := 1)))))) (n_seq_pop (i := 2) (v := s4) (envb := fun p24 found_25 => [.dat ((eR eI) inflows'), .dat (eI level'), .own (List.map (e3 eI eI eI) found_25), .dat (eI i6.1), .dat (eI i6.2), .dat (eI lack_11), .dat (eI p24.1), .dat (eI p24.2.1), .dat (eI p24.2.2)]) rfl (fun _ _ => rfl) (fun p24 found_25 => (n_app (i := 2) (A := (some (p24.1, i6.1, (p24.2.2 + lack_11)))) (v := found_25) (K := fun found_28 => found_28) (t_tup3 (A := (some p24.1)) (B := (some i6.1)) (C := (some (p24.2.2 + lack_11))) (t_var (i := 6) (e := eI) (v := p24.1) rfl) (t_var (i := 3) (e := eI) (v := i6.1) rfl) (t_f2 (A := (some p24.2.2)) (B := (some lack_11)) (h := (fun x26 y27 => some (x26 + y27))) g_add (t_var (i := 8) (e := eI) (v := p24.2.2) rfl) (t_var (i := 5) (e := eI) (v := lack_11) rfl))) rfl (fun found_28 => ⟨((.dat (eI i6.1) : Slot), (.dat (eI i6.2) : Slot), (.dat (eI lack_11) : Slot), (.dat (eI p24.1) : Slot), (.dat (eI p24.2.1) : Slot), (.dat (eI p24.2.2) : Slot)), rfl⟩)))) (n_app (i := 2) (A := (some (i6.1, i6.1, lack_11))) (v := s4) (K := fun found_30 => found_30) (t_tup3 (A := (some i6.1)) (B := (some i6.1)) (C := (some lack_11)) (t_var (i := 3) (e := eI) (v := i6.1) rfl) (t_var (i := 3) (e := eI) (v := i6.1) rfl) (t_var (i := 5) (e := eI) (v := lack_11) rfl)) rfl (fun found_30 => ⟨((.dat (eI i6.1) : Slot), (.dat (eI i6.2) : Slot), (.dat (eI lack_11) : Slot), (z5.2.2.2.1 : Slot), (z5.2.2.2.2.1 : Slot), (z5.2.2.2.2.2 : Slot)), rfl⟩))))) (n_nil (s := s4) (z := ((.dat (eI i6.1) : Slot), (.dat (eI i6.2) : Slot), (z5.2.2.1 : Slot), (z5.2.2.2.1 : Slot), (z5.2.2.2.2.1 : Slot), (z5.2.2.2.2.2 : Slot))) rfl))⟩)) (fun s32 z33 => (r_ret (A := (some s32)) (t_f1 (A := (some s32)) (h := (fun x34 => some x34)) g_tupL (t_own (i := 2) (e := (e3 eI eI eI)) (v := s32) rfl)))))))))
end Ty
set_option Elab.async false
set_option linter.all false
set_option maxRecDepth 100000
set_option maxHeartbeats 4000000
namespace Ty
open PySem PySem.Spec PyProof.Rows L2 DN
def F__law_alike (c__law_alike : List PyData → Option PyData) : En → Option Fl := (sSeq (sIf (fT (fIsi (fun d => isTup d || isLst d) (fVar 1))) (sSeq (sIf (kOr (kNot (fT (fIsi (fun d => isTup d || isLst d) (fVar 0)))) (fT (fNe (fIsi isLst (fVar 0)) (fIsi isLst (fVar 1))))) (sRet (fLit (.bool false))) sNil) (sSeq (sIf (fT (fNe (fLen (fVar 0)) (fLen (fVar 1)))) (sRet (fLit (.bool false))) sNil) (sRet (fEq (fLc (iRange1 (fLen (fVar 1))) (bName 2) (kNot (fT (fCall 2 c__law_alike (fCons (fIx (fVar 0) (fVar 2)) (fCons (fIx (fVar 1) (fVar 2)) fNil))))) (fVar 2) [2]) (fLst fNil))))) sNil) (sSeq (sIf (kOr (fT (fIsN (fVar 1) (fLit .none))) (fT (fIsi isStr (fVar 1)))) (sRet (fAnd (fEq (fVar 0) (fVar 1)) (fEq (fIsi isStr (fVar 0)) (fIsi isStr (fVar 1))))) sNil) (sRet (fAnd (fIsi isInt (fVar 0)) (fAnd (fEq (fIsi isBool (fVar 0)) (fIsi isBool (fVar 1))) (fEq (fVar 0) (fVar 1)))))))
def F__law_alike0 : En → Option Fl := (sSeq (sIf (fT (fIsi (fun d => isTup d || isLst d) (fVar 1))) sNever sNil) (sSeq (sIf (kOr (fT (fIsN (fVar 1) (fLit .none))) (fT (fIsi isStr (fVar 1)))) (sRet (fAnd (fEq (fVar 0) (fVar 1)) (fEq (fIsi isStr (fVar 0)) (fIsi isStr (fVar 1))))) sNil) (sRet (fAnd (fIsi isInt (fVar 0)) (fAnd (fEq (fIsi isBool (fVar 0)) (fIsi isBool (fVar 1))) (fEq (fVar 0) (fVar 1)))))))
def S__law_alike : Nat → List PyData → Option PyData
  | 0 => runD 3 F__law_alike0
  | n + 1 => runD 3 (F__law_alike (S__law_alike n))
def N__law_alike (rec : PyData → PyData → Option Bool) (found' : PyData) (due' : PyData) : Option Bool := (iteO (some (isTup (eA due') || isLst (eA due'))) (iteO (some ((!(isTup (eA found') || isLst (eA found'))) || (!decide ((isLst (eA found')) = (isLst (eA due')))))) (some false) (iteO ((lenA found').bind fun x10 => (lenA due').bind fun y11 => some (!decide (x10 = y11))) (some false) ((((lenA due').bind range1O).bind fun l => compL (fun i13 => (((ixA found' i13).bind fun a18 => (ixA due' i13).bind fun a19 => rec a18 a19).bind fun b20 => some (!b20))) (fun i13 => (some i13)) l).bind fun x21 => (some ([] : (List Int))).bind fun y22 => some (decide (x21 = y22))))) (iteO (some ((isNone due') || (isStr (eA due')))) (andO (eqO (eA found') (eA due')) (some (decide ((isStr (eA found')) = (isStr (eA due')))))) (andO (some (isInt (eA found'))) (andO (some (decide ((isBool (eA found')) = (isBool (eA due'))))) (eqO (eA found') (eA due'))))))
theorem t__law_alike {S : List PyData → Option PyData} {rec : PyData → PyData → Option Bool} (hrec : ∀ x y, S [eA x, eA y] = (rec x y).map eB) (found' : PyData) (due' : PyData) : runD 3 (F__law_alike S) [eA found', eA due'] = (N__law_alike rec found' due').map eB := d_run (r_seq_ifret (P := (some (isTup (eA due') || isLst (eA due')))) (A := (iteO (some ((!(isTup (eA found') || isLst (eA found'))) || (!decide ((isLst (eA found')) = (isLst (eA due')))))) (some false) (iteO ((lenA found').bind fun x10 => (lenA due').bind fun y11 => some (!decide (x10 = y11))) (some false) ((((lenA due').bind range1O).bind fun l => compL (fun i13 => (((ixA found' i13).bind fun a18 => (ixA due' i13).bind fun a19 => rec a18 a19).bind fun b20 => some (!b20))) (fun i13 => (some i13)) l).bind fun x21 => (some ([] : (List Int))).bind fun y22 => some (decide (x21 = y22)))))) (t_T (P := (some (isTup (eA due') || isLst (eA due')))) (t_isi (A := (some due')) (b := fun x1 => (isTup (eA x1) || isLst (eA x1))) (fun _ => rfl) (t_var (i := 1) (e := eA) (v := due') rfl))) (r_seq_ifret (P := (some ((!(isTup (eA found') || isLst (eA found'))) || (!decide ((isLst (eA found')) = (isLst (eA due'))))))) (A := (some false)) (t_korP (b := (!(isTup (eA found') || isLst (eA found')))) (c := (!decide ((isLst (eA found')) = (isLst (eA due'))))) (t_knot (P := (some (isTup (eA found') || isLst (eA found')))) (t_T (P := (some (isTup (eA found') || isLst (eA found')))) (t_isi (A := (some found')) (b := fun x2 => (isTup (eA x2) || isLst (eA x2))) (fun _ => rfl) (t_var (i := 0) (e := eA) (v := found') rfl)))) (t_T (P := (some (!decide ((isLst (eA found')) = (isLst (eA due')))))) (t_f2 (A := (some (isLst (eA found')))) (B := (some (isLst (eA due')))) (h := (fun x6 y7 => some (!decide (x6 = y7)))) (g_ne enc_B rfl) (t_isi (A := (some found')) (b := fun x4 => (isLst (eA x4))) (fun _ => rfl) (t_var (i := 0) (e := eA) (v := found') rfl)) (t_isi (A := (some due')) (b := fun x5 => (isLst (eA x5))) (fun _ => rfl) (t_var (i := 1) (e := eA) (v := due') rfl))))) (r_ret (A := (some false)) (t_bl (b := false))) (r_seq_ifret (P := ((lenA found').bind fun x10 => (lenA due').bind fun y11 => some (!decide (x10 = y11)))) (A := (some false)) (t_T (P := ((lenA found').bind fun x10 => (lenA due').bind fun y11 => some (!decide (x10 = y11)))) (t_f2 (A := (lenA found')) (B := (lenA due')) (h := (fun x10 y11 => some (!decide (x10 = y11)))) (g_ne enc_I rfl) (t_f1 (A := (some found')) (h := (fun x8 => (lenA x8))) g_lenA (t_var (i := 0) (e := eA) (v := found') rfl)) (t_f1 (A := (some due')) (h := (fun x9 => (lenA x9))) g_lenA (t_var (i := 1) (e := eA) (v := due') rfl)))) (r_ret (A := (some false)) (t_bl (b := false))) (r_ret (A := ((((lenA due').bind range1O).bind fun l => compL (fun i13 => (((ixA found' i13).bind fun a18 => (ixA due' i13).bind fun a19 => rec a18 a19).bind fun b20 => some (!b20))) (fun i13 => (some i13)) l).bind fun x21 => (some ([] : (List Int))).bind fun y22 => some (decide (x21 = y22)))) (t_f2 (A := (((lenA due').bind range1O).bind fun l => compL (fun i13 => (((ixA found' i13).bind fun a18 => (ixA due' i13).bind fun a19 => rec a18 a19).bind fun b20 => some (!b20))) (fun i13 => (some i13)) l)) (B := (some ([] : (List Int)))) (h := (fun x21 y22 => some (decide (x21 = y22)))) (g_eq (enc_L enc_I) rfl) (t_lc (L := ((lenA due').bind range1O)) (ea := eI) (eb := eI) (T := fun i13 => (((ixA found' i13).bind fun a18 => (ixA due' i13).bind fun a19 => rec a18 a19).bind fun b20 => some (!b20))) (Bf := fun i13 => (some i13)) (i_range1 (A := (lenA due')) (t_f1 (A := (some due')) (h := (fun x12 => (lenA x12))) g_lenA (t_var (i := 1) (e := eA) (v := due') rfl))) (fun i13 => ⟨[.dat (eA found'), .dat (eA due'), .dat (eI i13)], rfl, (t_knot (P := ((ixA found' i13).bind fun a18 => (ixA due' i13).bind fun a19 => rec a18 a19)) (t_T (P := ((ixA found' i13).bind fun a18 => (ixA due' i13).bind fun a19 => rec a18 a19)) (t_call2 (A := (ixA found' i13)) (B := (ixA due' i13)) hrec (t_f2 (A := (some found')) (B := (some i13)) (h := (fun x14 y15 => (ixA x14 y15))) g_ixA (t_var (i := 0) (e := eA) (v := found') rfl) (t_var (i := 2) (e := eI) (v := i13) rfl)) (t_f2 (A := (some due')) (B := (some i13)) (h := (fun x16 y17 => (ixA x16 y17))) g_ixA (t_var (i := 1) (e := eA) (v := due') rfl) (t_var (i := 2) (e := eI) (v := i13) rfl))))), (t_var (i := 2) (e := eI) (v := i13) rfl)⟩)) (t_lstL (L := some []) (t_nil (α := Int) (e := eI))))))) (r_seq_ifret (P := (some ((isNone due') || (isStr (eA due'))))) (A := (andO (eqO (eA found') (eA due')) (some (decide ((isStr (eA found')) = (isStr (eA due'))))))) (t_korP (b := (isNone due')) (c := (isStr (eA due'))) (t_T (P := (some (isNone due'))) (t_f2 (A := (some due')) (B := (some ())) (h := (fun x23 y24 => some (isNone x23))) g_isNA (t_var (i := 1) (e := eA) (v := due') rfl) t_non)) (t_T (P := (some (isStr (eA due')))) (t_isi (A := (some due')) (b := fun x25 => (isStr (eA x25))) (fun _ => rfl) (t_var (i := 1) (e := eA) (v := due') rfl)))) (r_ret (A := (andO (eqO (eA found') (eA due')) (some (decide ((isStr (eA found')) = (isStr (eA due'))))))) (t_and (P := (eqO (eA found') (eA due'))) (Q := (some (decide ((isStr (eA found')) = (isStr (eA due')))))) (t_f2 (A := (some found')) (B := (some due')) (h := (fun x26 y27 => (eqO (eA x26) (eA y27)))) g_eqA (t_var (i := 0) (e := eA) (v := found') rfl) (t_var (i := 1) (e := eA) (v := due') rfl)) (t_f2 (A := (some (isStr (eA found')))) (B := (some (isStr (eA due')))) (h := (fun x30 y31 => some (decide (x30 = y31)))) (g_eq enc_B rfl) (t_isi (A := (some found')) (b := fun x28 => (isStr (eA x28))) (fun _ => rfl) (t_var (i := 0) (e := eA) (v := found') rfl)) (t_isi (A := (some due')) (b := fun x29 => (isStr (eA x29))) (fun _ => rfl) (t_var (i := 1) (e := eA) (v := due') rfl))))) (r_ret (A := (andO (some (isInt (eA found'))) (andO (some (decide ((isBool (eA found')) = (isBool (eA due'))))) (eqO (eA found') (eA due'))))) (t_and (P := (some (isInt (eA found')))) (Q := (andO (some (decide ((isBool (eA found')) = (isBool (eA due'))))) (eqO (eA found') (eA due')))) (t_isi (A := (some found')) (b := fun x32 => (isInt (eA x32))) (fun _ => rfl) (t_var (i := 0) (e := eA) (v := found') rfl)) (t_and (P := (some (decide ((isBool (eA found')) = (isBool (eA due')))))) (Q := (eqO (eA found') (eA due'))) (t_f2 (A := (some (isBool (eA found')))) (B := (some (isBool (eA due')))) (h := (fun x35 y36 => some (decide (x35 = y36)))) (g_eq enc_B rfl) (t_isi (A := (some found')) (b := fun x33 => (isBool (eA x33))) (fun _ => rfl) (t_var (i := 0) (e := eA) (v := found') rfl)) (t_isi (A := (some due')) (b := fun x34 => (isBool (eA x34))) (fun _ => rfl) (t_var (i := 1) (e := eA) (v := due') rfl))) (t_f2 (A := (some found')) (B := (some due')) (h := (fun x37 y38 => (eqO (eA x37) (eA y38)))) g_eqA (t_var (i := 0) (e := eA) (v := found') rfl) (t_var (i := 1) (e := eA) (v := due') rfl)))))))
def N__law_alike0 (found' : PyData) (due' : PyData) : Option Bool := (iteO (some (isTup (eA due') || isLst (eA due'))) none (iteO (some ((isNone due') || (isStr (eA due')))) (andO (eqO (eA found') (eA due')) (some (decide ((isStr (eA found')) = (isStr (eA due')))))) (andO (some (isInt (eA found'))) (andO (some (decide ((isBool (eA found')) = (isBool (eA due'))))) (eqO (eA found') (eA due'))))))
theorem t__law_alike0 (found' : PyData) (due' : PyData) : runD 3 F__law_alike0 [eA found', eA due'] = (N__law_alike0 found' due').map eB := d_run (r_seq_ifret (P := (some (isTup (eA due') || isLst (eA due')))) (A := none) (t_T (P := (some (isTup (eA due') || isLst (eA due')))) (t_isi (A := (some due')) (b := fun x1 => (isTup (eA x1) || isLst (eA x1))) (fun _ => rfl) (t_var (i := 1) (e := eA) (v := due') rfl))) r_never (r_seq_ifret (P := (some ((isNone due') || (isStr (eA due'))))) (A := (andO (eqO (eA found') (eA due')) (some (decide ((isStr (eA found')) = (isStr (eA due'))))))) (t_korP (b := (isNone due')) (c := (isStr (eA due'))) (t_T (P := (some (isNone due'))) (t_f2 (A := (some due')) (B := (some ())) (h := (fun x2 y3 => some (isNone x2))) g_isNA (t_var (i := 1) (e := eA) (v := due') rfl) t_non)) (t_T (P := (some (isStr (eA due')))) (t_isi (A := (some due')) (b := fun x4 => (isStr (eA x4))) (fun _ => rfl) (t_var (i := 1) (e := eA) (v := due') rfl)))) (r_ret (A := (andO (eqO (eA found') (eA due')) (some (decide ((isStr (eA found')) = (isStr (eA due'))))))) (t_and (P := (eqO (eA found') (eA due'))) (Q := (some (decide ((isStr (eA found')) = (isStr (eA due')))))) (t_f2 (A := (some found')) (B := (some due')) (h := (fun x5 y6 => (eqO (eA x5) (eA y6)))) g_eqA (t_var (i := 0) (e := eA) (v := found') rfl) (t_var (i := 1) (e := eA) (v := due') rfl)) (t_f2 (A := (some (isStr (eA found')))) (B := (some (isStr (eA due')))) (h := (fun x9 y10 => some (decide (x9 = y10)))) (g_eq enc_B rfl) (t_isi (A := (some found')) (b := fun x7 => (isStr (eA x7))) (fun _ => rfl) (t_var (i := 0) (e := eA) (v := found') rfl)) (t_isi (A := (some due')) (b := fun x8 => (isStr (eA x8))) (fun _ => rfl) (t_var (i := 1) (e := eA) (v := due') rfl))))) (r_ret (A := (andO (some (isInt (eA found'))) (andO (some (decide ((isBool (eA found')) = (isBool (eA due'))))) (eqO (eA found') (eA due'))))) (t_and (P := (some (isInt (eA found')))) (Q := (andO (some (decide ((isBool (eA found')) = (isBool (eA due'))))) (eqO (eA found') (eA due')))) (t_isi (A := (some found')) (b := fun x11 => (isInt (eA x11))) (fun _ => rfl) (t_var (i := 0) (e := eA) (v := found') rfl)) (t_and (P := (some (decide ((isBool (eA found')) = (isBool (eA due')))))) (Q := (eqO (eA found') (eA due'))) (t_f2 (A := (some (isBool (eA found')))) (B := (some (isBool (eA due')))) (h := (fun x14 y15 => some (decide (x14 = y15)))) (g_eq enc_B rfl) (t_isi (A := (some found')) (b := fun x12 => (isBool (eA x12))) (fun _ => rfl) (t_var (i := 0) (e := eA) (v := found') rfl)) (t_isi (A := (some due')) (b := fun x13 => (isBool (eA x13))) (fun _ => rfl) (t_var (i := 1) (e := eA) (v := due') rfl))) (t_f2 (A := (some found')) (B := (some due')) (h := (fun x16 y17 => (eqO (eA x16) (eA y17)))) g_eqA (t_var (i := 0) (e := eA) (v := found') rfl) (t_var (i := 1) (e := eA) (v := due') rfl)))))))
def alikeR : Nat → PyData → PyData → Option Bool
  | 0 => N__law_alike0
  | n + 1 => N__law_alike (alikeR n)
theorem t_alike : ∀ (n : Nat) (x y : PyData), S__law_alike n [eA x, eA y] = (alikeR n x y).map eB
  | 0, x, y => t__law_alike0 x y
  | n + 1, x, y => t__law_alike (t_alike n) x y
end Ty
set_option Elab.async false
set_option linter.all false
set_option maxRecDepth 100000
set_option maxHeartbeats 4000000
namespace Ty
open PySem PySem.Spec PyProof.Rows L2 DN
theorem iteO_t {α : Type} (a b : Option α) : iteO (some true) a b = a := rfl
theorem iteO_f {α : Type} (a b : Option α) : iteO (some false) a b = b := rfl
theorem andO_t (a : Option Bool) : andO (some true) a = a := rfl
theorem andO_f (a : Option Bool) : andO (some false) a = some false := rfl
theorem orO_t (a : Option Bool) : orO (some true) a = some true := rfl
theorem orO_f (a : Option Bool) : orO (some false) a = a := rfl
/-- told alike just where they are the same -/
def Alk {α : Type} [DecidableEq α] (n : Nat) (e : α → PyData) : Prop := ∀ a b, alikeR n (e a) (e b) = some (decide (a = b))
theorem eqO_I (a b : Int) : eqO (.int a) (.int b) = some (decide (a = b)) := rfl
theorem eqO_B (a b : Bool) : eqO (.bool a) (.bool b) = some (decide (a = b)) := by cases a <;> cases b <;> rfl
theorem alk_I : ∀ n, Alk n eI
  | 0 => fun a b => eqO_I a b
  | n + 1 => fun a b => eqO_I a b
theorem alk_B : ∀ n, Alk n eB
  | 0 => fun a b => eqO_B a b
  | n + 1 => fun a b => eqO_B a b
theorem alk_U : ∀ n, Alk n eU
  | 0 => fun a b => rfl
  | n + 1 => fun a b => rfl
theorem compO_filter {α : Type} {T : α → Option Bool} {t : α → Bool} : ∀ l : List α, (∀ x ∈ l, T x = some (t x)) → compO T (fun i => some i) l = some (l.filter t)
  | [], _ => rfl
  | x :: r, h => by
    rw [compO_cons, h x List.mem_cons_self, compO_filter r fun y hy => h y (List.mem_cons_of_mem _ hy)]
    cases e : t x with
    | true => simp [e]
    | false => simp [e]
theorem atI_nat {α : Type} {l : List α} {i : Nat} (h : i < l.length) : atI l (0 + (i : Int)) = some l[i] := by
  unfold atI
  rw [Int.zero_add, ixN_at h]
  exact List.getElem?_eq_getElem h
section
variable {α β γ δ : Type} [DecidableEq α] [DecidableEq β] [DecidableEq γ] [DecidableEq δ] {n : Nat} {ea : α → PyData} {eb : β → PyData} {ec : γ → PyData} {ed : δ → PyData}
theorem range_self (k : Nat) (h : k ≤ 1000000) : range1O (k : Int) = some ((List.range k).map fun i : Nat => (0 + (i : Int))) := by
  unfold range1O
  rw [if_pos (by omega), Int.toNat_natCast]
/-- the items one by one -/
theorem alk_items {xs ys : List PyData} {p : Nat → Bool} (hl : xs.length = ys.length) (h64 : ys.length ≤ 1000000) (hp : ∀ i (h : i < ys.length), alikeR n (xs[i]'(by omega)) ys[i] = some (p i)) (mk : List PyData → PyData) (hmk : mk = .tuple ∨ mk = .list) :
    alikeR (n + 1) (mk xs) (mk ys) = some (decide (∀ i, i < ys.length → p i = true)) := by
  have key : ∀ (d1 d2 : PyData), items d1 = some xs → items d2 = some ys → (compL (fun i13 => (((ixA d1 i13).bind fun a18 => (ixA d2 i13).bind fun a19 => alikeR n a18 a19).bind fun b20 => some (!b20))) (fun i13 => (some i13)) ((List.range ys.length).map fun i : Nat => (0 + (i : Int)))).bind (fun x21 => (some ([] : (List Int))).bind fun y22 => some (decide (x21 = y22))) = some (decide (∀ i, i < ys.length → p i = true)) := by
    intro d1 d2 h1 h2
    unfold compL
    rw [if_pos (by rw [List.length_map, List.length_range]; exact h64)]
    rw [compO_filter (t := fun z : Int => !p z.toNat)]
    · simp only [Option.bind_some]
      congr 1
      rw [decide_eq_decide]
      rw [List.filter_eq_nil_iff]
      constructor
      · intro h i hi
        have := h (0 + (i : Int)) (List.mem_map.mpr ⟨i, List.mem_range.mpr hi, rfl⟩)
        simpa using this
      · intro h z hz
        obtain ⟨i, hi, rfl⟩ := List.mem_map.mp hz
        have := h i (List.mem_range.mp hi)
        simp [this]
    · intro z hz
      obtain ⟨i, hi, rfl⟩ := List.mem_map.mp hz
      have hi' := List.mem_range.mp hi
      unfold ixA
      rw [h1, h2]
      simp only [Option.bind_some]
      rw [atI_nat (l := xs) (by omega), atI_nat (l := ys) hi']
      simp only [Option.bind_some]
      rw [hp i hi']
      simp
  have hlen : (lenA (mk xs)).bind (fun x10 => (lenA (mk ys)).bind fun y11 => some (!decide (x10 = y11))) = some false := by
    rcases hmk with rfl | rfl <;> simp [lenA, hl]
  have hr : (lenA (mk ys)).bind range1O = some ((List.range ys.length).map fun i : Nat => (0 + (i : Int))) := by
    rcases hmk with rfl | rfl <;> exact range_self _ h64
  show N__law_alike (alikeR n) (mk xs) (mk ys) = _
  unfold N__law_alike
  rcases hmk with rfl | rfl
  · show iteO (some true) (iteO (some ((!true) || (!decide (false = false)))) (some false) (iteO _ (some false) _)) _ = _
    rw [iteO_t]
    show iteO (some false) _ _ = _
    rw [iteO_f]
    show iteO ((lenA (PyData.tuple xs)).bind (fun x10 => (lenA (PyData.tuple ys)).bind fun y11 => some (!decide (x10 = y11)))) _ _ = _
    rw [hlen, iteO_f]
    show (((lenA (PyData.tuple ys)).bind range1O).bind fun l => compL _ _ l).bind _ = _
    rw [hr]
    exact key (.tuple xs) (.tuple ys) rfl rfl
  · show iteO (some true) (iteO (some ((!true) || (!decide (true = true)))) (some false) (iteO _ (some false) _)) _ = _
    rw [iteO_t]
    show iteO (some false) _ _ = _
    rw [iteO_f]
    show iteO ((lenA (PyData.list xs)).bind (fun x10 => (lenA (PyData.list ys)).bind fun y11 => some (!decide (x10 = y11)))) _ _ = _
    rw [hlen, iteO_f]
    show (((lenA (PyData.list ys)).bind range1O).bind fun l => compL _ _ l).bind _ = _
    rw [hr]
    exact key (.list xs) (.list ys) rfl rfl
theorem alk_lens {xs ys : List PyData} (hl : xs.length ≠ ys.length) (mk : List PyData → PyData) (hmk : mk = .tuple ∨ mk = .list) : alikeR (n + 1) (mk xs) (mk ys) = some false := by
  have hlen : (lenA (mk xs)).bind (fun x10 => (lenA (mk ys)).bind fun y11 => some (!decide (x10 = y11))) = some true := by
    rcases hmk with rfl | rfl <;> (simp [lenA]; omega)
  show N__law_alike (alikeR n) (mk xs) (mk ys) = _
  unfold N__law_alike
  rcases hmk with rfl | rfl
  · show iteO (some true) (iteO (some false) (some false) (iteO ((lenA (PyData.tuple xs)).bind (fun x10 => (lenA (PyData.tuple ys)).bind fun y11 => some (!decide (x10 = y11)))) (some false) _)) _ = _
    rw [iteO_t, iteO_f, hlen, iteO_t]
  · show iteO (some true) (iteO (some false) (some false) (iteO ((lenA (PyData.list xs)).bind (fun x10 => (lenA (PyData.list ys)).bind fun y11 => some (!decide (x10 = y11)))) (some false) _)) _ = _
    rw [iteO_t, iteO_f, hlen, iteO_t]
theorem alk_seq (E : Alk n ea) (mk : List PyData → PyData) (hmk : mk = .tuple ∨ mk = .list) (l m : List α) (hm : m.length ≤ 1000000) : alikeR (n + 1) (mk (l.map ea)) (mk (m.map ea)) = some (decide (l = m)) := by
  by_cases hl : l.length = m.length
  · rw [alk_items (p := fun i => decide (l[i]? = m[i]?)) (by simpa using hl) (by simpa using hm) ?_ mk hmk]
    · congr 1
      rw [decide_eq_decide]
      constructor
      · intro h
        refine List.ext_getElem? fun i => ?_
        by_cases hi : i < m.length
        · exact of_decide_eq_true (h i (by simpa using hi))
        · rw [List.getElem?_eq_none (by omega), List.getElem?_eq_none (by omega)]
      · rintro rfl i _
        simp
    · intro i hi
      have hi' : i < m.length := by simpa using hi
      rw [List.getElem_map, List.getElem_map, E]
      congr 1
      rw [decide_eq_decide, List.getElem?_eq_getElem (by omega), List.getElem?_eq_getElem hi']
      simp
  · rw [alk_lens (by simpa using hl) mk hmk, decide_eq_false (fun z => hl (by rw [z]))]
theorem alk_R (E : Alk n ea) (l m : List α) (hm : m.length ≤ 1000000) : alikeR (n + 1) (eR ea l) (eR ea m) = some (decide (l = m)) := alk_seq E .tuple (.inl rfl) l m hm
theorem alk_L (E : Alk n ea) (l m : List α) (hm : m.length ≤ 1000000) : alikeR (n + 1) (eL ea l) (eL ea m) = some (decide (l = m)) := alk_seq E .list (.inr rfl) l m hm
theorem alk_2 (E : Alk n ea) (F : Alk n eb) : Alk (n + 1) (e2 ea eb) := fun p q => by
  refine (alk_items (n := n) (xs := [ea p.1, eb p.2]) (ys := [ea q.1, eb q.2]) (p := fun i => if i = 0 then decide (p.1 = q.1) else decide (p.2 = q.2)) rfl (by simp) (fun i hi => ?_) .tuple (.inl rfl)).trans ?_
  · match i, hi with
    | 0, _ => exact E p.1 q.1
    | 1, _ => exact F p.2 q.2
  · congr 1
    rw [decide_eq_decide]
    constructor
    · intro h
      have h0 := h 0 (by simp)
      have h1 := h 1 (by simp)
      simp at h0 h1
      exact Prod.ext h0 h1
    · rintro rfl i _
      split <;> simp
theorem alk_3 (E : Alk n ea) (F : Alk n eb) (G : Alk n ec) : Alk (n + 1) (e3 ea eb ec) := fun p q => by
  refine (alk_items (n := n) (xs := [ea p.1, eb p.2.1, ec p.2.2]) (ys := [ea q.1, eb q.2.1, ec q.2.2]) (p := fun i => if i = 0 then decide (p.1 = q.1) else if i = 1 then decide (p.2.1 = q.2.1) else decide (p.2.2 = q.2.2)) rfl (by simp) (fun i hi => ?_) .tuple (.inl rfl)).trans ?_
  · match i, hi with
    | 0, _ => exact E p.1 q.1
    | 1, _ => exact F p.2.1 q.2.1
    | 2, _ => exact G p.2.2 q.2.2
  · congr 1
    rw [decide_eq_decide]
    constructor
    · intro h
      have h0 := h 0 (by simp)
      have h1 := h 1 (by simp)
      have h2 := h 2 (by simp)
      simp at h0 h1 h2
      exact Prod.ext h0 (Prod.ext h1 h2)
    · rintro rfl i _
      split
      · simp
      · split <;> simp
end
def alikeT {α β : Type} (n : Nat) (ea : α → PyData) (eb : β → PyData) (a : α) (b : β) : Option Bool := alikeR n (ea a) (eb b)
theorem t_alikeT {α β : Type} (n : Nat) (ea : α → PyData) (eb : β → PyData) (a : α) (b : β) : S__law_alike n [ea a, eb b] = (alikeT n ea eb a b).map eB := t_alike n (ea a) (eb b)
end Ty
set_option Elab.async false
set_option linter.all false
set_option maxRecDepth 100000
set_option maxHeartbeats 4000000
namespace Ty
open PySem PySem.Spec PyProof.Rows L2 DN
def F__law_dam : LF := (lSeq (lSet 2 (wDraw 1 cPick (wCons (wLst (wCons (wP 0 (fLit (.int 0))) (wCons (wP 0 (fLit (.int 1))) (wCons (wP 0 (fLit (.int 10))) (wCons (wDraw 1 cTaken (wCons (wP 0 (fLit (.int 60))) wNil)) (wCons (wP 0 (fLit (.int 1000))) wNil)))))) wNil))) (lSeq (lSet 3 (w1 gTuple (wLc (wRange1 (w2 gPlus (wP 0 (fLit (.int 1))) (wDraw 1 cTaken (wCons (wP 0 (fVar 1)) wNil)))) (bName 4) wYes (wDraw 0 cFlow wNil) [4]))) (lRetV (wTup (wCons (wP 0 (fVar 2)) (wCons (wDraw 1 cTaken (wCons (wP 0 (fPlus (fVar 2) (fLit (.int 1)))) wNil)) (wCons (wDraw 1 cPick (wCons (wLst (wCons (wP 0 (fLit (.int 0))) (wCons (wP 0 (fLit (.int 0))) (wCons (wP 0 (fLit (.int 0))) (wCons (wDraw 1 cTaken (wCons (wP 0 (fPlus (fVar 2) (fLit (.int 1)))) wNil)) wNil))))) wNil)) (wCons (wP 0 (fVar 3)) wNil))))))))
def W__law_dam (most' : Int) (K : (Int × Int × Int × (List Int)) → Prop) : Prop := (∀ r53 : Int, 0 ≤ r53 → r53 < 60 → (∀ r56 : Int, r56 ∈ [(0 : Int), (1 : Int), (10 : Int), r53, (1000 : Int)] → (0 < most' ∧ most' ≤ 1000000 ∧ ∀ r60 : Int, 0 ≤ r60 → r60 < most' → (-1000000 ≤ ((1 : Int) + r60) ∧ ((1 : Int) + r60) ≤ 1000000 ∧ ∀ l58 : List Int, All2 (fun (i63 : Int) (y : Int) => ∀ R : Int → Prop, ((∀ r64 : Int, 0 ≤ r64 → r64 ≤ 1000 → R r64)) → R y) (rangeI ((1 : Int) + r60)) l58 → (0 < (r56 + (1 : Int)) ∧ (r56 + (1 : Int)) ≤ 1000000 ∧ ∀ r69 : Int, 0 ≤ r69 → r69 < (r56 + (1 : Int)) → (0 < (r56 + (1 : Int)) ∧ (r56 + (1 : Int)) ≤ 1000000 ∧ ∀ r74 : Int, 0 ≤ r74 → r74 < (r56 + (1 : Int)) → (∀ r77 : Int, r77 ∈ [(0 : Int), (0 : Int), (0 : Int), r74] → K ((r56, r69, r77, l58)))))))))
theorem w__law_dam (most' : Int) (Qd : PyData → Prop) (H : W__law_dam most' (fun v => Qd ((e4 eI eI eI (eR eI)) v))) : runV 5 (F__law_dam) [eI most'] Qd := ⟨eI (0 : Int), fun rw => (t_int (i := 0)), ⟨eI (1 : Int), fun rw => (t_int (i := 1)), ⟨eI (10 : Int), fun rw => (t_int (i := 10)), ⟨eI (60 : Int), fun rw => (t_int (i := 60)), ⟨rfl, (60 : Int), rfl, (by decide), (by decide), fun r53 g54 g55 => ⟨eI (1000 : Int), fun rw => (t_int (i := 1000)), ⟨Nat.le_of_ble_eq_true rfl, rfl, List.map eI [(0 : Int), (1 : Int), (10 : Int), r53, (1000 : Int)], rfl, Nat.le_of_ble_eq_true rfl, Nat.le_of_ble_eq_true rfl, pick_of (fun r56 g57 => ⟨_, rfl, ⟨(noown1 (i := 4) rfl), ⟨eI (1 : Int), fun rw => (t_int (i := 1)), ⟨eI most', fun rw => (t_var (i := 1) (e := eI) (v := most') rfl), ⟨rfl, most', rfl, ((H r53 g54 g55) r56 g57).1, ((H r53 g54 g55) r56 g57).2.1, fun r60 g61 g62 => ⟨eI ((1 : Int) + r60), rfl, ⟨((1 : Int) + r60), rfl, (((H r53 g54 g55) r56 g57).2.2 r60 g61 g62).1, (((H r53 g54 g55) r56 g57).2.2 r60 g61 g62).2.1, rangeD_len (((H r53 g54 g55) r56 g57).2.2 r60 g61 g62).2.1, wlc_range (P := (fun (i63 : Int) (y : Int) => ∀ R : Int → Prop, ((∀ r64 : Int, 0 ≤ r64 → r64 ≤ 1000 → R r64)) → R y)) (eb := eI) (fun i63 => ⟨[.no, .dat (eI most'), .dat (eI r56), .no, .dat (eI i63)], rfl, fun Q hR => ⟨rfl, rfl, fun r64 g65 g66 => (hR r64 (fun R hh => (hh r64 g65 g66)))⟩⟩) (fun l58 g59 => ⟨(eR eI) l58, rfl, ⟨_, rfl, ⟨eI r56, fun rw => (t_var (i := 2) (e := eI) (v := r56) rfl), ⟨eI (r56 + (1 : Int)), fun rw => (t_f2 (A := (some r56)) (B := (some (1 : Int))) (h := (fun x67 y68 => some (x67 + y68))) g_add (t_var (i := 2) (e := eI) (v := r56) rfl) (t_int (i := 1))), ⟨rfl, (r56 + (1 : Int)), rfl, ((((H r53 g54 g55) r56 g57).2.2 r60 g61 g62).2.2 l58 g59).1, ((((H r53 g54 g55) r56 g57).2.2 r60 g61 g62).2.2 l58 g59).2.1, fun r69 g70 g71 => ⟨eI (0 : Int), fun rw => (t_int (i := 0)), ⟨eI (0 : Int), fun rw => (t_int (i := 0)), ⟨eI (0 : Int), fun rw => (t_int (i := 0)), ⟨eI (r56 + (1 : Int)), fun rw => (t_f2 (A := (some r56)) (B := (some (1 : Int))) (h := (fun x72 y73 => some (x72 + y73))) g_add (t_var (i := 2) (e := eI) (v := r56) rfl) (t_int (i := 1))), ⟨rfl, (r56 + (1 : Int)), rfl, (((((H r53 g54 g55) r56 g57).2.2 r60 g61 g62).2.2 l58 g59).2.2 r69 g70 g71).1, (((((H r53 g54 g55) r56 g57).2.2 r60 g61 g62).2.2 l58 g59).2.2 r69 g70 g71).2.1, fun r74 g75 g76 => ⟨Nat.le_of_ble_eq_true rfl, rfl, List.map eI [(0 : Int), (0 : Int), (0 : Int), r74], rfl, Nat.le_of_ble_eq_true rfl, Nat.le_of_ble_eq_true rfl, pick_of (fun r77 g78 => ⟨(eR eI) l58, fun rw => (t_var (i := 3) (e := (eR eI)) (v := l58) rfl), ⟨Nat.le_of_ble_eq_true rfl, ⟨_, rfl, (((((((H r53 g54 g55) r56 g57).2.2 r60 g61 g62).2.2 l58 g59).2.2 r69 g70 g71).2.2 r74 g75 g76) r77 g78)⟩⟩⟩)⟩⟩⟩⟩⟩⟩⟩⟩⟩⟩⟩)⟩⟩⟩⟩⟩⟩⟩)⟩⟩⟩⟩⟩⟩⟩
end Ty
set_option Elab.async false
set_option linter.all false
set_option maxRecDepth 100000
set_option maxHeartbeats 4000000
namespace Ty
open PySem PySem.Spec PyProof.Rows L2 DN
abbrev DamT : Type := Int × Int × Int × List Int
abbrev eDam : DamT → PyData := e4 eI eI eI (eR eI)
/-- a dam as the laws draw it -/
structure DamIn (m : Int) (d : DamT) : Prop where
  c0 : 0 ≤ d.1
  c1 : d.1 ≤ 1000
  s0 : 0 ≤ d.2.1
  s1 : d.2.1 ≤ d.1
  e0 : 0 ≤ d.2.2.1
  e1 : d.2.2.1 ≤ d.1
  fl : Flows d.2.2.2
  l0 : 0 < d.2.2.2.length
  l1 : (d.2.2.2.length : Int) ≤ m
def cDam : List PyData → (PyData → Prop) → Prop := fun ds Q => ∃ m : Int, ds = [.int m] ∧ 0 < m ∧ m ≤ 12 ∧ ∀ d : DamT, DamIn m d → Q (eDam d)
theorem mc_dam : McC cDam := fun ds Q Q' h ⟨m, h0, h1, h2, h3⟩ => ⟨m, h0, h1, h2, fun d hd => h _ (h3 d hd)⟩
theorem rangeI_len (n : Int) : (rangeI n).length = n.toNat := by simp [rangeI]
theorem dam_in {m : Int} {K : DamT → Prop} (h0 : 0 < m) (h1 : m ≤ 12) (h : ∀ d, DamIn m d → K d) : W__law_dam m K := by
  intro t t0 t1 c hc
  have hc2 : 0 ≤ c ∧ c ≤ 1000 := by
    simp only [List.mem_cons, List.not_mem_nil, or_false] at hc
    rcases hc with rfl | rfl | rfl | rfl | rfl <;> omega
  refine ⟨h0, by omega, fun k k0 k1 => ⟨by omega, by omega, fun l hl => ⟨by omega, by omega, fun s s0 s1 => ⟨by omega, by omega, fun e e0 e1 x hx => h _ ?_⟩⟩⟩⟩
  have hx2 : 0 ≤ x ∧ x ≤ c := by
    simp only [List.mem_cons, List.not_mem_nil, or_false] at hx
    rcases hx with rfl | rfl | rfl | rfl <;> omega
  have hlen := hl.len
  rw [rangeI_len] at hlen
  have hfl : ∀ y ∈ l, 0 ≤ y ∧ y ≤ 1000 := hl.all (R := fun y => 0 ≤ y ∧ y ≤ 1000) fun a b hab => hab (fun y => 0 ≤ y ∧ y ≤ 1000) fun r r0 r1 => ⟨r0, r1⟩
  exact ⟨hc2.1, hc2.2, s0, by show s ≤ c; omega, hx2.1, hx2.2, hfl, by show 0 < l.length; omega, by show (l.length : Int) ≤ m; omega⟩
theorem dam_ok : ∀ ds Q, cDam ds Q → runV 5 F__law_dam ds Q := by
  rintro ds Q ⟨m, rfl, h0, h1, hq⟩
  exact w__law_dam m Q (dam_in h0 h1 hq)
end Ty
set_option Elab.async false
set_option linter.all false
set_option maxRecDepth 100000
set_option maxHeartbeats 4000000
namespace L71
open PySem PySem.Spec PyProof.Rows L2 DN Ty
def F_row : En → Option PyData := (fLst (fCons (fVar 0) (fCons (fLit (.int 0)) (fCons (fLit (.int 4471)) (fCons (fLit (.int 0)) fNil)))))
def F_tail (c_spells c_least_storage : List PyData → Option PyData) : En → Option Fl := (sSeq (sBind (bTup [5, 6]) (fTup (fCons (fCall 2 c_spells (fCons (fVar 3) (fCons (fVar 4) fNil))) (fCons (fLst fNil) fNil)))) (sSeq (sFor (iSeq (fVar 5)) (bTup [7, 8, 9]) (sSeq (sIf (kOr (kNot (fT (fChain3 gLe gLe gLt (fLit (.int 0)) (fVar 7) (fVar 8) (fVar 2)))) (fT (fNe (fVar 9) (fSum (fLc (iSeq (fCut (fVar 3) (fPart (fVar 7)) (fPart (fPlus (fVar 8) (fLit (.int 1)))))) (bName 16) kYes (fSub (fVar 4) (fVar 16)) [16]))))) (sRet (fLit (.bool false))) sNil) (sSet 6 (fPlus (fVar 6) (fLc (iRange2 (fVar 7) (fPlus (fVar 8) (fLit (.int 1)))) (bName 12) kYes (fVar 12) [12]))))) (sSeq (sIf (fT (fNe (fVar 6) (fLc (iRange1 (fVar 2)) (bName 12) (fT (fLt (fIx (fVar 3) (fVar 12)) (fVar 4))) (fVar 12) [12]))) (sRet (fLit (.bool false))) sNil) (sSeq (sIf (fT (fNe (fLc (iRange2 (fLit (.int 1)) (fLen (fVar 5))) (bName 12) (fT (fLe (fIx (fIx (fVar 5) (fVar 12)) (fLit (.int 0))) (fPlus (fIx (fIx (fVar 5) (fSub (fVar 12) (fLit (.int 1)))) (fLit (.int 1))) (fLit (.int 1))))) (fVar 12) [12]) (fLst fNil))) (sRet (fLit (.bool false))) sNil) (sSeq (sSet 10 (fCall 3 c_least_storage (fCons (fVar 3) (fCons (fTimes (fTup (fCons (fVar 4) fNil)) (fVar 2)) (fCons (fLit (.bool false)) fNil))))) (sSeq (sIf (fT (fNe (fLc (iSeq (fVar 5)) (bTup [7, 8, 9]) (fT (fGt (fVar 9) (fVar 10))) (fVar 9) [7, 8, 9]) (fLst fNil))) (sRet (fLit (.bool false))) sNil) (sSeq (sSet 11 (fSum (fLc (iSeq (fVar 5)) (bTup [7, 8, 9]) kYes (fVar 9) [7, 8, 9]))) (sRet (fAnd (fLe (fVar 10) (fVar 11)) (fAnd (fEq (fNe (fVar 5) (fTup fNil)) (fGt (fVar 10) (fLit (.int 0)))) (fEq (fCall 2 c_spells (fCons (f1 gRevX (fVar 3)) (fCons (fVar 4) fNil))) (fTuple (fLc (iSeq (f1 gRevX (fVar 5))) (bTup [13, 14, 15]) kYes (fTup (fCons (fSub (fSub (fVar 2) (fLit (.int 1))) (fVar 14)) (fCons (fSub (fSub (fVar 2) (fLit (.int 1))) (fVar 13)) (fCons (fVar 15) fNil)))) [13, 14, 15])))))))))))))
def F_law (c_spells c_least_storage : List PyData → Option PyData) : LF := (lSeq (lSet 2 (w2 gPlus (wP 1 (fLit (.int 1))) (wDraw 1 cTaken (wCons (wP 1 (fLit (.int 8))) wNil)))) (lSeq (lBind (bTup [3, 4]) (wTup (wCons (wDraw 1 cDemands (wCons (wP 1 (fVar 2)) wNil)) (wCons (wDraw 1 cPick (wCons (wLst (wCons (wP 1 (fLit (.int 0))) (wCons (wP 1 (fLit (.int 1))) (wCons (wP 1 (fLit (.int 5))) (wCons (wP 1 (fLit (.int 10))) (wCons (wP 1 (fLit (.int 1000))) (wCons (wDraw 1 cTaken (wCons (wP 1 (fLit (.int 30))) wNil)) wNil))))))) wNil)) wNil)))) (lEnd 1 (F_tail c_spells c_least_storage))))
noncomputable def N_tail (many' : Int) (inflows' : (List Int)) (level' : Int) : Option Bool := (((N_spells inflows' level').bind fun x12 => (some ([] : (List Int))).bind fun x13 => some (x12, x13)).bind fun p14 => (bindJ (foldJ (fun i17 s15 => (iteO (orO (some (!(decide ((0 : Int) ≤ i17.1) && (decide (i17.1 ≤ i17.2.1) && decide (i17.2.1 < many'))))) ((some i17.2.2).bind fun x27 => ((compL (fun (i23 : Int) => (some true)) (fun (i23 : Int) => (some (level' - i23))) (cutT inflows' (some i17.1) (some (i17.2.1 + (1 : Int))))).bind (fun x26 => some (List.sum x26))).bind fun y28 => some (!decide (x27 = y28)))) ((some false).bind fun v38 => some (.inl v38)) ((((some s15).bind fun x35 => ((range2O i17.1 (i17.2.1 + (1 : Int))).bind fun l => compL (fun (i34 : Int) => (some true)) (fun (i34 : Int) => (some i34)) l).bind fun y36 => (catO x35 y36)).bind fun inside_29 => some inside_29).bind fun s37 => some (.inr s37)))) p14.1 p14.2) (fun s39 => (iteO ((some s39).bind fun x48 => ((range1O many').bind fun l => compL (fun (i41 : Int) => ((atI inflows' i41).bind fun x46 => (some level').bind fun y47 => some (decide (x46 < y47)))) (fun (i41 : Int) => (some i41)) l).bind fun y49 => some (!decide (x48 = y49))) (some false) (iteO (((range2O (1 : Int) ((p14.1).length : Int)).bind fun l => compL (fun (i53 : Int) => (((atI p14.1 i53).bind fun x56 => some x56.1).bind fun x66 => (((atI p14.1 (i53 - (1 : Int))).bind fun x61 => some x61.2.1).bind fun x62 => (some (1 : Int)).bind fun y63 => some (x62 + y63)).bind fun y67 => some (decide (x66 ≤ y67)))) (fun (i53 : Int) => (some i53)) l).bind fun x68 => (some ([] : (List Int))).bind fun y69 => some (!decide (x68 = y69))) (some false) (((some inflows').bind fun a74 => (repO ([level']) many').bind fun a75 => (some false).bind fun a76 => N_least_storage a74 a75 a76).bind fun least_70 => (iteO ((compL (fun (i77 : (Int × Int × Int)) => (least_70.bind fun w79 => some (decide (w79 < i77.2.2)))) (fun (i77 : (Int × Int × Int)) => (some i77.2.2)) p14.1).bind fun x82 => (some ([] : (List Int))).bind fun y83 => some (!decide (x82 = y83))) (some false) (((compL (fun (i85 : (Int × Int × Int)) => (some true)) (fun (i85 : (Int × Int × Int)) => (some i85.2.2)) p14.1).bind (fun x86 => some (List.sum x86))).bind fun whole_84 => (andO (least_70.bind fun u87 => some (decide (u87 ≤ whole_84))) (andO ((some (!decide (p14.1 = ([])))).bind fun x98 => (least_70.bind fun u94 => some (decide ((0 : Int) < u94))).bind fun y99 => some (decide (x98 = y99))) ((N_spells (List.reverse inflows') level').bind fun x112 => ((compL (fun (i102 : (Int × Int × Int)) => (some true)) (fun (i102 : (Int × Int × Int)) => (some (((many' - (1 : Int)) - i102.2.1), ((many' - (1 : Int)) - i102.1), i102.2.2))) (List.reverse p14.1)).bind (fun x111 => some x111)).bind fun y113 => some (decide (x112 = y113)))))))))))))
theorem t_tail (ns : List Int) (rw : List PyData) (many' : Int) (inflows' : (List Int)) (level' : Int) : F_tail S_spells S_least_storage [(.dat (.list (List.map PyData.int ns))), (.own rw), .dat (eI many'), .dat ((eR eI) inflows'), .dat (eI level'), .no, .no, .no, .no, .no, .no, .no, .no, .no, .no, .no, .no] = rtO eB (N_tail many' inflows' level') := (r_seq_bind (A := ((N_spells inflows' level').bind fun x12 => (some ([] : (List Int))).bind fun x13 => some (x12, x13))) (envb := fun p14 => [(.dat (.list (List.map PyData.int ns))), (.own rw), .dat (eI many'), .dat ((eR eI) inflows'), .dat (eI level'), .dat ((eR (e3 eI eI eI)) p14.1), .dat ((eL eI) p14.2), .no, .no, .no, .no, .no, .no, .no, .no, .no, .no]) (t_tup2 (A := (N_spells inflows' level')) (B := (some ([] : (List Int)))) (t_call2 (A := (some inflows')) (B := (some level')) (N := N_spells) t_spells (t_var (i := 3) (e := (eR eI)) (v := inflows') rfl) (t_var (i := 4) (e := eI) (v := level') rfl)) (t_lstL (L := some []) (t_nil (α := Int) (e := eI)))) (fun _ => rfl) (fun p14 => (r_seq_bj (env := (fun (s : ((List Int))) (z : (Slot × Slot × Slot)) => [(.dat (.list (List.map PyData.int ns))), (.own rw), .dat (eI many'), .dat ((eR eI) inflows'), .dat (eI level'), .dat ((eR (e3 eI eI eI)) p14.1), .dat ((eL eI) s), z.1, z.2.1, z.2.2, .no, .no, .no, .no, .no, .no, .no])) (j_for (env := (fun (s : ((List Int))) (z : (Slot × Slot × Slot)) => [(.dat (.list (List.map PyData.int ns))), (.own rw), .dat (eI many'), .dat ((eR eI) inflows'), .dat (eI level'), .dat ((eR (e3 eI eI eI)) p14.1), .dat ((eL eI) s), z.1, z.2.1, z.2.2, .no, .no, .no, .no, .no, .no, .no])) (s := p14.2) (z := ((.no : Slot), (.no : Slot), (.no : Slot))) (L := (some p14.1)) (ea := (e3 eI eI eI)) (Bd := (fun i17 s15 => (iteO (orO (some (!(decide ((0 : Int) ≤ i17.1) && (decide (i17.1 ≤ i17.2.1) && decide (i17.2.1 < many'))))) ((some i17.2.2).bind fun x27 => ((compL (fun (i23 : Int) => (some true)) (fun (i23 : Int) => (some (level' - i23))) (cutT inflows' (some i17.1) (some (i17.2.1 + (1 : Int))))).bind (fun x26 => some (List.sum x26))).bind fun y28 => some (!decide (x27 = y28)))) ((some false).bind fun v38 => some (.inl v38)) ((((some s15).bind fun x35 => ((range2O i17.1 (i17.2.1 + (1 : Int))).bind fun l => compL (fun (i34 : Int) => (some true)) (fun (i34 : Int) => (some i34)) l).bind fun y36 => (catO x35 y36)).bind fun inside_29 => some inside_29).bind fun s37 => some (.inr s37))))) rfl (i_seqR (A := (some p14.1)) (e := (e3 eI eI eI)) (t_var (i := 5) (e := (eR (e3 eI eI eI))) (v := p14.1) rfl)) (fun i17 s15 z16 => ⟨[(.dat (.list (List.map PyData.int ns))), (.own rw), .dat (eI many'), .dat ((eR eI) inflows'), .dat (eI level'), .dat ((eR (e3 eI eI eI)) p14.1), .dat ((eL eI) s15), .dat (eI i17.1), .dat (eI i17.2.1), .dat (eI i17.2.2), .no, .no, .no, .no, .no, .no, .no], rfl, (j_seq_ifret (P := (orO (some (!(decide ((0 : Int) ≤ i17.1) && (decide (i17.1 ≤ i17.2.1) && decide (i17.2.1 < many'))))) ((some i17.2.2).bind fun x27 => ((compL (fun (i23 : Int) => (some true)) (fun (i23 : Int) => (some (level' - i23))) (cutT inflows' (some i17.1) (some (i17.2.1 + (1 : Int))))).bind (fun x26 => some (List.sum x26))).bind fun y28 => some (!decide (x27 = y28))))) (A := (some false)) (t_kor (P := (some (!(decide ((0 : Int) ≤ i17.1) && (decide (i17.1 ≤ i17.2.1) && decide (i17.2.1 < many')))))) (Q := ((some i17.2.2).bind fun x27 => ((compL (fun (i23 : Int) => (some true)) (fun (i23 : Int) => (some (level' - i23))) (cutT inflows' (some i17.1) (some (i17.2.1 + (1 : Int))))).bind (fun x26 => some (List.sum x26))).bind fun y28 => some (!decide (x27 = y28)))) (t_knot (P := (some (decide ((0 : Int) ≤ i17.1) && (decide (i17.1 ≤ i17.2.1) && decide (i17.2.1 < many'))))) (t_T (P := (some (decide ((0 : Int) ≤ i17.1) && (decide (i17.1 ≤ i17.2.1) && decide (i17.2.1 < many'))))) (t_chain3Q (x := (0 : Int)) (y := i17.1) (z := i17.2.1) (w := many') (t_int (i := 0)) (t_var (i := 7) (e := eI) (v := i17.1) rfl) (t_var (i := 8) (e := eI) (v := i17.2.1) rfl) (t_var (i := 2) (e := eI) (v := many') rfl)))) (t_T (P := ((some i17.2.2).bind fun x27 => ((compL (fun (i23 : Int) => (some true)) (fun (i23 : Int) => (some (level' - i23))) (cutT inflows' (some i17.1) (some (i17.2.1 + (1 : Int))))).bind (fun x26 => some (List.sum x26))).bind fun y28 => some (!decide (x27 = y28)))) (t_f2 (A := (some i17.2.2)) (B := ((compL (fun (i23 : Int) => (some true)) (fun (i23 : Int) => (some (level' - i23))) (cutT inflows' (some i17.1) (some (i17.2.1 + (1 : Int))))).bind (fun x26 => some (List.sum x26)))) (h := (fun x27 y28 => some (!decide (x27 = y28)))) (g_ne enc_I rfl) (t_var (i := 9) (e := eI) (v := i17.2.2) rfl) (t_f1 (A := (compL (fun (i23 : Int) => (some true)) (fun (i23 : Int) => (some (level' - i23))) (cutT inflows' (some i17.1) (some (i17.2.1 + (1 : Int)))))) (h := (fun x26 => some (List.sum x26))) g_sumL (t_lc (L := (some (cutT inflows' (some i17.1) (some (i17.2.1 + (1 : Int)))))) (ea := eI) (eb := eI) (T := fun (i23 : Int) => (some true)) (Bf := fun (i23 : Int) => (some (level' - i23))) (i_seqR (A := (some (cutT inflows' (some i17.1) (some (i17.2.1 + (1 : Int)))))) (e := eI) (t_cut (A := (some inflows')) (L := (some (some i17.1))) (H := (some (some (i17.2.1 + (1 : Int))))) g_cutR (t_var (i := 3) (e := (eR eI)) (v := inflows') rfl) (t_part (o := (some i17.1)) (t_var (i := 7) (e := eI) (v := i17.1) rfl)) (t_part (o := (some (i17.2.1 + (1 : Int)))) (t_f2 (A := (some i17.2.1)) (B := (some (1 : Int))) (h := (fun x20 y21 => some (x20 + y21))) g_add (t_var (i := 8) (e := eI) (v := i17.2.1) rfl) (t_int (i := 1)))))) (fun i23 => ⟨[(.dat (.list (List.map PyData.int ns))), (.own rw), .dat (eI many'), .dat ((eR eI) inflows'), .dat (eI level'), .dat ((eR (e3 eI eI eI)) p14.1), .dat ((eL eI) s15), .dat (eI i17.1), .dat (eI i17.2.1), .dat (eI i17.2.2), .no, .no, .no, .no, .no, .no, .dat (eI i23)], rfl, t_yes, (t_f2 (A := (some level')) (B := (some i23)) (h := (fun x24 y25 => some (x24 - y25))) g_sub (t_var (i := 4) (e := eI) (v := level') rfl) (t_var (i := 16) (e := eI) (v := i23) rfl))⟩)))))) (r_ret (A := (some false)) (t_bl (b := false))) (j_of_n (A := (((some s15).bind fun x35 => ((range2O i17.1 (i17.2.1 + (1 : Int))).bind fun l => compL (fun (i34 : Int) => (some true)) (fun (i34 : Int) => (some i34)) l).bind fun y36 => (catO x35 y36)).bind fun inside_29 => some inside_29)) (n_set  (K := fun inside_29 => inside_29) (i := 6) (A := ((some s15).bind fun x35 => ((range2O i17.1 (i17.2.1 + (1 : Int))).bind fun l => compL (fun (i34 : Int) => (some true)) (fun (i34 : Int) => (some i34)) l).bind fun y36 => (catO x35 y36))) (t_f2 (A := (some s15)) (B := ((range2O i17.1 (i17.2.1 + (1 : Int))).bind fun l => compL (fun (i34 : Int) => (some true)) (fun (i34 : Int) => (some i34)) l)) (h := (fun x35 y36 => (catO x35 y36))) g_addL (t_var (i := 6) (e := (eL eI)) (v := s15) rfl) (t_lc (L := (range2O i17.1 (i17.2.1 + (1 : Int)))) (ea := eI) (eb := eI) (T := fun (i34 : Int) => (some true)) (Bf := fun (i34 : Int) => (some i34)) (i_range2 (A := (some i17.1)) (B := (some (i17.2.1 + (1 : Int)))) (t_var (i := 7) (e := eI) (v := i17.1) rfl) (t_f2 (A := (some i17.2.1)) (B := (some (1 : Int))) (h := (fun x30 y31 => some (x30 + y31))) g_add (t_var (i := 8) (e := eI) (v := i17.2.1) rfl) (t_int (i := 1)))) (fun i34 => ⟨[(.dat (.list (List.map PyData.int ns))), (.own rw), .dat (eI many'), .dat ((eR eI) inflows'), .dat (eI level'), .dat ((eR (e3 eI eI eI)) p14.1), .dat ((eL eI) s15), .dat (eI i17.1), .dat (eI i17.2.1), .dat (eI i17.2.2), .no, .no, .dat (eI i34), .no, .no, .no, .no], rfl, t_yes, (t_var (i := 12) (e := eI) (v := i34) rfl)⟩))) (lt_of rfl) (fun inside_29 => ⟨((.dat (eI i17.1) : Slot), (.dat (eI i17.2.1) : Slot), (.dat (eI i17.2.2) : Slot)), rfl⟩))))⟩)) (fun s39 z40 => (r_seq_ifret (P := ((some s39).bind fun x48 => ((range1O many').bind fun l => compL (fun (i41 : Int) => ((atI inflows' i41).bind fun x46 => (some level').bind fun y47 => some (decide (x46 < y47)))) (fun (i41 : Int) => (some i41)) l).bind fun y49 => some (!decide (x48 = y49)))) (A := (some false)) (t_T (P := ((some s39).bind fun x48 => ((range1O many').bind fun l => compL (fun (i41 : Int) => ((atI inflows' i41).bind fun x46 => (some level').bind fun y47 => some (decide (x46 < y47)))) (fun (i41 : Int) => (some i41)) l).bind fun y49 => some (!decide (x48 = y49)))) (t_f2 (A := (some s39)) (B := ((range1O many').bind fun l => compL (fun (i41 : Int) => ((atI inflows' i41).bind fun x46 => (some level').bind fun y47 => some (decide (x46 < y47)))) (fun (i41 : Int) => (some i41)) l)) (h := (fun x48 y49 => some (!decide (x48 = y49)))) (g_ne (enc_L enc_I) rfl) (t_var (i := 6) (e := (eL eI)) (v := s39) rfl) (t_lc (L := (range1O many')) (ea := eI) (eb := eI) (T := fun (i41 : Int) => ((atI inflows' i41).bind fun x46 => (some level').bind fun y47 => some (decide (x46 < y47)))) (Bf := fun (i41 : Int) => (some i41)) (i_range1 (A := (some many')) (t_var (i := 2) (e := eI) (v := many') rfl)) (fun i41 => ⟨[(.dat (.list (List.map PyData.int ns))), (.own rw), .dat (eI many'), .dat ((eR eI) inflows'), .dat (eI level'), .dat ((eR (e3 eI eI eI)) p14.1), .dat ((eL eI) s39), z40.1, z40.2.1, z40.2.2, .no, .no, .dat (eI i41), .no, .no, .no, .no], rfl, (t_T (P := ((atI inflows' i41).bind fun x46 => (some level').bind fun y47 => some (decide (x46 < y47)))) (t_f2 (A := (atI inflows' i41)) (B := (some level')) (h := (fun x46 y47 => some (decide (x46 < y47)))) g_lt (t_f2 (A := (some inflows')) (B := (some i41)) (h := (fun x42 y43 => (atI x42 y43))) g_ixR (t_var (i := 3) (e := (eR eI)) (v := inflows') rfl) (t_var (i := 12) (e := eI) (v := i41) rfl)) (t_var (i := 4) (e := eI) (v := level') rfl))), (t_var (i := 12) (e := eI) (v := i41) rfl)⟩)))) (r_ret (A := (some false)) (t_bl (b := false))) (r_seq_ifret (P := (((range2O (1 : Int) ((p14.1).length : Int)).bind fun l => compL (fun (i53 : Int) => (((atI p14.1 i53).bind fun x56 => some x56.1).bind fun x66 => (((atI p14.1 (i53 - (1 : Int))).bind fun x61 => some x61.2.1).bind fun x62 => (some (1 : Int)).bind fun y63 => some (x62 + y63)).bind fun y67 => some (decide (x66 ≤ y67)))) (fun (i53 : Int) => (some i53)) l).bind fun x68 => (some ([] : (List Int))).bind fun y69 => some (!decide (x68 = y69)))) (A := (some false)) (t_T (P := (((range2O (1 : Int) ((p14.1).length : Int)).bind fun l => compL (fun (i53 : Int) => (((atI p14.1 i53).bind fun x56 => some x56.1).bind fun x66 => (((atI p14.1 (i53 - (1 : Int))).bind fun x61 => some x61.2.1).bind fun x62 => (some (1 : Int)).bind fun y63 => some (x62 + y63)).bind fun y67 => some (decide (x66 ≤ y67)))) (fun (i53 : Int) => (some i53)) l).bind fun x68 => (some ([] : (List Int))).bind fun y69 => some (!decide (x68 = y69)))) (t_f2 (A := ((range2O (1 : Int) ((p14.1).length : Int)).bind fun l => compL (fun (i53 : Int) => (((atI p14.1 i53).bind fun x56 => some x56.1).bind fun x66 => (((atI p14.1 (i53 - (1 : Int))).bind fun x61 => some x61.2.1).bind fun x62 => (some (1 : Int)).bind fun y63 => some (x62 + y63)).bind fun y67 => some (decide (x66 ≤ y67)))) (fun (i53 : Int) => (some i53)) l)) (B := (some ([] : (List Int)))) (h := (fun x68 y69 => some (!decide (x68 = y69)))) (g_ne (enc_L enc_I) rfl) (t_lc (L := (range2O (1 : Int) ((p14.1).length : Int))) (ea := eI) (eb := eI) (T := fun (i53 : Int) => (((atI p14.1 i53).bind fun x56 => some x56.1).bind fun x66 => (((atI p14.1 (i53 - (1 : Int))).bind fun x61 => some x61.2.1).bind fun x62 => (some (1 : Int)).bind fun y63 => some (x62 + y63)).bind fun y67 => some (decide (x66 ≤ y67)))) (Bf := fun (i53 : Int) => (some i53)) (i_range2 (A := (some (1 : Int))) (B := (some ((p14.1).length : Int))) (t_int (i := 1)) (t_f1 (A := (some p14.1)) (h := (fun x50 => some ((x50).length : Int))) g_lenR (t_var (i := 5) (e := (eR (e3 eI eI eI))) (v := p14.1) rfl))) (fun i53 => ⟨[(.dat (.list (List.map PyData.int ns))), (.own rw), .dat (eI many'), .dat ((eR eI) inflows'), .dat (eI level'), .dat ((eR (e3 eI eI eI)) p14.1), .dat ((eL eI) s39), z40.1, z40.2.1, z40.2.2, .no, .no, .dat (eI i53), .no, .no, .no, .no], rfl, (t_T (P := (((atI p14.1 i53).bind fun x56 => some x56.1).bind fun x66 => (((atI p14.1 (i53 - (1 : Int))).bind fun x61 => some x61.2.1).bind fun x62 => (some (1 : Int)).bind fun y63 => some (x62 + y63)).bind fun y67 => some (decide (x66 ≤ y67)))) (t_f2 (A := ((atI p14.1 i53).bind fun x56 => some x56.1)) (B := (((atI p14.1 (i53 - (1 : Int))).bind fun x61 => some x61.2.1).bind fun x62 => (some (1 : Int)).bind fun y63 => some (x62 + y63))) (h := (fun x66 y67 => some (decide (x66 ≤ y67)))) g_le (t_ixc (A := (atI p14.1 i53)) (k := 0) (pr := fun x56 => x56.1) (eb := eI) (fun _ => rfl) (t_f2 (A := (some p14.1)) (B := (some i53)) (h := (fun x54 y55 => (atI x54 y55))) g_ixR (t_var (i := 5) (e := (eR (e3 eI eI eI))) (v := p14.1) rfl) (t_var (i := 12) (e := eI) (v := i53) rfl))) (t_f2 (A := ((atI p14.1 (i53 - (1 : Int))).bind fun x61 => some x61.2.1)) (B := (some (1 : Int))) (h := (fun x62 y63 => some (x62 + y63))) g_add (t_ixc (A := (atI p14.1 (i53 - (1 : Int)))) (k := 1) (pr := fun x61 => x61.2.1) (eb := eI) (fun _ => rfl) (t_f2 (A := (some p14.1)) (B := (some (i53 - (1 : Int)))) (h := (fun x59 y60 => (atI x59 y60))) g_ixR (t_var (i := 5) (e := (eR (e3 eI eI eI))) (v := p14.1) rfl) (t_f2 (A := (some i53)) (B := (some (1 : Int))) (h := (fun x57 y58 => some (x57 - y58))) g_sub (t_var (i := 12) (e := eI) (v := i53) rfl) (t_int (i := 1))))) (t_int (i := 1))))), (t_var (i := 12) (e := eI) (v := i53) rfl)⟩)) (t_lstL (L := some []) (t_nil (α := Int) (e := eI))))) (r_ret (A := (some false)) (t_bl (b := false))) (r_seq_set (i := 10) (A := ((some inflows').bind fun a74 => (repO ([level']) many').bind fun a75 => (some false).bind fun a76 => N_least_storage a74 a75 a76)) (t_call3 (A := (some inflows')) (B := (repO ([level']) many')) (C := (some false)) (N := N_least_storage) t_least_storage (t_var (i := 3) (e := (eR eI)) (v := inflows') rfl) (t_f2 (A := (some ([level']))) (B := (some many')) (h := (fun x72 y73 => (repO x72 y73))) g_repR (t_as (A := (some level')) (u := fun x71 => [x71]) (ea := (e1 eI)) (eb := (eR eI)) (fun _ => rfl) (t_tup1 (A := (some level')) (t_var (i := 4) (e := eI) (v := level') rfl))) (t_var (i := 2) (e := eI) (v := many') rfl)) (t_bl (b := false))) (lt_of rfl) (fun least_70 => (r_seq_ifret (P := ((compL (fun (i77 : (Int × Int × Int)) => (least_70.bind fun w79 => some (decide (w79 < i77.2.2)))) (fun (i77 : (Int × Int × Int)) => (some i77.2.2)) p14.1).bind fun x82 => (some ([] : (List Int))).bind fun y83 => some (!decide (x82 = y83)))) (A := (some false)) (t_T (P := ((compL (fun (i77 : (Int × Int × Int)) => (least_70.bind fun w79 => some (decide (w79 < i77.2.2)))) (fun (i77 : (Int × Int × Int)) => (some i77.2.2)) p14.1).bind fun x82 => (some ([] : (List Int))).bind fun y83 => some (!decide (x82 = y83)))) (t_f2 (A := (compL (fun (i77 : (Int × Int × Int)) => (least_70.bind fun w79 => some (decide (w79 < i77.2.2)))) (fun (i77 : (Int × Int × Int)) => (some i77.2.2)) p14.1)) (B := (some ([] : (List Int)))) (h := (fun x82 y83 => some (!decide (x82 = y83)))) (g_ne (enc_L enc_I) rfl) (t_lc (L := (some p14.1)) (ea := (e3 eI eI eI)) (eb := eI) (T := fun (i77 : (Int × Int × Int)) => (least_70.bind fun w79 => some (decide (w79 < i77.2.2)))) (Bf := fun (i77 : (Int × Int × Int)) => (some i77.2.2)) (i_seqR (A := (some p14.1)) (e := (e3 eI eI eI)) (t_var (i := 5) (e := (eR (e3 eI eI eI))) (v := p14.1) rfl)) (fun i77 => ⟨[(.dat (.list (List.map PyData.int ns))), (.own rw), .dat (eI many'), .dat ((eR eI) inflows'), .dat (eI level'), .dat ((eR (e3 eI eI eI)) p14.1), .dat ((eL eI) s39), .dat (eI i77.1), .dat (eI i77.2.1), .dat (eI i77.2.2), .dat ((eO eI) least_70), .no, .no, .no, .no, .no, .no], rfl, (t_T (P := (least_70.bind fun w79 => some (decide (w79 < i77.2.2)))) (t_f2 (A := (some i77.2.2)) (B := (some least_70)) (h := (fun x80 y81 => (y81.bind fun w79 => some (decide (w79 < x80))))) (g_o2 (fun x => by cases x <;> rfl) g_gt) (t_var (i := 9) (e := eI) (v := i77.2.2) rfl) (t_var (i := 10) (e := (eO eI)) (v := least_70) rfl))), (t_var (i := 9) (e := eI) (v := i77.2.2) rfl)⟩)) (t_lstL (L := some []) (t_nil (α := Int) (e := eI))))) (r_ret (A := (some false)) (t_bl (b := false))) (r_seq_set (i := 11) (A := ((compL (fun (i85 : (Int × Int × Int)) => (some true)) (fun (i85 : (Int × Int × Int)) => (some i85.2.2)) p14.1).bind (fun x86 => some (List.sum x86)))) (t_f1 (A := (compL (fun (i85 : (Int × Int × Int)) => (some true)) (fun (i85 : (Int × Int × Int)) => (some i85.2.2)) p14.1)) (h := (fun x86 => some (List.sum x86))) g_sumL (t_lc (L := (some p14.1)) (ea := (e3 eI eI eI)) (eb := eI) (T := fun (i85 : (Int × Int × Int)) => (some true)) (Bf := fun (i85 : (Int × Int × Int)) => (some i85.2.2)) (i_seqR (A := (some p14.1)) (e := (e3 eI eI eI)) (t_var (i := 5) (e := (eR (e3 eI eI eI))) (v := p14.1) rfl)) (fun i85 => ⟨[(.dat (.list (List.map PyData.int ns))), (.own rw), .dat (eI many'), .dat ((eR eI) inflows'), .dat (eI level'), .dat ((eR (e3 eI eI eI)) p14.1), .dat ((eL eI) s39), .dat (eI i85.1), .dat (eI i85.2.1), .dat (eI i85.2.2), .dat ((eO eI) least_70), .no, .no, .no, .no, .no, .no], rfl, t_yes, (t_var (i := 9) (e := eI) (v := i85.2.2) rfl)⟩))) (lt_of rfl) (fun whole_84 => (r_ret (A := (andO (least_70.bind fun u87 => some (decide (u87 ≤ whole_84))) (andO ((some (!decide (p14.1 = ([])))).bind fun x98 => (least_70.bind fun u94 => some (decide ((0 : Int) < u94))).bind fun y99 => some (decide (x98 = y99))) ((N_spells (List.reverse inflows') level').bind fun x112 => ((compL (fun (i102 : (Int × Int × Int)) => (some true)) (fun (i102 : (Int × Int × Int)) => (some (((many' - (1 : Int)) - i102.2.1), ((many' - (1 : Int)) - i102.1), i102.2.2))) (List.reverse p14.1)).bind (fun x111 => some x111)).bind fun y113 => some (decide (x112 = y113)))))) (t_and (P := (least_70.bind fun u87 => some (decide (u87 ≤ whole_84)))) (Q := (andO ((some (!decide (p14.1 = ([])))).bind fun x98 => (least_70.bind fun u94 => some (decide ((0 : Int) < u94))).bind fun y99 => some (decide (x98 = y99))) ((N_spells (List.reverse inflows') level').bind fun x112 => ((compL (fun (i102 : (Int × Int × Int)) => (some true)) (fun (i102 : (Int × Int × Int)) => (some (((many' - (1 : Int)) - i102.2.1), ((many' - (1 : Int)) - i102.1), i102.2.2))) (List.reverse p14.1)).bind (fun x111 => some x111)).bind fun y113 => some (decide (x112 = y113))))) (t_f2 (A := (some least_70)) (B := (some whole_84)) (h := (fun x89 y90 => (x89.bind fun u87 => some (decide (u87 ≤ y90))))) (g_o1 (fun x => by cases x <;> rfl) g_le) (t_var (i := 10) (e := (eO eI)) (v := least_70) rfl) (t_var (i := 11) (e := eI) (v := whole_84) rfl)) (t_and (P := ((some (!decide (p14.1 = ([])))).bind fun x98 => (least_70.bind fun u94 => some (decide ((0 : Int) < u94))).bind fun y99 => some (decide (x98 = y99)))) (Q := ((N_spells (List.reverse inflows') level').bind fun x112 => ((compL (fun (i102 : (Int × Int × Int)) => (some true)) (fun (i102 : (Int × Int × Int)) => (some (((many' - (1 : Int)) - i102.2.1), ((many' - (1 : Int)) - i102.1), i102.2.2))) (List.reverse p14.1)).bind (fun x111 => some x111)).bind fun y113 => some (decide (x112 = y113)))) (t_f2 (A := (some (!decide (p14.1 = ([]))))) (B := (least_70.bind fun u94 => some (decide ((0 : Int) < u94)))) (h := (fun x98 y99 => some (decide (x98 = y99)))) (g_eq enc_B rfl) (t_f2 (A := (some p14.1)) (B := (some ([]))) (h := (fun x92 y93 => some (!decide (x92 = y93)))) (g_ne (enc_R (enc_3 enc_I enc_I enc_I)) rfl) (t_var (i := 5) (e := (eR (e3 eI eI eI))) (v := p14.1) rfl) (t_as (A := (some ())) (u := fun x91 => []) (ea := e0) (eb := (eR (e3 eI eI eI))) (fun _ => rfl) t_tup0)) (t_f2 (A := (some least_70)) (B := (some (0 : Int))) (h := (fun x96 y97 => (x96.bind fun u94 => some (decide (y97 < u94))))) (g_o1 (fun x => by cases x <;> rfl) g_gt) (t_var (i := 10) (e := (eO eI)) (v := least_70) rfl) (t_int (i := 0)))) (t_f2 (A := (N_spells (List.reverse inflows') level')) (B := ((compL (fun (i102 : (Int × Int × Int)) => (some true)) (fun (i102 : (Int × Int × Int)) => (some (((many' - (1 : Int)) - i102.2.1), ((many' - (1 : Int)) - i102.1), i102.2.2))) (List.reverse p14.1)).bind (fun x111 => some x111))) (h := (fun x112 y113 => some (decide (x112 = y113)))) (g_eq (enc_R (enc_3 enc_I enc_I enc_I)) rfl) (t_call2 (A := (some (List.reverse inflows'))) (B := (some level')) (N := N_spells) t_spells (t_f1 (A := (some inflows')) (h := (fun x100 => some (List.reverse x100))) g_revXR (t_var (i := 3) (e := (eR eI)) (v := inflows') rfl)) (t_var (i := 4) (e := eI) (v := level') rfl)) (t_f1 (A := (compL (fun (i102 : (Int × Int × Int)) => (some true)) (fun (i102 : (Int × Int × Int)) => (some (((many' - (1 : Int)) - i102.2.1), ((many' - (1 : Int)) - i102.1), i102.2.2))) (List.reverse p14.1))) (h := (fun x111 => some x111)) g_tupL (t_lc (L := (some (List.reverse p14.1))) (ea := (e3 eI eI eI)) (eb := (e3 eI eI eI)) (T := fun (i102 : (Int × Int × Int)) => (some true)) (Bf := fun (i102 : (Int × Int × Int)) => (some (((many' - (1 : Int)) - i102.2.1), ((many' - (1 : Int)) - i102.1), i102.2.2))) (i_seqR (A := (some (List.reverse p14.1))) (e := (e3 eI eI eI)) (t_f1 (A := (some p14.1)) (h := (fun x101 => some (List.reverse x101))) g_revXR (t_var (i := 5) (e := (eR (e3 eI eI eI))) (v := p14.1) rfl))) (fun i102 => ⟨[(.dat (.list (List.map PyData.int ns))), (.own rw), .dat (eI many'), .dat ((eR eI) inflows'), .dat (eI level'), .dat ((eR (e3 eI eI eI)) p14.1), .dat ((eL eI) s39), z40.1, z40.2.1, z40.2.2, .dat ((eO eI) least_70), .dat (eI whole_84), .no, .dat (eI i102.1), .dat (eI i102.2.1), .dat (eI i102.2.2), .no], rfl, t_yes, (t_tup3 (A := (some ((many' - (1 : Int)) - i102.2.1))) (B := (some ((many' - (1 : Int)) - i102.1))) (C := (some i102.2.2)) (t_f2 (A := (some (many' - (1 : Int)))) (B := (some i102.2.1)) (h := (fun x105 y106 => some (x105 - y106))) g_sub (t_f2 (A := (some many')) (B := (some (1 : Int))) (h := (fun x103 y104 => some (x103 - y104))) g_sub (t_var (i := 2) (e := eI) (v := many') rfl) (t_int (i := 1))) (t_var (i := 14) (e := eI) (v := i102.2.1) rfl)) (t_f2 (A := (some (many' - (1 : Int)))) (B := (some i102.1)) (h := (fun x109 y110 => some (x109 - y110))) g_sub (t_f2 (A := (some many')) (B := (some (1 : Int))) (h := (fun x107 y108 => some (x107 - y108))) g_sub (t_var (i := 2) (e := eI) (v := many') rfl) (t_int (i := 1))) (t_var (i := 13) (e := eI) (v := i102.1) rfl)) (t_var (i := 15) (e := eI) (v := i102.2.2) rfl))⟩))))))))))))))))))
def Law : Prop := (∀ r1 : Int, 0 ≤ r1 → r1 < 8 → (0 ≤ ((1 : Int) + r1) ∧ ((1 : Int) + r1) ≤ 64 ∧ ∀ l4 : List Int, (l4.length : Int) = ((1 : Int) + r1) → Flows l4 → (∀ r7 : Int, 0 ≤ r7 → r7 < 30 → (∀ r10 : Int, r10 ∈ [(0 : Int), (1 : Int), (5 : Int), (10 : Int), (1000 : Int), r7] → (N_tail (((1 : Int) + r1)) ((l4, r10).1) ((l4, r10).2) = some true)))))
theorem law_of (H : Law) : ∀ ns : List Int, ns.length ≤ 63 → ∃ rw, RowOk rw ∧ F_row (lawEn 17 ns) = some (.list rw) ∧ ∀ en', (∃ rw', en' = (lawEn 17 ns).set 1 (.own rw')) → F_law S_spells S_least_storage en' fun r => r = .rt (.bool true) := by
  intro ns hns
  refine ⟨_, rowOk (ns := ns) (i := 0) (m := 4471) (c := 0) hns (by decide) (by decide) (by decide) (by decide), rfl, ?_⟩
  rintro en' ⟨rw, rfl⟩
  exact ⟨eI (1 : Int), fun rw => (t_int (i := 1)), ⟨eI (8 : Int), fun rw => (t_int (i := 8)), ⟨rfl, (8 : Int), rfl, (by decide), (by decide), fun r1 g2 g3 => ⟨eI ((1 : Int) + r1), rfl, ⟨_, rfl, ⟨eI ((1 : Int) + r1), fun rw => (t_var (i := 2) (e := eI) (v := ((1 : Int) + r1)) rfl), ⟨rfl, demands_of (H r1 g2 g3).1 (H r1 g2 g3).2.1 (fun l4 g5 g6 => ⟨eI (0 : Int), fun rw => (t_int (i := 0)), ⟨eI (1 : Int), fun rw => (t_int (i := 1)), ⟨eI (5 : Int), fun rw => (t_int (i := 5)), ⟨eI (10 : Int), fun rw => (t_int (i := 10)), ⟨eI (1000 : Int), fun rw => (t_int (i := 1000)), ⟨eI (30 : Int), fun rw => (t_int (i := 30)), ⟨rfl, (30 : Int), rfl, (by decide), (by decide), fun r7 g8 g9 => ⟨Nat.le_of_ble_eq_true rfl, rfl, List.map eI [(0 : Int), (1 : Int), (5 : Int), (10 : Int), (1000 : Int), r7], rfl, Nat.le_of_ble_eq_true rfl, Nat.le_of_ble_eq_true rfl, pick_of (fun r10 g11 => ⟨Nat.le_of_ble_eq_true rfl, ⟨_, rfl, (fun rw _ => ⟨true, Eq.trans (t_tail ns rw (((1 : Int) + r1)) ((l4, r10).1) ((l4, r10).2)) (congrArg (rtO eB) ((((H r1 g2 g3).2.2 l4 g5 g6) r7 g8 g9) r10 g11)), rfl⟩)⟩⟩)⟩⟩⟩⟩⟩⟩⟩⟩)⟩⟩⟩⟩⟩⟩⟩
end L71
set_option Elab.async false
set_option linter.all false
set_option maxRecDepth 100000
set_option maxHeartbeats 4000000
namespace L71
open PySem PySem.Spec PyProof.Rows L2 DN Ty
def top (i : Nat) : Stmt := PySem.Challenge.pw_damworks_k71_across_spells.main.body.getD i (.Pass ⟨0, 0, 0, 0⟩)
structure Txt (K : PySem.W.Frag) (mg : Str → Option Value) : Prop where
  b_all : mg "all" = none
  b_bool : mg "bool" = none
  b_enumerate : mg "enumerate" = none
  b_int : mg "int" = none
  b_isinstance : mg "isinstance" = none
  b_len : mg "len" = none
  b_max : mg "max" = none
  b_range : mg "range" = none
  b_sum : mg "sum" = none
  b_tuple : mg "tuple" = none
  k_MOST_MONTHS : ∃ t, mg "MOST_MONTHS" = some (.int 12 t)
  k_MOST_WATER : ∃ t, mg "MOST_WATER" = some (.int 1000 t)
section
variable {P : Program} {w : World} {K : PySem.W.Frag} {mg : Str → Option Value} {base : Heap} {Ts : TsT}
/-! is_whole -/
abbrev s_is_whole : Stmt := top 7
theorem sc_is_whole : FnScope ["value"] ["value"] (defScope s_is_whole) := ⟨rfl, rfl, rfl, by decide +kernel, rfl, by decide +kernel, by decide +kernel⟩
theorem ok_is_whole (T : Txt K mg) {f : Addr} {fd : FuncData} {cdv : Value} (D : DF K "is_whole" "is_whole" s_is_whole f fd cdv) : FnOk P w K mg base CX0 1 f fd ["value"] (spD K Ts 1 (runD 1 (F_is_whole))) := by
  refine D.ok sc_is_whole fun A outer s H E hr => ?_
  exact (s_one (s_ret (d_and (d_isi isi_int (by rfl) T.b_isinstance (by decide +kernel) (by rfl) T.b_int (by decide +kernel) (d_var 0)) (d_one (d_not (d_isi isi_bool (by rfl) T.b_isinstance (by decide +kernel) (by rfl) T.b_bool (by decide +kernel) (d_var 0)))))))
/-! is_between -/
abbrev s_is_between : Stmt := top 8
theorem sc_is_between : FnScope ["value", "least", "most"] ["value", "least", "most"] (defScope s_is_between) := ⟨rfl, rfl, rfl, by decide +kernel, rfl, by decide +kernel, by decide +kernel⟩
theorem ok_is_between {c_is_whole : List PyData → Option PyData} (T : Txt K mg) {f : Addr} {fd : FuncData} {cdv : Value} (D : DF K "is_between" "is_between" s_is_between f fd cdv) (h_is_whole : CF P w K mg base Ts 1 "is_whole" 1 c_is_whole) : FnOk P w K mg base CX0 2 f fd ["value", "least", "most"] (spD K Ts 3 (runD 3 (F_is_between c_is_whole))) := by
  refine D.ok sc_is_between fun A outer s H E hr => ?_
  have l_is_whole : 1 ≤ 1 := by decide
  exact (s_one (s_ret (d_and (d_call hr (CF.call h_is_whole) l_is_whole (by rfl) (da_cons (d_var 0) da_nil)) (d_one (d_lele (d_var 1) (d_var 0) (d_var 2))))))
/-! is_row_between -/
abbrev s_is_row_between : Stmt := top 9
theorem sc_is_row_between : FnScope ["value", "least", "most", "number"] ["value", "least", "most"] (defScope s_is_row_between) := ⟨rfl, rfl, rfl, by decide +kernel, rfl, by decide +kernel, by decide +kernel⟩
theorem ok_is_row_between {c_is_between : List PyData → Option PyData} (T : Txt K mg) {f : Addr} {fd : FuncData} {c Pt : Addr} (TB : LamX.TabB base mg c Pt) (hP : Pt ∈ Ts.gs) (D : DF K "is_row_between" "is_row_between" s_is_row_between f fd (.ref c)) (h_is_between : CF P w K mg base Ts 2 "is_between" 3 c_is_between) : FnOk P w K mg base CX0 4 f fd ["value", "least", "most"] (spD K Ts 3 (runD 4 (F_is_row_between c_is_between))) := by
  refine D.ok sc_is_row_between fun A outer s H E hr => ?_
  have l_is_between : 2 ≤ 3 := by decide
  have l_is_betweeng : 2 ≤ 2 := by decide
  have l_gen : 2 + 1 ≤ 3 := by decide
  exact (s_one (s_ret (d_and (d_isi isi_tuple (by rfl) T.b_isinstance (by decide +kernel) (by rfl) T.b_tuple (by decide +kernel) (d_var 0)) (d_one (d_all (own := [("number", 3)]) hr (by rfl) T.b_all (by decide +kernel) TB hP rfl rfl sc_is_row_between.nd (di_seq (d_var 0)) (blkOk_by (own := [("number", 3)]) (N := ["value", "least", "most", "number"]) (sc := defScope s_is_row_between) (by decide +kernel)) (GA.genK_by (by decide +kernel)) (fun _ _ _ _ _ _ _ => (dg_name 3 sc_is_row_between.nd rfl (by first | exact Or.inl rfl | exact Or.inr rfl) (by decide))) (fun _ _ _ _ _ _ _ => (d_call (room_gen (hr.mono l_gen) _) (CF.call h_is_between) l_is_betweeng (by rfl) (da_cons (d_var 3) (da_cons (d_var 1) (da_cons (d_var 2) da_nil))))))))))
/-! is_inflows -/
abbrev s_is_inflows : Stmt := top 13
theorem sc_is_inflows : FnScope ["value"] ["value"] (defScope s_is_inflows) := ⟨rfl, rfl, rfl, by decide +kernel, rfl, by decide +kernel, by decide +kernel⟩
theorem ok_is_inflows {c_is_row_between : List PyData → Option PyData} (T : Txt K mg) {f : Addr} {fd : FuncData} {cdv : Value} (D : DF K "is_inflows" "is_inflows" s_is_inflows f fd cdv) (h_is_row_between : CF P w K mg base Ts 4 "is_row_between" 3 c_is_row_between) : FnOk P w K mg base CX0 5 f fd ["value"] (spD K Ts 1 (runD 1 (F_is_inflows c_is_row_between))) := by
  refine D.ok sc_is_inflows fun A outer s H E hr => ?_
  have l_is_row_between : 4 ≤ 4 := by decide
  exact (s_one (s_ret (d_and (d_call hr (CF.call h_is_row_between) l_is_row_between (by rfl) (da_cons (d_var 0) (da_cons d_int (da_cons (d_globE (by rfl) T.k_MOST_WATER) da_nil)))) (d_one (d_lele d_int (d_len (by rfl) T.b_len (d_b (d_var 0))) (d_globE (by rfl) T.k_MOST_MONTHS))))))
/-! check_inflows -/
abbrev s_check_inflows : Stmt := top 14
theorem sc_check_inflows : FnScope ["inflows"] ["inflows"] (defScope s_check_inflows) := ⟨rfl, rfl, rfl, by decide +kernel, rfl, by decide +kernel, by decide +kernel⟩
theorem ok_check_inflows {c_is_inflows : List PyData → Option PyData} (T : Txt K mg) {f : Addr} {fd : FuncData} {cdv : Value} (D : DF K "check_inflows" "check_inflows" s_check_inflows f fd cdv) (h_is_inflows : CF P w K mg base Ts 5 "is_inflows" 1 c_is_inflows) : FnOk P w K mg base CX0 6 f fd ["inflows"] (spD K Ts 1 (runD 1 (F_check_inflows c_is_inflows))) := by
  refine D.ok sc_check_inflows fun A outer s H E hr => ?_
  have l_is_inflows : 5 ≤ 5 := by decide
  exact (s_one (s_if (dt_not (dt_val (d_call hr (CF.call h_is_inflows) l_is_inflows (by rfl) (da_cons (d_var 0) da_nil)))) (s_one s_never) s_nil))
/-! check_demands -/
abbrev s_check_demands : Stmt := top 15
theorem sc_check_demands : FnScope ["demands", "count"] ["demands", "count"] (defScope s_check_demands) := ⟨rfl, rfl, rfl, by decide +kernel, rfl, by decide +kernel, by decide +kernel⟩
theorem ok_check_demands {c_is_row_between : List PyData → Option PyData} (T : Txt K mg) {f : Addr} {fd : FuncData} {cdv : Value} (D : DF K "check_demands" "check_demands" s_check_demands f fd cdv) (h_is_row_between : CF P w K mg base Ts 4 "is_row_between" 3 c_is_row_between) : FnOk P w K mg base CX0 5 f fd ["demands", "count"] (spD K Ts 2 (runD 2 (F_check_demands c_is_row_between))) := by
  refine D.ok sc_check_demands fun A outer s H E hr => ?_
  have l_is_row_between : 4 ≤ 4 := by decide
  exact (s_one (s_if (dt_not (dt_w (dw_and (dt_val (d_call hr (CF.call h_is_row_between) l_is_row_between (by rfl) (da_cons (d_var 0) (da_cons d_int (da_cons (d_globE (by rfl) T.k_MOST_WATER) da_nil))))) (dw_and1 (dt_eq hr (d_len (by rfl) T.b_len (d_b (d_var 0))) (d_var 1)))))) (s_one s_never) s_nil))
/-! spells -/
abbrev s_spells : Stmt := top 17
theorem sc_spells : FnScope ["inflows", "level", "found", "month", "inflow", "lack", "first", "_", "before"] ["inflows", "level"] (defScope s_spells) := ⟨rfl, rfl, rfl, by decide +kernel, rfl, by decide +kernel, by decide +kernel⟩
theorem ok_spells {c_check_inflows c_is_between : List PyData → Option PyData} (T : Txt K mg) {f : Addr} {fd : FuncData} {cdv : Value} (D : DF K "spells" "spells" s_spells f fd cdv) (h_check_inflows : CF P w K mg base Ts 6 "check_inflows" 1 c_check_inflows) (h_is_between : CF P w K mg base Ts 2 "is_between" 3 c_is_between) : FnOk P w K mg base CX0 7 f fd ["inflows", "level"] (spD K Ts 2 (runD 9 (F_spells c_check_inflows c_is_between))) := by
  refine D.ok sc_spells fun A outer s H E hr => ?_
  have l_check_inflows : 6 ≤ 6 := by decide
  have l_is_between : 2 ≤ 6 := by decide
  exact (s_cons (s_expr (d_call hr (CF.call h_check_inflows) l_check_inflows (by rfl) (da_cons (d_var 0) da_nil))) (s_cons (s_if (dt_not (dt_val (d_call hr (CF.call h_is_between) l_is_between (by rfl) (da_cons (d_var 1) (da_cons d_int (da_cons (d_globE (by rfl) T.k_MOST_WATER) da_nil)))))) (s_one s_never) s_nil) (s_cons (s_own (i := 2) sc_spells.nd rfl (by first | exact Or.inl rfl | exact Or.inr rfl) (n_lst da_nil)) (s_cons (s_for (vs := [3, 4]) PassesOwn.never rfl (di_enum (by rfl) T.b_enumerate (d_var 0)) (dg_tup rfl (dgs_cons (dg_name 3 sc_spells.nd rfl (by first | exact Or.inl rfl | exact Or.inr rfl) (by decide)) (dgs_cons (dg_name 4 sc_spells.nd rfl (by first | exact Or.inl rfl | exact Or.inr rfl) (by decide)) dgs_nil))) (s_one (s_if (dt_lt (d_var 4) (d_var 1)) (s_cons (s_set (i := 5) sc_spells.nd rfl (by first | exact Or.inl rfl | exact Or.inr rfl) (d_sub (d_var 1) (d_var 4))) (s_one (s_if (dt_w (dw_and (bt_ne hr (b_own 2) (d_lst da_nil)) (dw_and1 (dt_eq hr (b_ix (d_b (b_ix (b_own 2) (d_neg d_int))) d_int) (d_sub (d_var 3) d_int))))) (s_cons (s_pop (i := 2) (vs := [6, 7, 8]) (dg_tup rfl (dgs_cons (dg_name 6 sc_spells.nd rfl (by first | exact Or.inl rfl | exact Or.inr rfl) (by decide)) (dgs_cons (dg_name 7 sc_spells.nd rfl (by first | exact Or.inl rfl | exact Or.inr rfl) (by decide)) (dgs_cons (dg_name 8 sc_spells.nd rfl (by first | exact Or.inl rfl | exact Or.inr rfl) (by decide)) dgs_nil))))) (s_one (s_app (i := 2) (ha := (d_tup (da_cons (d_var 6) (da_cons (d_var 3) (da_cons (d_plus (d_var 8) (d_var 5)) da_nil)))))))) (s_one (s_app (i := 2) (ha := (d_tup (da_cons (d_var 3) (da_cons (d_var 3) (da_cons (d_var 5) da_nil)))))))))) s_nil))) (s_one (s_ret (d_tuple (by rfl) T.b_tuple (by decide +kernel) (b_own 2))))))))
/-! check_rows -/
abbrev s_check_rows : Stmt := top 19
theorem sc_check_rows : FnScope ["inflows", "demands", "is_round"] ["inflows", "demands", "is_round"] (defScope s_check_rows) := ⟨rfl, rfl, rfl, by decide +kernel, rfl, by decide +kernel, by decide +kernel⟩
theorem ok_check_rows {c_check_inflows c_check_demands : List PyData → Option PyData} (T : Txt K mg) {f : Addr} {fd : FuncData} {cdv : Value} (D : DF K "check_rows" "check_rows" s_check_rows f fd cdv) (h_check_inflows : CF P w K mg base Ts 6 "check_inflows" 1 c_check_inflows) (h_check_demands : CF P w K mg base Ts 5 "check_demands" 2 c_check_demands) : FnOk P w K mg base CX0 7 f fd ["inflows", "demands", "is_round"] (spD K Ts 3 (runD 3 (F_check_rows c_check_inflows c_check_demands))) := by
  refine D.ok sc_check_rows fun A outer s H E hr => ?_
  have l_check_inflows : 6 ≤ 6 := by decide
  have l_check_demands : 5 ≤ 6 := by decide
  exact (s_cons (s_expr (d_call hr (CF.call h_check_inflows) l_check_inflows (by rfl) (da_cons (d_var 0) da_nil))) (s_cons (s_expr (d_call hr (CF.call h_check_demands) l_check_demands (by rfl) (da_cons (d_var 1) (da_cons (d_len (by rfl) T.b_len (d_b (d_var 0))) da_nil)))) (s_one (s_if (dt_not (dt_val (d_isi isi_bool (by rfl) T.b_isinstance (by decide +kernel) (by rfl) T.b_bool (by decide +kernel) (d_var 2)))) (s_one s_never) s_nil))))
/-! rows_of_months -/
abbrev s_rows_of_months : Stmt := top 20
theorem sc_rows_of_months : FnScope ["months", "is_round", "first", "count"] ["months", "is_round"] (defScope s_rows_of_months) := ⟨rfl, rfl, rfl, by decide +kernel, rfl, by decide +kernel, by decide +kernel⟩
theorem ok_rows_of_months (T : Txt K mg) {f : Addr} {fd : FuncData} {cdv : Value} (D : DF K "rows_of_months" "rows_of_months" s_rows_of_months f fd cdv) : FnOk P w K mg base CX0 1 f fd ["months", "is_round"] (spD K Ts 2 (runD 4 (F_rows_of_months))) := by
  refine D.ok sc_rows_of_months fun A outer s H E hr => ?_
  exact (s_one (s_ret (d_lc2 (own := [("first", 2), ("count", 3)]) (vs1 := [3]) rfl sc_rows_of_months.nd (di_range1 (by rfl) T.b_range (d_var 0)) (blkOk_by (own := [("first", 2), ("count", 3)]) (N := ["months", "is_round", "first", "count"]) (sc := defScope s_rows_of_months) (by decide +kernel)) (by decide) (fun _ _ _ _ _ => (dg_name 2 sc_rows_of_months.nd rfl (by first | exact Or.inl rfl | exact Or.inr rfl) (by decide))) (fun _ _ _ _ _ => dts_nil) (fun _ _ _ _ _ => (di_range2 (by rfl) T.b_range d_int (d_plus (d_if (dt_val (d_var 1)) (d_var 0) (d_sub (d_var 0) (d_var 2))) d_int))) (fun _ _ _ _ _ => (dg_name 3 sc_rows_of_months.nd rfl (by first | exact Or.inl rfl | exact Or.inr rfl) (by decide))) (fun _ _ _ _ _ => dts_nil) (fun _ _ _ _ _ => (d_tup (da_cons (d_var 2) (da_cons (d_var 3) da_nil)))))))
/-! lack_of_row -/
abbrev s_lack_of_row : Stmt := top 21
theorem sc_lack_of_row : FnScope ["inflows", "demands", "row", "first", "count", "needed", "coming"] ["inflows", "demands", "row"] (defScope s_lack_of_row) := ⟨rfl, rfl, rfl, by decide +kernel, rfl, by decide +kernel, by decide +kernel⟩
theorem ok_lack_of_row (T : Txt K mg) {f : Addr} {fd : FuncData} {cdv : Value} (D : DF K "lack_of_row" "lack_of_row" s_lack_of_row f fd cdv) : FnOk P w K mg base CX0 1 f fd ["inflows", "demands", "row"] (spD K Ts 3 (runD 7 (F_lack_of_row))) := by
  refine D.ok sc_lack_of_row fun A outer s H E hr => ?_
  exact (s_cons (s_bind (vs := [3, 4]) (d_var 2) (dg_tup rfl (dgs_cons (dg_name 3 sc_lack_of_row.nd rfl (by first | exact Or.inl rfl | exact Or.inr rfl) (by decide)) (dgs_cons (dg_name 4 sc_lack_of_row.nd rfl (by first | exact Or.inl rfl | exact Or.inr rfl) (by decide)) dgs_nil)))) (s_cons (s_set (i := 5) sc_lack_of_row.nd rfl (by first | exact Or.inl rfl | exact Or.inr rfl) (b_cut (d_b (d_plus (d_var 1) (d_var 1))) (dp_some (d_var 3)) (dp_some (d_plus (d_var 3) (d_var 4))))) (s_cons (s_set (i := 6) sc_lack_of_row.nd rfl (by first | exact Or.inl rfl | exact Or.inr rfl) (b_cut (d_b (d_plus (d_var 0) (d_var 0))) (dp_some (d_var 3)) (dp_some (d_plus (d_var 3) (d_var 4))))) (s_one (s_ret (d_sub (d_sum rfl (by rfl) T.b_sum (by decide +kernel) (d_b (d_var 5))) (d_sum rfl (by rfl) T.b_sum (by decide +kernel) (d_b (d_var 6)))))))))
/-! found_storage -/
abbrev s_found_storage : Stmt := top 22
theorem sc_found_storage : FnScope ["inflows", "demands", "is_round", "rows", "row"] ["inflows", "demands", "is_round"] (defScope s_found_storage) := ⟨rfl, rfl, rfl, by decide +kernel, rfl, by decide +kernel, by decide +kernel⟩
theorem ok_found_storage {c_rows_of_months c_lack_of_row : List PyData → Option PyData} (T : Txt K mg) {f : Addr} {fd : FuncData} {cdv : Value} (D : DF K "found_storage" "found_storage" s_found_storage f fd cdv) (h_rows_of_months : CF P w K mg base Ts 1 "rows_of_months" 2 c_rows_of_months) (h_lack_of_row : CF P w K mg base Ts 1 "lack_of_row" 3 c_lack_of_row) : FnOk P w K mg base CX0 2 f fd ["inflows", "demands", "is_round"] (spD K Ts 3 (runD 5 (F_found_storage c_rows_of_months c_lack_of_row))) := by
  refine D.ok sc_found_storage fun A outer s H E hr => ?_
  have l_rows_of_months : 1 ≤ 1 := by decide
  have l_lack_of_row : 1 ≤ 1 := by decide
  exact (s_cons (s_if (dt_w (dw_and (dt_val (d_var 2)) (dw_and1 (dt_gt (d_sum rfl (by rfl) T.b_sum (by decide +kernel) (d_b (d_var 1))) (d_sum rfl (by rfl) T.b_sum (by decide +kernel) (d_b (d_var 0))))))) (s_one (s_ret d_non)) s_nil) (s_cons (s_set (i := 3) sc_found_storage.nd rfl (by first | exact Or.inl rfl | exact Or.inr rfl) (d_call hr (CF.call h_rows_of_months) l_rows_of_months (by rfl) (da_cons (d_len (by rfl) T.b_len (d_b (d_var 0))) (da_cons (d_var 2) da_nil)))) (s_one (s_ret (d_max2 rfl (by rfl) T.b_max (by decide +kernel) d_int (d_maxL rfl (by rfl) T.b_max (by decide +kernel) (d_b (d_lc (own := [("row", 4)]) rfl sc_found_storage.nd (di_seq (d_var 3)) (blkOk_by (own := [("row", 4)]) (N := ["inflows", "demands", "is_round", "rows", "row"]) (sc := defScope s_found_storage) (by decide +kernel)) (fun _ _ _ _ _ => (dg_name 4 sc_found_storage.nd rfl (by first | exact Or.inl rfl | exact Or.inr rfl) (by decide))) (fun _ _ _ _ _ => dts_nil) (fun _ _ _ _ _ => (d_call hr (CF.call h_lack_of_row) l_lack_of_row (by rfl) (da_cons (d_var 0) (da_cons (d_var 1) (da_cons (d_var 4) da_nil)))))))))))))
/-! least_storage -/
abbrev s_least_storage : Stmt := top 23
theorem sc_least_storage : FnScope ["inflows", "demands", "is_round"] ["inflows", "demands", "is_round"] (defScope s_least_storage) := ⟨rfl, rfl, rfl, by decide +kernel, rfl, by decide +kernel, by decide +kernel⟩
theorem ok_least_storage {c_check_rows c_found_storage : List PyData → Option PyData} (T : Txt K mg) {f : Addr} {fd : FuncData} {cdv : Value} (D : DF K "least_storage" "least_storage" s_least_storage f fd cdv) (h_check_rows : CF P w K mg base Ts 7 "check_rows" 3 c_check_rows) (h_found_storage : CF P w K mg base Ts 2 "found_storage" 3 c_found_storage) : FnOk P w K mg base CX0 8 f fd ["inflows", "demands", "is_round"] (spD K Ts 3 (runD 3 (F_least_storage c_check_rows c_found_storage))) := by
  refine D.ok sc_least_storage fun A outer s H E hr => ?_
  have l_check_rows : 7 ≤ 7 := by decide
  have l_found_storage : 2 ≤ 7 := by decide
  exact (s_cons (s_expr (d_call hr (CF.call h_check_rows) l_check_rows (by rfl) (da_cons (d_var 0) (da_cons (d_var 1) (da_cons (d_var 2) da_nil))))) (s_one (s_ret (d_call hr (CF.call h_found_storage) l_found_storage (by rfl) (da_cons (d_var 0) (da_cons (d_var 1) (da_cons (d_var 2) da_nil)))))))
end
section
variable {P : Program} {w : World} {K : PySem.W.Frag} {mg : Str → Option Value} {base : Heap} {Ts : TsT}
abbrev s_taken : Stmt := top 25
theorem sc_taken : FnScope ["row", "many", "found", "cell"] ["row", "many"] (defScope s_taken) := ⟨rfl, rfl, rfl, by decide +kernel, rfl, by decide +kernel, by decide +kernel⟩
theorem ok_taken0 (T : Txt K mg) {f : Addr} {fd : FuncData} {cdv : Value} (D : DF K "_law_taken" "_law_taken" s_taken f fd cdv) : FnOk P w K mg base CX0 1 f fd ["row", "many"] (spW K Ts 1 (runZ 4 F_taken)) := by
  refine D.okZ sc_taken rfl (by decide) fun A outer s H E hr => ?_
  exact z_cons (z_if (dt_gt (b_ix (b_own 0) d_int) d_int) (z_cons (z_set (i := 2) sc_taken.nd rfl (by first | exact Or.inl rfl | exact Or.inr rfl) (by decide) (d_mod (d_toInt (by rfl) T.b_int (by decide +kernel) (b_ix (b_own 0) d_int)) (d_var 1))) (z_cons (z_row (c := 3) rfl (by first | exact Or.inl rfl | exact Or.inr (Or.inl rfl) | exact Or.inr (Or.inr rfl)) (d_div (b_ix (b_own 0) d_int) (d_var 1))) (z_one (z_ret (d_var 2))))) z_nil)
    (z_cons (z_row (c := 1) rfl (by first | exact Or.inl rfl | exact Or.inr (Or.inl rfl) | exact Or.inr (Or.inr rfl)) (d_plus (b_ix (b_own 0) d_int) d_int))
    (z_cons (z_if (dt_gt (b_ix (b_own 0) d_int) (d_len (by rfl) T.b_len (d_b (b_ix (b_own 0) d_int)))) (z_cons (z_row (c := 2) rfl (by first | exact Or.inl rfl | exact Or.inr (Or.inl rfl) | exact Or.inr (Or.inr rfl)) (d_mod (d_toInt (by rfl) T.b_int (by decide +kernel) (d_plus (d_mul (b_ix (b_own 0) d_int) d_int) d_int)) d_int)) (z_one (z_ret (d_mod (d_toInt (by rfl) T.b_int (by decide +kernel) (d_div (b_ix (b_own 0) d_int) d_int)) (d_var 1))))) z_nil)
    (z_cons (z_set (i := 3) sc_taken.nd rfl (by first | exact Or.inl rfl | exact Or.inr rfl) (by decide) (b_ix (d_b (b_ix (b_own 0) d_int)) (d_sub (b_ix (b_own 0) d_int) d_int)))
    (z_cons (z_row (c := 2) rfl (by first | exact Or.inl rfl | exact Or.inr (Or.inl rfl) | exact Or.inr (Or.inr rfl)) (d_mod (d_toInt (by rfl) T.b_int (by decide +kernel) (d_plus (d_plus (d_mul (b_ix (b_own 0) d_int) d_int) (d_var 3)) d_int)) d_int))
    (z_cons (z_if (dt_ge (d_var 3) (d_pow d_int d_int)) (z_one (z_row (c := 3) rfl (by first | exact Or.inl rfl | exact Or.inr (Or.inl rfl) | exact Or.inr (Or.inr rfl)) (d_div (d_var 3) (d_var 1)))) z_nil)
    (z_one (z_ret (d_mod (d_toInt (by rfl) T.b_int (by decide +kernel) (d_var 3)) (d_var 1)))))))))
theorem ok_taken (T : Txt K mg) {f : Addr} {fd : FuncData} {cdv : Value} (D : DF K "_law_taken" "_law_taken" s_taken f fd cdv) : FnOk P w K mg base CX0 1 f fd ["row", "many"] (spW K Ts 1 cTaken) := (ok_taken0 T D).imp (spW.imp taken_ok)
abbrev s_pick : Stmt := top 26
theorem sc_pick : FnScope ["row", "things"] ["row", "things"] (defScope s_pick) := ⟨rfl, rfl, rfl, by decide +kernel, rfl, by decide +kernel, by decide +kernel⟩
theorem ok_pick (T : Txt K mg) {f : Addr} {fd : FuncData} {cdv : Value} (D : DF K "_law_pick" "_law_pick" s_pick f fd cdv) (h_taken : CW P w K mg base Ts 1 "_law_taken" 1 cTaken) : FnOk P w K mg base CX0 2 f fd ["row", "things"] (spW K Ts 1 cPick) := by
  refine FnOk.imp (D.okW sc_pick rfl (by decide) rfl fun A outer s H E hr => ?_) (spW.imp pick_ok)
  exact we_ix (we_pure (d_var 1)) (we_draw hr h_taken (by decide) (by rfl) rfl (by first | exact Or.inl rfl | exact Or.inr (Or.inl rfl) | exact Or.inr (Or.inr rfl)) (wa_cons (we_pure (d_len (by rfl) T.b_len (d_b (d_var 1)))) wa_nil))
abbrev s_flow : Stmt := top 34
theorem sc_flow : FnScope ["row"] ["row"] (defScope s_flow) := ⟨rfl, rfl, rfl, by decide +kernel, rfl, by decide +kernel, by decide +kernel⟩
theorem ok_flow (T : Txt K mg) {f : Addr} {fd : FuncData} {cdv : Value} (D : DF K "_law_flow" "_law_flow" s_flow f fd cdv) (h_taken : CW P w K mg base Ts 1 "_law_taken" 1 cTaken) (h_pick : CW P w K mg base Ts 2 "_law_pick" 1 cPick) : FnOk P w K mg base CX0 3 f fd ["row"] (spW K Ts 0 cFlow) := by
  refine FnOk.imp (D.okW sc_flow rfl (by decide) rfl fun A outer s H E hr => ?_) (spW.imp flow_ok)
  exact we_draw hr h_pick (by decide) (by rfl) rfl (by first | exact Or.inl rfl | exact Or.inr (Or.inl rfl) | exact Or.inr (Or.inr rfl)) (wa_cons (we_lst (wa_cons (we_pure d_int) (wa_cons (we_pure d_int) (wa_cons (we_pure d_int) (wa_cons (we_pure d_int) (wa_cons (we_draw hr h_taken (by decide) (by rfl) rfl (by first | exact Or.inl rfl | exact Or.inr (Or.inl rfl) | exact Or.inr (Or.inr rfl)) (wa_cons (we_pure d_int) wa_nil)) (wa_cons (we_draw hr h_pick (by decide) (by rfl) rfl (by first | exact Or.inl rfl | exact Or.inr (Or.inl rfl) | exact Or.inr (Or.inr rfl)) (wa_cons (we_lst (wa_cons (we_pure d_int) (wa_cons (we_pure d_int) wa_nil))) wa_nil)) wa_nil))))))) wa_nil)
abbrev s_demands : Stmt := top 36
theorem sc_demands : FnScope ["row", "many", "k"] ["row", "many"] (defScope s_demands) := ⟨rfl, rfl, rfl, by decide +kernel, rfl, by decide +kernel, by decide +kernel⟩
theorem wdraw_mn {c : List PyData → (PyData → Prop) → Prop} {n : Nat} (hc : ∀ ds Q Q', (∀ d, Q d → Q' d) → c ds Q → c ds Q') : Mn (wDraw n c wNil) := fun en Q Q' h ⟨a, b⟩ => ⟨a, hc _ _ _ h b⟩
theorem ok_demands (T : Txt K mg) {f : Addr} {fd : FuncData} {cdv : Value} (D : DF K "_law_demands" "_law_demands" s_demands f fd cdv) (h_flow : CW P w K mg base Ts 3 "_law_flow" 0 cFlow) : FnOk P w K mg base CX0 4 f fd ["row", "many"] (spW K Ts 1 cDemands) := by
  refine FnOk.imp (D.okW sc_demands rfl (by decide) rfl fun A outer s H E hr => ?_) (spW.imp demands_ok)
  exact we_tuple (by rfl) T.b_tuple (by decide +kernel) (we_lc (own := [("k", 2)]) rfl sc_demands.nd (wi_range1 (by rfl) T.b_range (we_pure (d_var 1)))
    (blkOk_by (own := [("k", 2)]) (N := ["row", "many", "k"]) (sc := defScope s_demands) (by decide +kernel)) (by decide) (bOk_name (by decide)) bName_out (fun _ _ _ _ _ => dg_name 2 sc_demands.nd rfl (by first | exact Or.inl rfl | exact Or.inr rfl) (by decide)) (fun _ _ _ _ _ => wts_nil)
    (fun _ _ _ _ _ => we_draw hr h_flow (by decide) (by rfl) rfl (by first | exact Or.inl rfl | exact Or.inr (Or.inl rfl) | exact Or.inr (Or.inr rfl)) wa_nil) (wdraw_mn fun ds Q Q' h ⟨a, b⟩ => ⟨a, fun n h0 h1 => h _ (b n h0 h1)⟩) mnt_yes (fun en Q Q' h ⟨d, hd, j, h1, h2, h3, h4⟩ => ⟨d, hd, j, h1, h2, h3, h _ h4⟩))
end

section
variable {P : Program} {w : World} {K : PySem.W.Frag} {mg : Str → Option Value} {base : Heap} {Ts : TsT}
end
section
variable {P : Program} {w : World} {K : PySem.W.Frag} {mg : Str → Option Value} {base : Heap} {Ts : TsT}
/-! law -/
abbrev s_law : Stmt := top 40
theorem sc_law : FnScope ["script", "row", "many", "inflows", "level", "found", "inside", "first", "last", "lack", "least", "whole", "k", "a", "b", "c", "one"] ["script"] (defScope s_law) := ⟨rfl, rfl, rfl, by decide +kernel, rfl, by decide +kernel, by decide +kernel⟩
theorem ok_law {c_spells c_least_storage : List PyData → Option PyData} (T : Txt K mg) {f : Addr} {fd : FuncData} {cdv : Value} (D : DF K "law" "law" s_law f fd cdv) (h_spells : CF P w K mg base Ts 7 "spells" 2 c_spells) (h_least_storage : CF P w K mg base Ts 8 "least_storage" 3 c_least_storage) (h__law_taken : CW P w K mg base Ts 1 "_law_taken" 1 cTaken) (h__law_pick : CW P w K mg base Ts 2 "_law_pick" 1 cPick) (h__law_demands : CW P w K mg base Ts 4 "_law_demands" 1 cDemands)
    (hF : ∀ ns : List Int, ns.length ≤ 63 → ∃ rw, RowOk rw ∧ F_row (lawEn 17 ns) = some (.list rw) ∧ ∀ en', (∃ rw', en' = (lawEn 17 ns).set 1 (.own rw')) → F_law c_spells c_least_storage en' fun r => r = .rt (.bool true)) : FnOk P w K mg base CX0 9 f fd ["script"] (spLaw K Ts) := by
  refine D.okVL (ρ := 1) sc_law (by decide) rfl (by decide) (fun A outer s H E hr => ?_) (fun A outer s H E hr => ?_) hF
  · exact s_own (i := 1) sc_law.nd rfl (by first | exact Or.inl rfl | exact Or.inr rfl) (n_lst (da_cons (d_var 0) (da_cons d_int (da_cons d_int (da_cons d_int da_nil)))))
  · have l_spells : 7 ≤ 8 := by decide
    have l_least_storage : 8 ≤ 8 := by decide
    have l__law_taken : 1 ≤ 8 := by decide
    have l__law_pick : 2 ≤ 8 := by decide
    have l__law_demands : 4 ≤ 8 := by decide
    exact (v_cons (v_set (i := 2) sc_law.nd rfl (by first | exact Or.inl rfl | exact Or.inr rfl) (by decide) (we_plus (we_pure d_int) (we_draw hr h__law_taken l__law_taken (by rfl) rfl (by first | exact Or.inl rfl | exact Or.inr (Or.inl rfl) | exact Or.inr (Or.inr rfl)) (wa_cons (we_pure d_int) wa_nil)))) (v_cons (v_bind (vs := [3, 4]) (we_tup (wa_cons (we_draw hr h__law_demands l__law_demands (by rfl) rfl (by first | exact Or.inl rfl | exact Or.inr (Or.inl rfl) | exact Or.inr (Or.inr rfl)) (wa_cons (we_pure (d_var 2)) wa_nil)) (wa_cons (we_draw hr h__law_pick l__law_pick (by rfl) rfl (by first | exact Or.inl rfl | exact Or.inr (Or.inl rfl) | exact Or.inr (Or.inr rfl)) (wa_cons (we_lst (wa_cons (we_pure d_int) (wa_cons (we_pure d_int) (wa_cons (we_pure d_int) (wa_cons (we_pure d_int) (wa_cons (we_pure d_int) (wa_cons (we_draw hr h__law_taken l__law_taken (by rfl) rfl (by first | exact Or.inl rfl | exact Or.inr (Or.inl rfl) | exact Or.inr (Or.inr rfl)) (wa_cons (we_pure d_int) wa_nil)) wa_nil))))))) wa_nil)) wa_nil))) (dg_tup rfl (dgs_cons (dg_name 3 sc_law.nd rfl (by first | exact Or.inl rfl | exact Or.inr rfl) (by decide)) (dgs_cons (dg_name 4 sc_law.nd rfl (by first | exact Or.inl rfl | exact Or.inr rfl) (by decide)) dgs_nil))) (bOk_tup (by decide)) (by decide)) (v_end (s_cons (s_bind (vs := [5, 6]) (d_tup (da_cons (d_call hr (CF.call h_spells) l_spells (by rfl) (da_cons (d_var 3) (da_cons (d_var 4) da_nil))) (da_cons (d_lst da_nil) da_nil))) (dg_tup rfl (dgs_cons (dg_name 5 sc_law.nd rfl (by first | exact Or.inl rfl | exact Or.inr rfl) (by decide)) (dgs_cons (dg_name 6 sc_law.nd rfl (by first | exact Or.inl rfl | exact Or.inr rfl) (by decide)) dgs_nil)))) (s_cons (s_for (vs := [7, 8, 9]) PassesOwn.never rfl (di_seq (d_var 5)) (dg_tup rfl (dgs_cons (dg_name 7 sc_law.nd rfl (by first | exact Or.inl rfl | exact Or.inr rfl) (by decide)) (dgs_cons (dg_name 8 sc_law.nd rfl (by first | exact Or.inl rfl | exact Or.inr rfl) (by decide)) (dgs_cons (dg_name 9 sc_law.nd rfl (by first | exact Or.inl rfl | exact Or.inr rfl) (by decide)) dgs_nil)))) (s_cons (s_if (dt_w (dw_or (dt_not (dt_lelelt d_int (d_var 7) (d_var 8) (d_var 2))) (dw_or1 (dt_ne hr (d_var 9) (d_sum rfl (by rfl) T.b_sum (by decide +kernel) (d_b (d_lc (own := [("one", 16)]) rfl sc_law.nd (di_seq (b_cut (d_b (d_var 3)) (dp_some (d_var 7)) (dp_some (d_plus (d_var 8) d_int)))) (blkOk_by (own := [("one", 16)]) (N := ["script", "row", "many", "inflows", "level", "found", "inside", "first", "last", "lack", "least", "whole", "k", "a", "b", "c", "one"]) (sc := defScope s_law) (by decide +kernel)) (fun _ _ _ _ _ => (dg_name 16 sc_law.nd rfl (by first | exact Or.inl rfl | exact Or.inr rfl) (by decide))) (fun _ _ _ _ _ => dts_nil) (fun _ _ _ _ _ => (d_sub (d_var 4) (d_var 16)))))))))) (s_one (s_ret d_bl)) s_nil) (s_one (s_set (i := 6) sc_law.nd rfl (by first | exact Or.inl rfl | exact Or.inr rfl) (d_plus (d_var 6) (d_lc (own := [("k", 12)]) rfl sc_law.nd (di_range2 (by rfl) T.b_range (d_var 7) (d_plus (d_var 8) d_int)) (blkOk_by (own := [("k", 12)]) (N := ["script", "row", "many", "inflows", "level", "found", "inside", "first", "last", "lack", "least", "whole", "k", "a", "b", "c", "one"]) (sc := defScope s_law) (by decide +kernel)) (fun _ _ _ _ _ => (dg_name 12 sc_law.nd rfl (by first | exact Or.inl rfl | exact Or.inr rfl) (by decide))) (fun _ _ _ _ _ => dts_nil) (fun _ _ _ _ _ => (d_var 12)))))))) (s_cons (s_if (dt_ne hr (d_var 6) (d_lc (own := [("k", 12)]) rfl sc_law.nd (di_range1 (by rfl) T.b_range (d_var 2)) (blkOk_by (own := [("k", 12)]) (N := ["script", "row", "many", "inflows", "level", "found", "inside", "first", "last", "lack", "least", "whole", "k", "a", "b", "c", "one"]) (sc := defScope s_law) (by decide +kernel)) (fun _ _ _ _ _ => (dg_name 12 sc_law.nd rfl (by first | exact Or.inl rfl | exact Or.inr rfl) (by decide))) (fun _ _ _ _ _ => (dts_one (dt_lt (b_ix (d_b (d_var 3)) (d_var 12)) (d_var 4)))) (fun _ _ _ _ _ => (d_var 12)))) (s_one (s_ret d_bl)) s_nil) (s_cons (s_if (dt_ne hr (d_lc (own := [("k", 12)]) rfl sc_law.nd (di_range2 (by rfl) T.b_range d_int (d_len (by rfl) T.b_len (d_b (d_var 5)))) (blkOk_by (own := [("k", 12)]) (N := ["script", "row", "many", "inflows", "level", "found", "inside", "first", "last", "lack", "least", "whole", "k", "a", "b", "c", "one"]) (sc := defScope s_law) (by decide +kernel)) (fun _ _ _ _ _ => (dg_name 12 sc_law.nd rfl (by first | exact Or.inl rfl | exact Or.inr rfl) (by decide))) (fun _ _ _ _ _ => (dts_one (dt_le (b_ix (d_b (b_ix (d_b (d_var 5)) (d_var 12))) d_int) (d_plus (b_ix (d_b (b_ix (d_b (d_var 5)) (d_sub (d_var 12) d_int))) d_int) d_int)))) (fun _ _ _ _ _ => (d_var 12))) (d_lst da_nil)) (s_one (s_ret d_bl)) s_nil) (s_cons (s_set (i := 10) sc_law.nd rfl (by first | exact Or.inl rfl | exact Or.inr rfl) (d_call hr (CF.call h_least_storage) l_least_storage (by rfl) (da_cons (d_var 3) (da_cons (d_times (d_tup (da_cons (d_var 4) da_nil)) (d_var 2)) (da_cons d_bl da_nil))))) (s_cons (s_if (dt_ne hr (d_lc (own := [("first", 7), ("last", 8), ("lack", 9)]) rfl sc_law.nd (di_seq (d_var 5)) (blkOk_by (own := [("first", 7), ("last", 8), ("lack", 9)]) (N := ["script", "row", "many", "inflows", "level", "found", "inside", "first", "last", "lack", "least", "whole", "k", "a", "b", "c", "one"]) (sc := defScope s_law) (by decide +kernel)) (fun _ _ _ _ _ => (dg_tup rfl (dgs_cons (dg_name 7 sc_law.nd rfl (by first | exact Or.inl rfl | exact Or.inr rfl) (by decide)) (dgs_cons (dg_name 8 sc_law.nd rfl (by first | exact Or.inl rfl | exact Or.inr rfl) (by decide)) (dgs_cons (dg_name 9 sc_law.nd rfl (by first | exact Or.inl rfl | exact Or.inr rfl) (by decide)) dgs_nil))))) (fun _ _ _ _ _ => (dts_one (dt_gt (d_var 9) (d_var 10)))) (fun _ _ _ _ _ => (d_var 9))) (d_lst da_nil)) (s_one (s_ret d_bl)) s_nil) (s_cons (s_set (i := 11) sc_law.nd rfl (by first | exact Or.inl rfl | exact Or.inr rfl) (d_sum rfl (by rfl) T.b_sum (by decide +kernel) (d_b (d_lc (own := [("first", 7), ("last", 8), ("lack", 9)]) rfl sc_law.nd (di_seq (d_var 5)) (blkOk_by (own := [("first", 7), ("last", 8), ("lack", 9)]) (N := ["script", "row", "many", "inflows", "level", "found", "inside", "first", "last", "lack", "least", "whole", "k", "a", "b", "c", "one"]) (sc := defScope s_law) (by decide +kernel)) (fun _ _ _ _ _ => (dg_tup rfl (dgs_cons (dg_name 7 sc_law.nd rfl (by first | exact Or.inl rfl | exact Or.inr rfl) (by decide)) (dgs_cons (dg_name 8 sc_law.nd rfl (by first | exact Or.inl rfl | exact Or.inr rfl) (by decide)) (dgs_cons (dg_name 9 sc_law.nd rfl (by first | exact Or.inl rfl | exact Or.inr rfl) (by decide)) dgs_nil))))) (fun _ _ _ _ _ => dts_nil) (fun _ _ _ _ _ => (d_var 9)))))) (s_one (s_ret (d_and (d_le (d_var 10) (d_var 11)) (d_and (d_eq hr (d_ne hr (d_var 5) (d_tup da_nil)) (d_gt (d_var 10) d_int)) (d_one (d_eq hr (d_call hr (CF.call h_spells) l_spells (by rfl) (da_cons (b_revX (d_b (d_var 3))) (da_cons (d_var 4) da_nil))) (d_tuple (by rfl) T.b_tuple (by decide +kernel) (d_b (d_lc (own := [("a", 13), ("b", 14), ("c", 15)]) rfl sc_law.nd (di_seq (b_revX (d_b (d_var 5)))) (blkOk_by (own := [("a", 13), ("b", 14), ("c", 15)]) (N := ["script", "row", "many", "inflows", "level", "found", "inside", "first", "last", "lack", "least", "whole", "k", "a", "b", "c", "one"]) (sc := defScope s_law) (by decide +kernel)) (fun _ _ _ _ _ => (dg_tup rfl (dgs_cons (dg_name 13 sc_law.nd rfl (by first | exact Or.inl rfl | exact Or.inr rfl) (by decide)) (dgs_cons (dg_name 14 sc_law.nd rfl (by first | exact Or.inl rfl | exact Or.inr rfl) (by decide)) (dgs_cons (dg_name 15 sc_law.nd rfl (by first | exact Or.inl rfl | exact Or.inr rfl) (by decide)) dgs_nil))))) (fun _ _ _ _ _ => dts_nil) (fun _ _ _ _ _ => (d_tup (da_cons (d_sub (d_sub (d_var 2) d_int) (d_var 14)) (da_cons (d_sub (d_sub (d_var 2) d_int) (d_var 13)) (da_cons (d_var 15) da_nil))))))))))))))))))))))))
end
end L71
set_option Elab.async false
set_option linter.all false
set_option maxRecDepth 100000
set_option maxHeartbeats 4000000
/-! Values: ratios. -/
namespace Ty
open PySem PySem.Spec PyProof.Rows L2 DN
/-! ### ratios as numbers -/
abbrev Q2 : Type := Int × Int
def val (q : Q2) : Rat := (q.1 : Rat) / (q.2 : Rat)
/-- a ratio in lowest terms, its parts of fewer than n bits -/
structure Sz (n : Nat) (q : Q2) : Prop where
  pos : 0 < q.2
  top : q.1.natAbs < 2 ^ n
  bot : q.2.natAbs < 2 ^ n
  low : Nat.gcd q.1.natAbs q.2.natAbs = 1
theorem Sz.mono {n m : Nat} {q : Q2} (h : Sz n q) (hm : n ≤ m) : Sz m q :=
  ⟨h.pos, Nat.lt_of_lt_of_le h.top (Nat.pow_le_pow_right (by decide) hm), Nat.lt_of_lt_of_le h.bot (Nat.pow_le_pow_right (by decide) hm), h.low⟩
def rt (a b : Int) : Q2 := (a / (Nat.gcd a.natAbs b.natAbs : Nat), b / (Nat.gcd a.natAbs b.natAbs : Nat))
theorem cast_pos {b : Int} (h : 0 < b) : (0 : Rat) < (b : Rat) := by
  have := Rat.intCast_lt_intCast (a := 0) (b := b)
  simpa using this.mpr h
theorem cast_ne {b : Int} (h : 0 < b) : (b : Rat) ≠ 0 := fun e => by
  have := cast_pos h
  rw [e] at this
  exact absurd this (by decide)
theorem gcd_pos {a b : Int} (hb : 0 < b) : 0 < Nat.gcd a.natAbs b.natAbs := Nat.gcd_pos_of_pos_right _ (by omega)
theorem rt_parts (a b : Int) (hb : 0 < b) : ∃ g : Int, 0 < g ∧ a = g * (rt a b).1 ∧ b = g * (rt a b).2 ∧ g = (Nat.gcd a.natAbs b.natAbs : Nat) := by
  have hg := gcd_pos (a := a) hb
  have d1 : ((Nat.gcd a.natAbs b.natAbs : Nat) : Int) ∣ a := Int.ofNat_dvd_left.mpr (Nat.gcd_dvd_left _ _)
  have d2 : ((Nat.gcd a.natAbs b.natAbs : Nat) : Int) ∣ b := Int.ofNat_dvd_left.mpr (Nat.gcd_dvd_right _ _)
  exact ⟨_, by omega, (Int.mul_ediv_cancel' d1).symm, (Int.mul_ediv_cancel' d2).symm, rfl⟩
theorem rt_pos {a b : Int} (hb : 0 < b) : 0 < (rt a b).2 := by
  obtain ⟨g, hg, _, h2, _⟩ := rt_parts a b hb
  by_cases h : 0 < (rt a b).2
  · exact h
  · have := Int.mul_le_mul_of_nonneg_left (show (rt a b).2 ≤ 0 by omega) (Int.le_of_lt hg)
    rw [Int.mul_zero] at this
    omega
theorem rt_val {a b : Int} (hb : 0 < b) : val (rt a b) = (a : Rat) / b := by
  obtain ⟨g, hg, h1, h2, _⟩ := rt_parts a b hb
  have hp := cast_ne (rt_pos (a := a) hb)
  have hg' := cast_ne hg
  have e1 : (a : Rat) = (g : Rat) * ((rt a b).1 : Rat) := by rw [← Rat.intCast_mul, ← h1]
  have e2 : (b : Rat) = (g : Rat) * ((rt a b).2 : Rat) := by rw [← Rat.intCast_mul, ← h2]
  unfold val
  rw [e1, e2]
  grind
theorem rt_low {a b : Int} (hb : 0 < b) : Nat.gcd (rt a b).1.natAbs (rt a b).2.natAbs = 1 := by
  obtain ⟨g, hg, h1, h2, h3⟩ := rt_parts a b hb
  have e1 : a.natAbs = g.natAbs * (rt a b).1.natAbs := by rw [← Int.natAbs_mul, ← h1]
  have e2 : b.natAbs = g.natAbs * (rt a b).2.natAbs := by rw [← Int.natAbs_mul, ← h2]
  have e3 : g.natAbs = Nat.gcd a.natAbs b.natAbs := by rw [h3]; simp
  have : Nat.gcd a.natAbs b.natAbs = g.natAbs * Nat.gcd (rt a b).1.natAbs (rt a b).2.natAbs := by
    rw [← Nat.gcd_mul_left, ← e1, ← e2]
  rw [← e3] at this
  have hgn : 0 < g.natAbs := by omega
  exact Nat.eq_of_mul_eq_mul_left hgn (by omega)
theorem rt_small {a b : Int} (hb : 0 < b) : (rt a b).1.natAbs ≤ a.natAbs ∧ (rt a b).2.natAbs ≤ b.natAbs := by
  obtain ⟨g, hg, h1, h2, h3⟩ := rt_parts a b hb
  have e1 : a.natAbs = g.natAbs * (rt a b).1.natAbs := by rw [← Int.natAbs_mul, ← h1]
  have e2 : b.natAbs = g.natAbs * (rt a b).2.natAbs := by rw [← Int.natAbs_mul, ← h2]
  have hgn : 1 ≤ g.natAbs := by omega
  constructor
  · rw [e1]; exact Nat.le_mul_of_pos_left _ hgn
  · rw [e2]; exact Nat.le_mul_of_pos_left _ hgn
theorem rt_sz {a b : Int} {n : Nat} (hb : 0 < b) (h1 : a.natAbs < 2 ^ n) (h2 : b.natAbs < 2 ^ n) : Sz n (rt a b) :=
  ⟨rt_pos hb, Nat.lt_of_le_of_lt (rt_small hb).1 h1, Nat.lt_of_le_of_lt (rt_small hb).2 h2, rt_low hb⟩
theorem low_unique {p q : Q2} (hp : 0 < p.2) (hq : 0 < q.2) (gp : Nat.gcd p.1.natAbs p.2.natAbs = 1) (gq : Nat.gcd q.1.natAbs q.2.natAbs = 1) (h : p.1 * q.2 = q.1 * p.2) : p = q := by
  have d1 : p.2.natAbs ∣ q.2.natAbs := by
    have : p.2.natAbs ∣ p.1.natAbs * q.2.natAbs := by
      rw [← Int.natAbs_mul, h, Int.natAbs_mul]
      exact Nat.dvd_mul_left _ _
    exact (Nat.Coprime.dvd_of_dvd_mul_left (show Nat.Coprime p.2.natAbs p.1.natAbs by rw [Nat.Coprime, Nat.gcd_comm]; exact gp) this)
  have d2 : q.2.natAbs ∣ p.2.natAbs := by
    have : q.2.natAbs ∣ q.1.natAbs * p.2.natAbs := by
      rw [← Int.natAbs_mul, ← h, Int.natAbs_mul]
      exact Nat.dvd_mul_left _ _
    exact (Nat.Coprime.dvd_of_dvd_mul_left (show Nat.Coprime q.2.natAbs q.1.natAbs by rw [Nat.Coprime, Nat.gcd_comm]; exact gq) this)
  have e : p.2 = q.2 := by
    have := Nat.dvd_antisymm d1 d2
    omega
  refine Prod.ext ?_ e
  rw [e] at h
  exact Int.eq_of_mul_eq_mul_right (by omega) h
theorem val_inj {n m : Nat} {p q : Q2} (hp : Sz n p) (hq : Sz m q) (h : val p = val q) : p = q := by
  refine low_unique hp.pos hq.pos hp.low hq.low ?_
  have a := cast_ne hp.pos
  have b := cast_ne hq.pos
  unfold val at h
  have : ((p.1 * q.2 : Int) : Rat) = ((q.1 * p.2 : Int) : Rat) := by
    rw [Rat.intCast_mul, Rat.intCast_mul]
    grind
  exact Rat.intCast_inj.mp this
theorem val_lt {p q : Q2} (hp : 0 < p.2) (hq : 0 < q.2) : val p < val q ↔ p.1 * q.2 < q.1 * p.2 := by
  have a := cast_pos hp
  have b := cast_pos hq
  unfold val
  rw [Rat.div_lt_iff a, ← Rat.intCast_lt_intCast, Rat.intCast_mul, Rat.intCast_mul]
  have e : (q.1 : Rat) / q.2 * p.2 = (q.1 * p.2 : Rat) / q.2 := by
    have := cast_ne hq
    grind
  rw [e, Rat.lt_div_iff b]
theorem sz_int {i : Int} {n : Nat} (h : i.natAbs < 2 ^ n) (hn : 0 < n) : Sz n (i, 1) := ⟨by show (0:Int) < 1; decide, h, by
  show 1 < 2 ^ n
  exact Nat.one_lt_two_pow (by omega), by simp⟩
theorem val_int (i : Int) : val (i, 1) = (i : Rat) := by
  unfold val
  show (i : Rat) / ((1 : Int) : Rat) = i
  have : ((1 : Int) : Rat) = 1 := rfl
  rw [this]
  grind
/-! ### the operations within their bounds -/
theorem log2_lt {a : Int} {k : Nat} (h : a.natAbs < 2 ^ k) (hk : 0 < k) : a.natAbs.log2 < k := by
  by_cases h0 : a.natAbs = 0
  · rw [h0]; simpa using hk
  · exact (Nat.log2_lt h0).mpr h
theorem mul_bits {a b : Int} {n m : Nat} (ha : a.natAbs < 2 ^ n) (hb : b.natAbs < 2 ^ m) : (a * b).natAbs < 2 ^ (n + m) := by
  rw [Int.natAbs_mul, Nat.pow_add]
  exact Nat.mul_lt_mul'' ha hb
theorem mul_ok {x y : Int} {n m : Nat} (hx : x.natAbs < 2 ^ n) (hy : y.natAbs < 2 ^ m) (h : n + m ≤ 900000) : mulO x y = some (x * y) := by
  have h1 := log2_lt (k := n + 1) (Nat.lt_of_lt_of_le hx (Nat.pow_le_pow_right (by decide) (by omega))) (by omega)
  have h2 := log2_lt (k := m + 1) (Nat.lt_of_lt_of_le hy (Nat.pow_le_pow_right (by decide) (by omega))) (by omega)
  unfold mulO cMul
  rw [if_pos (decide_eq_true (by omega))]
theorem div_ok {x y : Int} {m : Nat} (h0 : 0 < y) (hy : y.natAbs < 2 ^ m) (h : m ≤ 8990) : divO x y = some (x / y) := by
  have h2 := log2_lt (k := m + 1) (Nat.lt_of_lt_of_le hy (Nat.pow_le_pow_right (by decide) (by omega))) (by omega)
  unfold divO cDiv
  rw [if_pos (decide_eq_true ⟨h0, by omega⟩)]
theorem gcd_bits {a b : Int} {n : Nat} (hb : 0 < b) (h : b.natAbs < 2 ^ n) : ((Nat.gcd a.natAbs b.natAbs : Nat) : Int).natAbs < 2 ^ n := by
  rw [Int.natAbs_natCast]
  exact Nat.lt_of_le_of_lt (Nat.le_of_dvd (by omega) (Nat.gcd_dvd_right _ _)) h
theorem ratio_ok {a b : Int} {n : Nat} (hb : 0 < b) (h : b.natAbs < 2 ^ n) (hn : n ≤ 8990) : N_ratio a b = some (rt a b) := by
  have hg := gcd_pos (a := a) hb
  unfold N_ratio
  rw [Option.bind_some, div_ok (by omega) (gcd_bits hb h) hn, div_ok (by omega) (gcd_bits hb h) hn]
  rfl
/-! Euclid's loop -/
theorem gcd_step (a b : Nat) : Nat.gcd a b = Nat.gcd b (a % b) := by
  rw [Nat.gcd_comm a b, Nat.gcd_rec b a, Nat.gcd_comm]
theorem euc_go {T : Int × Int → Option Bool} {Bd : Int × Int → Option (Int × Int)} (hT : ∀ s, T s = some (!decide (s.2 = 0))) (hB : ∀ i j : Nat, 0 < j → Bd ((i : Int), (j : Int)) = some ((j : Int), ((i % j : Nat) : Int))) :
    ∀ (k i j n : Nat), j < 2 ^ k → 2 * k + 1 ≤ n → whileO T Bd n ((i : Int), (j : Int)) = some (((Nat.gcd i j : Nat) : Int), 0) := by
  have stop : ∀ (i n : Nat), 1 ≤ n → whileO T Bd n ((i : Int), ((0 : Nat) : Int)) = some (((Nat.gcd i 0 : Nat) : Int), 0) := by
    intro i n hn
    obtain ⟨n, rfl⟩ : ∃ m, n = m + 1 := ⟨n - 1, by omega⟩
    unfold whileO
    rw [hT]
    simp
  have step : ∀ (i j n : Nat), 0 < j → whileO T Bd (n + 1) ((i : Int), (j : Int)) = whileO T Bd n ((j : Int), ((i % j : Nat) : Int)) := by
    intro i j n hj
    have ew : whileO T Bd (n + 1) ((i : Int), (j : Int)) = (T ((i : Int), (j : Int))).bind fun k => match k with
      | true => (Bd ((i : Int), (j : Int))).bind (whileO T Bd n)
      | false => some ((i : Int), (j : Int)) := rfl
    rw [ew, hT, hB i j hj]
    have : (!decide (((i : Int), (j : Int)).2 = 0)) = true := by simp; omega
    rw [this]
    rfl
  intro k
  induction k with
  | zero =>
    intro i j n hj hn
    have : j = 0 := by simp at hj; omega
    subst this
    exact stop i n (by omega)
  | succ k ih =>
    intro i j n hj hn
    by_cases h0 : j = 0
    · subst h0; exact stop i n (by omega)
    · obtain ⟨n, rfl⟩ : ∃ m, n = m + 1 := ⟨n - 1, by omega⟩
      rw [step i j n (by omega)]
      by_cases h1 : i % j = 0
      · rw [h1, stop j n (by omega)]
        rw [gcd_step i j, h1]
      · obtain ⟨n, rfl⟩ : ∃ m, n = m + 1 := ⟨n - 1, by omega⟩
        rw [step j (i % j) n (by omega)]
        have hr : i % j < j := Nat.mod_lt _ (by omega)
        have hs : j % (i % j) < 2 ^ k := by
          have h2 : j % (i % j) < i % j := Nat.mod_lt _ (by omega)
          have h3 : j % (i % j) + (i % j) ≤ j := by
            have := Nat.div_add_mod j (i % j)
            have h4 : 1 ≤ j / (i % j) := (Nat.le_div_iff_mul_le (by omega)).mpr (by omega)
            have h5 := Nat.mul_le_mul_left (i % j) h4
            omega
          rw [Nat.pow_succ] at hj
          omega
        rw [ih (i % j) (j % (i % j)) n hs (by omega)]
        rw [gcd_step i j, gcd_step j (i % j)]
theorem natAbs_pow {b : Int} {n : Nat} (h : b.natAbs < 2 ^ n) : b.natAbs < 2 ^ n := h
theorem abs1_eq (a : Int) : abs1 a = (a.natAbs : Int) := by
  unfold abs1
  split <;> omega
theorem law_ratio_ok {a b : Int} {n : Nat} (hb : 0 < b) (h : b.natAbs < 2 ^ n) (hn : n ≤ 8990) : N__law_ratio a b = some (rt a b) := by
  unfold N__law_ratio
  rw [Option.bind_some, Option.bind_some, abs1_eq, abs1_eq]
  have e := euc_go (T := fun s5 : Int × Int => (some (!decide (s5.2 = (0 : Int))))) (Bd := fun s5 : Int × Int => ((some s5.2).bind fun one_12 => (modO s5.1 s5.2).bind fun other_13 => some (one_12, other_13))) (fun s => rfl) (fun i j hj => by
    unfold modO cMod
    rw [if_pos (decide_eq_true (by show ((j : Nat) : Int) ≠ 0; omega))]
    show some (((j : Nat) : Int), ((i : Nat) : Int).fmod ((j : Nat) : Int)) = _
    rw [Int.fmod_eq_emod_of_nonneg _ (by omega)]
    rfl) n a.natAbs b.natAbs FUEL h (by unfold FUEL; omega)
  have e2 : ∀ (f : Int × Int → Option (Int × Int)), ((whileO (fun s5 : Int × Int => (some (!decide (s5.2 = (0 : Int))))) (fun s5 : Int × Int => ((some s5.2).bind fun one_12 => (modO s5.1 s5.2).bind fun other_13 => some (one_12, other_13))) FUEL ((a.natAbs : Int), (b.natAbs : Int))).bind f) = f (((Nat.gcd a.natAbs b.natAbs : Nat) : Int), 0) := fun f => by rw [e]; rfl
  refine (e2 _).trans ?_
  have hg := gcd_pos (a := a) hb
  rw [decide_eq_true hb]
  show (divO a _).bind _ = _
  rw [div_ok (by omega) (gcd_bits hb h) hn, div_ok (by omega) (gcd_bits hb h) hn]
  rfl
theorem cross_bits {p q : Q2} {n m : Nat} (hp : Sz n p) (hq : Sz m q) : (p.1 * q.2 + q.1 * p.2).natAbs < 2 ^ (n + m + 1) ∧ (p.2 * q.2).natAbs < 2 ^ (n + m) ∧ 0 < p.2 * q.2 := by
  refine ⟨?_, mul_bits hp.bot hq.bot, Int.mul_pos hp.pos hq.pos⟩
  have h1 := mul_bits hp.top hq.bot
  have h2 := mul_bits hq.top hp.bot
  rw [Nat.add_comm m n] at h2
  have h3 := Int.natAbs_add_le (p.1 * q.2) (q.1 * p.2)
  rw [Nat.pow_succ]
  omega
theorem pow_up {a : Int} {n m : Nat} (h : a.natAbs < 2 ^ n) (hm : n ≤ m) : a.natAbs < 2 ^ m := Nat.lt_of_lt_of_le h (Nat.pow_le_pow_right (by decide) hm)
theorem plus_val {p q : Q2} (hp : 0 < p.2) (hq : 0 < q.2) : ((p.1 * q.2 + q.1 * p.2 : Int) : Rat) / ((p.2 * q.2 : Int) : Rat) = val p + val q := by
  have a := cast_ne hp
  have b := cast_ne hq
  unfold val
  rw [Rat.intCast_add, Rat.intCast_mul, Rat.intCast_mul, Rat.intCast_mul]
  grind
theorem law_plus_ok {p q : Q2} {n m : Nat} (hp : Sz n p) (hq : Sz m q) (h : n + m + 1 ≤ 8990) : ∃ r, N__law_plus p q = some r ∧ val r = val p + val q ∧ Sz (n + m + 1) r := by
  obtain ⟨h1, h2, h3⟩ := cross_bits hp hq
  refine ⟨rt (p.1 * q.2 + q.1 * p.2) (p.2 * q.2), ?_, (rt_val h3).trans (plus_val hp.pos hq.pos), rt_sz h3 h1 (pow_up h2 (by omega))⟩
  unfold N__law_plus
  rw [mul_ok hp.top hq.bot (by omega), mul_ok hq.top hp.bot (by omega), mul_ok hp.bot hq.bot (by omega)]
  exact law_ratio_ok h3 h2 (by omega)
theorem law_by_ok {p q : Q2} {n m : Nat} (hp : Sz n p) (hq : Sz m q) (h : n + m ≤ 8990) : ∃ r, N__law_by p q = some r ∧ val r = val p * val q ∧ Sz (n + m) r := by
  have h1 := mul_bits hp.top hq.top
  have h2 := mul_bits hp.bot hq.bot
  have h3 : 0 < p.2 * q.2 := Int.mul_pos hp.pos hq.pos
  refine ⟨rt (p.1 * q.1) (p.2 * q.2), ?_, ?_, rt_sz h3 h1 h2⟩
  · unfold N__law_by
    rw [mul_ok hp.top hq.top (by omega), mul_ok hp.bot hq.bot (by omega)]
    exact law_ratio_ok h3 h2 (by omega)
  · rw [rt_val h3]
    have a := cast_ne hp.pos
    have b := cast_ne hq.pos
    unfold val
    rw [Rat.intCast_mul, Rat.intCast_mul]
    grind
theorem law_less_ok {p q : Q2} {n m : Nat} (hp : Sz n p) (hq : Sz m q) (h : n + m ≤ 900000) : N__law_less p q = some (decide (val p < val q)) := by
  unfold N__law_less
  rw [mul_ok hp.top hq.bot (by omega), mul_ok hq.top hp.bot (by omega)]
  simp only [Option.bind_some]
  rw [decide_eq_decide.mpr (val_lt hp.pos hq.pos)]
theorem is_less_ok {p q : Q2} {n m : Nat} (hp : Sz n p) (hq : Sz m q) (h : n + m ≤ 900000) : N_is_less p q = some (decide (val p < val q)) := by
  unfold N_is_less
  rw [mul_ok hp.top hq.bot (by omega), mul_ok hq.top hp.bot (by omega)]
  simp only [Option.bind_some]
  rw [decide_eq_decide.mpr (val_lt hp.pos hq.pos)]
theorem law_is_ratio_ok {p : Q2} {n : Nat} (hp : Sz n p) (hn : n ≤ 8990) : N__law_is_ratio p = some true := by
  unfold N__law_is_ratio
  have e : compL (fun i7 : Int => (some ((!true) || false))) (fun i7 => (some i7)) [p.1, p.2] = some [] := by
    unfold compL
    rw [if_pos (by simp)]
    rfl
  show iteO (some false) _ (iteO (some (!decide ((2 : Int) = 2))) _ (iteO ((compL _ _ [p.1, p.2]).bind _) _ _)) = _
  rw [iteO_f]
  show iteO (some false) _ (iteO ((compL _ _ [p.1, p.2]).bind _) _ _) = _
  rw [iteO_f, e]
  show iteO (some false) _ (andO (some (decide (0 < p.2))) ((N__law_ratio p.1 p.2).bind _)) = _
  rw [iteO_f, decide_eq_true hp.pos, andO_t, law_ratio_ok hp.pos hp.bot hn, Option.bind_some]
  have e2 : rt p.1 p.2 = p := by
    unfold rt
    rw [hp.low]
    simp
  rw [e2]
  simp
end Ty
set_option Elab.async false
set_option linter.all false
set_option maxRecDepth 100000
set_option maxHeartbeats 4000000
/-! Values: dams, windows, yields. -/
namespace Ty
open PySem PySem.Spec PyProof.Rows L2 DN
/-! ### lists in the Option monad -/
section
variable {α β γ σ : Type}
theorem compO_all {B : α → Option β} {g : α → β} : ∀ l : List α, (∀ x ∈ l, B x = some (g x)) → compO (fun _ => some true) B l = some (l.map g)
  | [], _ => rfl
  | x :: r, h => by
    rw [compO_cons, Option.bind_some, h x List.mem_cons_self]
    show ((compO (fun _ => some true) B r).bind fun ys => some (g x :: ys)) = _
    rw [compO_all r fun y hy => h y (List.mem_cons_of_mem _ hy)]
    rfl
theorem compL_all {B : α → Option β} {g : α → β} {l : List α} (hl : l.length ≤ 1000000) (h : ∀ x ∈ l, B x = some (g x)) : compL (fun _ => some true) B l = some (l.map g) := by
  unfold compL
  rw [if_pos hl, compO_all l h]
theorem compL_filter {T : α → Option Bool} {t : α → Bool} {l : List α} (hl : l.length ≤ 1000000) (h : ∀ x ∈ l, T x = some (t x)) : compL T (fun i => some i) l = some (l.filter t) := by
  unfold compL
  rw [if_pos hl, compO_filter l h]
theorem comp2O_all {M : α → Option (List β)} {m : α → List β} {g : α → β → γ} : ∀ l : List α, (∀ x ∈ l, M x = some (m x)) → comp2O (fun _ => some true) M (fun _ _ => some true) (fun x y => some (g x y)) l = some (l.flatMap fun x => (m x).map (g x))
  | [], _ => rfl
  | x :: r, h => by
    rw [comp2O_cons, Option.bind_some, h x List.mem_cons_self]
    show ((compO (fun _ => some true) (fun y => some (g x y)) (m x)).bind fun ys => (comp2O (fun _ => some true) M (fun _ _ => some true) (fun x y => some (g x y)) r).bind fun zs => some (ys ++ zs)) = _
    rw [compO_all (m x) fun y _ => rfl, comp2O_all r fun y hy => h y (List.mem_cons_of_mem _ hy)]
    rfl
theorem foldO_ind {Bd : α → σ → Option σ} {P : List α → σ → Prop} : ∀ (l : List α) (s : σ), P l s → (∀ x r s, P (x :: r) s → (∀ y ∈ x :: r, y ∈ l) → ∃ s', Bd x s = some s' ∧ P r s') → ∃ s', foldO Bd l s = some s' ∧ P [] s'
  | [], s, h, _ => ⟨s, rfl, h⟩
  | x :: r, s, h, H => by
    obtain ⟨s', h1, h2⟩ := H x r s h fun y hy => hy
    obtain ⟨s2, h3, h4⟩ := foldO_ind r s' h2 fun y q t hp hq => H y q t hp fun z hz => List.mem_cons_of_mem _ (hq z hz)
    refine ⟨s2, ?_, h4⟩
    show (Bd x s).bind (foldO Bd r) = _
    rw [h1]
    exact h3
theorem allO_true {B : α → Option Bool} : ∀ l : List α, (∀ x ∈ l, B x = some true) → allO true B l = some true
  | [], _ => rfl
  | x :: r, h => by
    rw [allO_cons, h x List.mem_cons_self, Option.bind_some, if_pos rfl]
    exact allO_true r fun y hy => h y (List.mem_cons_of_mem _ hy)
end
theorem range1_nat {n : Nat} (h : n ≤ 1000000) : range1O (n : Int) = some ((List.range n).map fun i : Nat => (0 + (i : Int))) := range_self n h
theorem range2_nat {m n : Nat} (h : n ≤ 1000000) (hm : m ≤ 1000000) : range2O (m : Int) (n : Int) = some ((List.range (n - m)).map fun i : Nat => ((m : Int) + (i : Int))) := by
  unfold range2O
  rw [if_pos (by omega), show ((n : Int) - (m : Int)).toNat = n - m by omega]
theorem cutT_nat {α : Type} {l : List α} {f g : Nat} (h : f ≤ g) (hg : g ≤ l.length) : cutT l (some (f : Int)) (some (g : Int)) = (l.drop f).take (g - f) := by
  unfold cutT
  rw [HT.sIx_nat, HT.sIx_nat, Nat.min_eq_left (by omega), Nat.min_eq_left (by omega)]
/-! ### the checks -/
theorem between_ok {i lo hi : Int} : N_is_between i lo hi = some (decide (lo ≤ i) && decide (i ≤ hi)) := by
  unfold N_is_between N_is_whole
  rfl
theorem row_ok {l : List Int} {lo hi : Int} (h : ∀ x ∈ l, lo ≤ x ∧ x ≤ hi) : N_is_row_between l lo hi = some true := by
  unfold N_is_row_between
  rw [andO_t, allO_true l fun x hx => by rw [between_ok, decide_eq_true (h x hx).1, decide_eq_true (h x hx).2]; rfl]
theorem inflows_ok {l : List Int} (h : Flows l) (h0 : 0 < l.length) (h1 : l.length ≤ 12) : N_is_inflows l = some true := by
  unfold N_is_inflows
  rw [row_ok h, andO_t, decide_eq_true (by omega), decide_eq_true (by omega)]
  rfl
theorem check_inflows_ok {l : List Int} (h : Flows l) (h0 : 0 < l.length) (h1 : l.length ≤ 12) : N_check_inflows l = some () := by
  unfold N_check_inflows
  rw [inflows_ok h h0 h1]
  rfl
theorem check_capacity_ok {c m : Int} (h0 : 0 ≤ c) (h1 : c ≤ m) : N_check_capacity c m = some () := by
  unfold N_check_capacity
  rw [between_ok, decide_eq_true h0, decide_eq_true h1]
  rfl
theorem DamIn.len {m : Int} {d : DamT} (h : DamIn m d) (hm : m ≤ 12) : d.2.2.2.length ≤ 12 := by
  have := h.l1
  omega
theorem check_dam_ok {m : Int} {d : DamT} (h : DamIn m d) (hm : m ≤ 12) : N_check_dam d = some () := by
  unfold N_check_dam N_is_dam
  rw [Option.bind_some, between_ok, between_ok, between_ok, inflows_ok h.fl h.l0 (h.len hm), decide_eq_true h.c0, decide_eq_true h.c1, decide_eq_true h.s0, decide_eq_true h.s1, decide_eq_true h.e0, decide_eq_true h.e1]
  rfl
/-- what is held in the end where nothing but what is above the capacity leaves -/
def fill (C : Int) : Int → List Int → Int
  | h, [] => h
  | h, x :: r => fill C (min2 C (h + x)) r
theorem fill_fold (C : Int) : ∀ (l : List Int) (h : Int), foldO (fun (i5 s3 : Int) => ((some (min2 C (s3 + i5))).bind fun held_6 => some held_6)) l h = some (fill C h l)
  | [], h => rfl
  | x :: r, h => by
    show (some (min2 C (h + x))).bind (foldO _ r) = _
    exact fill_fold C r _
theorem has_plan_ok {d : DamT} (h : d.2.2.1 ≤ fill d.1 d.2.1 d.2.2.2) : N_check_has_plan d = some () := by
  unfold N_check_has_plan
  rw [Option.bind_some, fill_fold]
  show (iteO (some (decide (fill d.1 d.2.1 d.2.2.2 < d.2.2.1))) none (some ())).bind _ = _
  rw [decide_eq_false (by omega)]
  rfl
theorem most_held_ok (d : DamT) : N__law_most_held d = some (fill d.1 d.2.1 d.2.2.2) := by
  unfold N__law_most_held
  rw [Option.bind_some, fill_fold]
  rfl
/-! ### windows -/
def heldAt (C S : Int) (f : Nat) : Int := if f = 0 then S else C
def part (xs : List Int) (f l : Nat) : Int := ((xs.drop f).take (l + 1 - f)).sum
def spareW (d : DamT) (f l : Nat) : Int := heldAt d.1 d.2.1 f + part d.2.2.2 f l - (if l + 1 = d.2.2.2.length then d.2.2.1 else 0)
def winI (k : Nat) : List (Int × Int) := (List.range k).flatMap fun f : Nat => (List.range (k - f)).map fun j : Nat => ((f : Int), (f : Int) + (j : Int))
theorem winI_mem {k : Nat} {p : Int × Int} : p ∈ winI k ↔ ∃ f l : Nat, p = ((f : Int), (l : Int)) ∧ f ≤ l ∧ l < k := by
  unfold winI
  simp only [List.mem_flatMap, List.mem_range, List.mem_map]
  constructor
  · rintro ⟨f, hf, j, hj, rfl⟩
    exact ⟨f, f + j, by rw [Int.natCast_add], by omega, by omega⟩
  · rintro ⟨f, l, rfl, h1, h2⟩
    exact ⟨f, by omega, l - f, by omega, by rw [show (f : Int) + ((l - f : Nat) : Int) = (l : Int) by omega]⟩
theorem winI_len {k : Nat} (h : k ≤ 12) : (winI k).length ≤ 144 := by
  unfold winI
  rw [List.length_flatMap]
  have : ∀ l : List Nat, (∀ f ∈ l, f < 12) → (l.map fun f => ((List.range (k - f)).map fun j : Nat => ((f : Int), (f : Int) + (j : Int))).length).sum ≤ l.length * 12 := by
    intro l
    induction l with
    | nil => intro _; simp
    | cons a r ih =>
      intro hh
      have := ih fun f hf => hh f (List.mem_cons_of_mem _ hf)
      simp at this ⊢
      omega
  have h2 := this (List.range k) fun f hf => by have := List.mem_range.mp hf; omega
  rw [List.length_range] at h2
  omega
theorem windows_ok {k : Nat} (h : k ≤ 12) : N_windows (k : Int) = some (winI k) := by
  unfold N_windows
  rw [range1_nat (by omega), Option.bind_some]
  unfold comp2L
  rw [comp2O_all (m := fun x : Int => (List.range (k - x.toNat)).map fun j : Nat => (x + (j : Int))) (g := fun x y => (x, y))]
  · have e : (List.map (fun i : Nat => (0 + (i : Int))) (List.range k)).flatMap (fun x : Int => ((List.range (k - x.toNat)).map fun j : Nat => (x + (j : Int))).map fun y => (x, y)) = winI k := by
      unfold winI
      rw [List.flatMap_map]
      refine congrArg (fun z => List.flatMap z (List.range k)) (funext fun f => ?_)
      rw [List.map_map]
      simp
    rw [e, Option.bind_some, if_pos (by have := winI_len h; omega)]
  · intro x hx
    obtain ⟨f, hf, rfl⟩ := List.mem_map.mp hx
    have := List.mem_range.mp hf
    have h2 := range2_nat (m := f) (n := k) (by omega) (by omega)
    rw [Int.zero_add, h2]
    simp
theorem in_window_ok {xs : List Int} {f l : Nat} (h1 : f ≤ l) (h2 : l < xs.length) : N_in_window xs ((f : Int), (l : Int)) = some ((xs.drop f).take (l + 1 - f)) := by
  unfold N_in_window
  show some (cutT xs (some (f : Int)) (some ((l : Int) + 1))) = _
  rw [show (l : Int) + 1 = ((l + 1 : Nat) : Int) by omega, cutT_nat (by omega) (by omega)]
theorem most_water_ok {d : DamT} {f l : Nat} (h1 : f ≤ l) (h2 : l < d.2.2.2.length) : N_most_water d ((f : Int), (l : Int)) = some (heldAt d.1 d.2.1 f + part d.2.2.2 f l) := by
  unfold N_most_water
  rw [Option.bind_some, Option.bind_some, Option.bind_some, in_window_ok h1 h2]
  show some (cond (decide ((f : Int) = 0)) d.2.1 d.1 + _) = _
  unfold heldAt part
  by_cases h : f = 0
  · rw [if_pos h, decide_eq_true (by omega)]; rfl
  · rw [if_neg h, decide_eq_false (by omega)]; rfl
theorem spare_water_ok {d : DamT} {f l : Nat} (h1 : f ≤ l) (h2 : l < d.2.2.2.length) : N_spare_water d ((f : Int), (l : Int)) = some (spareW d f l) := by
  unfold N_spare_water
  rw [Option.bind_some, most_water_ok h1 h2, Option.bind_some]
  show some (cond (decide ((l : Int) = (d.2.2.2.length : Int) - 1)) _ _) = _
  unfold spareW
  by_cases h : l + 1 = d.2.2.2.length
  · rw [if_pos h, decide_eq_true (by omega)]; rfl
  · rw [if_neg h, decide_eq_false (by omega)]
    show some (_ + _) = _
    rw [Int.sub_zero]
theorem window_yield_ok {d : DamT} {f l : Nat} (h1 : f ≤ l) (h2 : l < d.2.2.2.length) (h12 : d.2.2.2.length ≤ 12) : N_window_yield d ((f : Int), (l : Int)) = some (rt (spareW d f l) ((l : Int) - (f : Int) + 1)) := by
  unfold N_window_yield
  rw [Option.bind_some, spare_water_ok h1 h2, Option.bind_some, Option.bind_some]
  exact ratio_ok (n := 4) (by omega) (by omega) (by decide)
theorem least_ratio_ok {n : Nat} {l : List Q2} (hn : n ≤ 4000) (h0 : l ≠ []) (h : ∀ p ∈ l, Sz n p) : ∃ q, N_least_ratio l = some q ∧ q ∈ l ∧ ∀ p ∈ l, val q ≤ val p := by
  cases l with
  | nil => exact absurd rfl h0
  | cons a r =>
    have ha : atI (a :: r) (0 : Int) = some a := atI_nat (l := a :: r) (i := 0) (by simp)
    obtain ⟨q, h1, h2, h3, _⟩ := foldO_ind (Bd := fun i6 s4 => (iteO (N_is_less i6 s4) ((some i6).bind fun least_7 => some least_7) (some s4))) (P := fun rest s => s ∈ a :: r ∧ (∀ p ∈ a :: r, p ∈ rest ∨ val s ≤ val p) ∧ ∀ p ∈ rest, p ∈ a :: r) (a :: r) a ⟨List.mem_cons_self, fun p hp => .inl hp, fun p hp => hp⟩ (fun x rest s ⟨h1, h2, h3⟩ _ => by
      have hx := h x (h3 x List.mem_cons_self)
      have hs := h s h1
      show ∃ s', iteO (N_is_less x s) ((some x).bind fun least_7 => some least_7) (some s) = some s' ∧ _
      rw [is_less_ok hx hs (by omega)]
      by_cases hl : val x < val s
      · rw [decide_eq_true hl]
        refine ⟨x, rfl, h3 x List.mem_cons_self, fun p hp => ?_, fun p hp => h3 p (List.mem_cons_of_mem _ hp)⟩
        rcases h2 p hp with e | e
        · rcases List.mem_cons.mp e with e | e
          · exact .inr (by rw [e]; exact Rat.le_refl)
          · exact .inl e
        · exact .inr (by grind)
      · rw [decide_eq_false hl]
        refine ⟨s, rfl, h1, fun p hp => ?_, fun p hp => h3 p (List.mem_cons_of_mem _ hp)⟩
        rcases h2 p hp with e | e
        · rcases List.mem_cons.mp e with e | e
          · exact .inr (by rw [e]; grind)
          · exact .inl e
        · exact .inr e)
    refine ⟨q, ?_, h2, fun p hp => (h3 p hp).elim (fun z => nomatch z) id⟩
    unfold N_least_ratio
    rw [ha, Option.bind_some, h1]
    rfl
/-- the firm yield: the least of all windows' -/
theorem part_small {xs : List Int} (h : Flows xs) (h12 : xs.length ≤ 12) (f l : Nat) : 0 ≤ part xs f l ∧ part xs f l ≤ 12000 := by
  unfold part
  have key : ∀ ys : List Int, (∀ y ∈ ys, 0 ≤ y ∧ y ≤ 1000) → 0 ≤ ys.sum ∧ ys.sum ≤ 1000 * ys.length := by
    intro ys
    induction ys with
    | nil => intro _; simp
    | cons a r ih =>
      intro hh
      have h1 := hh a List.mem_cons_self
      have h2 := ih fun y hy => hh y (List.mem_cons_of_mem _ hy)
      simp only [List.sum_cons, List.length_cons]
      omega
  have h1 := key ((xs.drop f).take (l + 1 - f)) fun y hy => h y (List.mem_of_mem_drop (List.mem_of_mem_take hy))
  have h2 : ((xs.drop f).take (l + 1 - f)).length ≤ 12 := by
    rw [List.length_take, List.length_drop]
    omega
  omega
theorem spare_small {m : Int} {d : DamT} (h : DamIn m d) (hm : m ≤ 12) (f l : Nat) : (spareW d f l).natAbs < 2 ^ 15 := by
  have h1 := part_small h.fl (h.len hm) f l
  have := h.c0; have := h.c1; have := h.s0; have := h.s1; have := h.e0; have := h.e1
  unfold spareW heldAt
  split <;> split <;> omega
theorem win_val {a : Int} {f l : Nat} (h : f ≤ l) : val (rt a ((l : Int) - (f : Int) + 1)) = (a : Rat) / (((l : Int) - (f : Int) + 1 : Int) : Rat) := rt_val (by omega)
theorem firm_yield_ok {m : Int} {d : DamT} (h : DamIn m d) (hm : m ≤ 12) (hE : d.2.2.1 ≤ fill d.1 d.2.1 d.2.2.2) :
    ∃ q, N_firm_yield d = some q ∧ Sz 15 q ∧ (∃ f l : Nat, f ≤ l ∧ l < d.2.2.2.length ∧ q = rt (spareW d f l) ((l : Int) - (f : Int) + 1)) ∧ ∀ f l : Nat, f ≤ l → l < d.2.2.2.length → val q * ((((l : Int) - (f : Int) + 1 : Int)) : Rat) ≤ (spareW d f l : Rat) := by
  have h12 := h.len hm
  have hsz : ∀ f l : Nat, f ≤ l → l < d.2.2.2.length → Sz 15 (rt (spareW d f l) ((l : Int) - (f : Int) + 1)) := fun f l h1 h2 => rt_sz (by omega) (spare_small h hm f l) (by omega)
  have hmap : compL (fun _ => some true) (fun i3 => N_window_yield d i3) (winI d.2.2.2.length) = some ((winI d.2.2.2.length).map fun p => rt (spareW d p.1.toNat p.2.toNat) (p.2 - p.1 + 1)) := by
    refine compL_all (by have := winI_len h12; omega) fun p hp => ?_
    obtain ⟨f, l, rfl, h1, h2⟩ := winI_mem.mp hp
    rw [window_yield_ok h1 h2 h12]
    simp
  obtain ⟨q, h1, h2, h3⟩ := least_ratio_ok (n := 15) (l := (winI d.2.2.2.length).map fun p => rt (spareW d p.1.toNat p.2.toNat) (p.2 - p.1 + 1)) (by decide) (fun e => by
    have : ((0 : Int), (0 : Int)) ∈ winI d.2.2.2.length := winI_mem.mpr ⟨0, 0, rfl, Nat.le_refl _, h.l0⟩
    rw [List.map_eq_nil_iff] at e
    rw [e] at this
    cases this) (fun p hp => by
    obtain ⟨w, hw, rfl⟩ := List.mem_map.mp hp
    obtain ⟨f, l, rfl, h1, h2⟩ := winI_mem.mp hw
    have := hsz f l h1 h2
    simpa using this)
  obtain ⟨w, hw, e⟩ := List.mem_map.mp h2
  obtain ⟨f, l, rfl, g1, g2⟩ := winI_mem.mp hw
  have e' : q = rt (spareW d f l) ((l : Int) - (f : Int) + 1) := by rw [← e]; simp
  refine ⟨q, ?_, by rw [e']; exact hsz f l g1 g2, ⟨f, l, g1, g2, e'⟩, fun f l h4 h5 => ?_⟩
  · unfold N_firm_yield
    rw [check_dam_ok h hm, has_plan_ok hE, Option.bind_some, Option.bind_some, windows_ok h12, Option.bind_some, hmap, Option.bind_some]
    exact h1
  · have := h3 _ (List.mem_map.mpr ⟨((f : Int), (l : Int)), winI_mem.mpr ⟨f, l, rfl, h4, h5⟩, rfl⟩)
    simp only [Int.toNat_natCast] at this
    rw [win_val h4] at this
    have hp : (0 : Rat) < (((l : Int) - (f : Int) + 1 : Int) : Rat) := cast_pos (by omega)
    have h6 := Rat.mul_le_mul_of_nonneg_right this (Rat.le_of_lt hp)
    rwa [Rat.div_mul_cancel (fun e => by rw [e] at hp; exact absurd hp (by decide))] at h6
end Ty
set_option Elab.async false
set_option linter.all false
set_option maxRecDepth 100000
set_option maxHeartbeats 4000000
/-! Values: giving month by month, and the windows that allow it. -/
namespace Ty
open PySem PySem.Spec PyProof.Rows L2 DN
/-- whether a dam can give: z is what comes less what is given -/
def canB (C e : Rat) : Rat → List Rat → Bool
  | h, [] => decide (e ≤ h)
  | h, z :: r => if h + z < 0 then false else canB C e (if C < h + z then C else h + z) r
def Pre (e : Rat) : Rat → List Rat → Prop
  | h, [] => e ≤ h
  | h, z :: r => 0 ≤ h + z ∧ Pre e (h + z) r
theorem pre_min (e : Rat) : ∀ (r : List Rat) (a b : Rat), Pre e (if a < b then a else b) r ↔ Pre e a r ∧ Pre e b r
  | [], a, b => by
    unfold Pre
    split <;> constructor <;> intro h <;> grind
  | z :: r, a, b => by
    have ih := pre_min e r (a + z) (b + z)
    unfold Pre
    have hz : (if a < b then a else b) + z = if a + z < b + z then a + z else b + z := by
      split <;> split <;> grind
    rw [hz, ih]
    constructor
    · rintro ⟨h1, h2, h3⟩
      split at h1 <;> exact ⟨⟨by grind, h2⟩, by grind, h3⟩
    · rintro ⟨⟨h1, h2⟩, h3, h4⟩
      refine ⟨?_, h2, h4⟩
      split <;> assumption
theorem can_pre (C e : Rat) : ∀ (zs : List Rat) (h : Rat), canB C e h zs = true ↔ Pre e h zs ∧ ∀ f, 1 ≤ f → f ≤ zs.length → Pre e C (zs.drop f)
  | [], h => by
    unfold canB Pre
    rw [decide_eq_true_iff]
    exact ⟨fun a => ⟨a, fun f h1 h2 => by simp at h2; omega⟩, fun a => a.1⟩
  | z :: r, h => by
    have ih := can_pre C e r (if C < h + z then C else h + z)
    unfold canB
    by_cases hn : h + z < 0
    · rw [if_pos hn]
      constructor
      · intro a; cases a
      · rintro ⟨⟨a, _⟩, _⟩
        exact absurd a (by grind)
    · rw [if_neg hn, ih, pre_min]
      constructor
      · rintro ⟨⟨h1, h2⟩, h3⟩
        refine ⟨⟨by grind, h2⟩, fun f f1 f2 => ?_⟩
        obtain ⟨g, rfl⟩ : ∃ g, f = g + 1 := ⟨f - 1, by omega⟩
        rw [List.drop_succ_cons]
        by_cases g0 : g = 0
        · subst g0; exact h1
        · exact h3 g (by omega) (by simp at f2; omega)
      · rintro ⟨⟨h1, h2⟩, h3⟩
        refine ⟨⟨?_, h2⟩, fun f f1 f2 => ?_⟩
        · have := h3 1 (Nat.le_refl _) (by simp)
          rwa [List.drop_succ_cons] at this
        · have := h3 (f + 1) (by omega) (by simp; omega)
          rwa [List.drop_succ_cons] at this
theorem pre_sums (e : Rat) : ∀ (zs : List Rat) (h : Rat), Pre e h zs ↔ (∀ l, l < zs.length → 0 ≤ h + (zs.take (l + 1)).sum) ∧ e ≤ h + zs.sum
  | [], h => by
    unfold Pre
    simp
    grind
  | z :: r, h => by
    have ih := pre_sums e r (h + z)
    unfold Pre
    rw [ih]
    constructor
    · rintro ⟨h1, h2, h3⟩
      refine ⟨fun l hl => ?_, by rw [List.sum_cons]; grind⟩
      cases l with
      | zero => simp; grind
      | succ l =>
        have := h2 l (by simp at hl; omega)
        rw [List.take_succ_cons, List.sum_cons]
        grind
    · rintro ⟨h1, h2⟩
      rw [List.sum_cons] at h2
      refine ⟨?_, fun l hl => ?_, by grind⟩
      · have := h1 0 (by simp)
        simp at this
        grind
      · have := h1 (l + 1) (by simp; omega)
        rw [List.take_succ_cons, List.sum_cons] at this
        grind
/-! equal demands -/
theorem sum_less (r : Rat) : ∀ xs : List Int, (xs.map fun x : Int => ((x : Rat) - r)).sum = ((xs.sum : Int) : Rat) - r * ((xs.length : Int) : Rat)
  | [] => by simp; grind
  | x :: xs => by
    rw [List.map_cons, List.sum_cons, sum_less r xs, List.sum_cons, Rat.intCast_add]
    have : (((x :: xs).length : Int) : Rat) = ((xs.length : Int) : Rat) + 1 := by
      rw [List.length_cons]
      have e : ((xs.length + 1 : Nat) : Int) = (xs.length : Int) + 1 := by omega
      rw [e, Rat.intCast_add]
      rfl
    rw [this]
    grind
theorem pre_equal {e : Int} {H : Int} {r : Rat} {xs : List Int} : Pre (e : Rat) (H : Rat) (xs.map fun x : Int => ((x : Rat) - r)) ↔ (∀ l, l < xs.length → r * (((l : Int) + 1 : Int) : Rat) ≤ ((H + (xs.take (l + 1)).sum : Int) : Rat)) ∧ (e : Rat) + r * ((xs.length : Int) : Rat) ≤ ((H + xs.sum : Int) : Rat) := by
  rw [pre_sums, sum_less, List.length_map]
  have key : ∀ l, l < xs.length → (0 ≤ (H : Rat) + ((xs.map fun x : Int => ((x : Rat) - r)).take (l + 1)).sum ↔ r * (((l : Int) + 1 : Int) : Rat) ≤ ((H + (xs.take (l + 1)).sum : Int) : Rat)) := by
    intro l hl
    rw [← List.map_take, sum_less, List.length_take, Nat.min_eq_left (by omega), Rat.intCast_add]
    rw [show ((l + 1 : Nat) : Int) = (l : Int) + 1 by omega]
    constructor <;> intro h <;> grind
  rw [Rat.intCast_add]
  constructor
  · rintro ⟨h1, h2⟩
    exact ⟨fun l hl => (key l hl).mp (h1 l hl), by grind⟩
  · rintro ⟨h1, h2⟩
    exact ⟨fun l hl => (key l hl).mpr (h1 l hl), by grind⟩
/-- equal demands are given just where no window forbids it -/
theorem can_equal {d : DamT} {r : Rat} (hE : d.2.2.1 ≤ d.1) (h0 : 0 ≤ d.2.2.1) (hl0 : 0 < d.2.2.2.length) : canB (d.1 : Rat) (d.2.2.1 : Rat) (d.2.1 : Rat) (d.2.2.2.map fun x : Int => ((x : Rat) - r)) = true ↔
    ∀ f l : Nat, f ≤ l → l < d.2.2.2.length → r * (((l : Int) - (f : Int) + 1 : Int) : Rat) ≤ (spareW d f l : Rat) := by
  obtain ⟨C, S, E, xs⟩ := d
  simp only at hE h0 hl0 ⊢
  have hE' : (E : Rat) ≤ (C : Rat) := Rat.intCast_le_intCast.mpr hE
  have h0' : (0 : Rat) ≤ (E : Rat) := by simpa using Rat.intCast_le_intCast.mpr h0
  rw [can_pre]
  -- one start f
  have one : ∀ (H : Int) (f : Nat), f < xs.length → (Pre (E : Rat) (H : Rat) ((xs.map fun x : Int => ((x : Rat) - r)).drop f) ↔ ∀ l, f ≤ l → l < xs.length → r * (((l : Int) - (f : Int) + 1 : Int) : Rat) ≤ ((H + part xs f l - (if l + 1 = xs.length then E else 0) : Int) : Rat)) := by
    intro H f hf
    rw [← List.map_drop, pre_equal, List.length_drop]
    have hall : ((xs.drop f).take (xs.length - f)) = xs.drop f := List.take_of_length_le (by rw [List.length_drop]; exact Nat.le_refl _)
    constructor
    · rintro ⟨h1, h2⟩ l hl1 hl2
      unfold part
      by_cases hlast : l + 1 = xs.length
      · rw [if_pos hlast, show l + 1 - f = xs.length - f by omega, hall, Rat.intCast_sub]
        have e : (((xs.length - f : Nat) : Int) : Rat) = (((l : Int) - (f : Int) + 1 : Int) : Rat) := by
          congr 1
          omega
        rw [← e]
        grind
      · rw [if_neg hlast, Int.sub_zero]
        have := h1 (l - f) (by omega)
        rw [show ((l - f : Nat) : Int) + 1 = (l : Int) - (f : Int) + 1 by omega, show l - f + 1 = l + 1 - f by omega] at this
        exact this
    · intro h
      have hlast := h (xs.length - 1) (by omega) (by omega)
      rw [if_pos (by omega)] at hlast
      unfold part at hlast
      rw [show xs.length - 1 + 1 - f = xs.length - f by omega, hall, Rat.intCast_sub] at hlast
      have e : (((xs.length - f : Nat) : Int) : Rat) = ((((xs.length - 1 : Nat) : Int) - (f : Int) + 1 : Int) : Rat) := by
        congr 1
        omega
      rw [← e] at hlast
      refine ⟨fun l hl => ?_, by grind⟩
      have := h (f + l) (by omega) (by omega)
      unfold part at this
      rw [show ((f + l : Nat) : Int) - (f : Int) + 1 = (l : Int) + 1 by omega, show f + l + 1 - f = l + 1 by omega, Rat.intCast_sub] at this
      split at this
      · grind
      · have z : ((0 : Int) : Rat) = 0 := rfl
        rw [z] at this
        grind
  constructor
  · rintro ⟨h1, h2⟩ f l hfl hl
    by_cases f0 : f = 0
    · subst f0
      have := (one S 0 hl0).mp (by rw [List.drop_zero]; exact h1) l (Nat.zero_le _) hl
      unfold spareW heldAt
      rw [if_pos rfl]
      exact this
    · have := (one C f (by omega)).mp (h2 f (by omega) (by rw [List.length_map]; omega)) l hfl hl
      unfold spareW heldAt
      rw [if_neg f0]
      exact this
  · intro h
    refine ⟨?_, fun f f1 f2 => ?_⟩
    · have := (one S 0 hl0).mpr fun l hl1 hl2 => by
        have := h 0 l hl1 hl2
        unfold spareW heldAt at this
        rw [if_pos rfl] at this
        exact this
      rw [List.drop_zero] at this
      exact this
    · rw [List.length_map] at f2
      by_cases fe : f = xs.length
      · subst fe
        rw [List.drop_of_length_le (by rw [List.length_map]; exact Nat.le_refl _)]
        exact hE'
      · refine (one C f (by omega)).mpr fun l hl1 hl2 => ?_
        have := h f l hl1 hl2
        unfold spareW heldAt at this
        rw [if_neg (by omega)] at this
        exact this
end Ty
set_option Elab.async false
set_option linter.all false
set_option maxRecDepth 100000
set_option maxHeartbeats 4000000
/-! Values: the law's own way to give; round yields. -/
namespace Ty
open PySem PySem.Spec PyProof.Rows L2 DN
/-! ### _law_can -/
theorem neg_sz {n : Nat} {q : Q2} (h : Sz n q) : Sz n (0 - q.1, q.2) ∧ val (0 - q.1, q.2) = - val q := by
  refine ⟨⟨h.pos, by show (0 - q.1).natAbs < _; have := h.top; omega, h.bot, ?_⟩, ?_⟩
  · show Nat.gcd (0 - q.1).natAbs q.2.natAbs = 1
    have : (0 - q.1).natAbs = q.1.natAbs := by omega
    rw [this]
    exact h.low
  · unfold val
    show ((0 - q.1 : Int) : Rat) / (q.2 : Rat) = _
    rw [Rat.intCast_sub]
    have : ((0 : Int) : Rat) = 0 := rfl
    rw [this]
    grind
theorem val_neg_iff {n : Nat} {q : Q2} (h : Sz n q) : q.1 < 0 ↔ val q < 0 := by
  have := val_lt (p := q) (q := (0, 1)) h.pos (by show (0 : Int) < 1; decide)
  rw [val_int] at this
  have z : ((0 : Int) : Rat) = 0 := rfl
  rw [z] at this
  rw [this]
  simp
theorem range_suffix {α : Type} (f : Nat → α) (j n : Nat) : (List.range' j (n + 1)).map f = f j :: (List.range' (j + 1) n).map f := by
  rw [List.range'_succ, List.map_cons]
/-- the loop of _law_can: one month -/
def canStep (C : Int) (xs : List Int) (ds : List Q2) (i6 : Int) (s4 : Q2) : Option (Bool ⊕ Q2) := (((some s4).bind fun a25 => (((atI xs i6).bind fun x11 => (some (1 : Int)).bind fun x12 => some (x11, x12)).bind fun a23 => (((some (0 : Int)).bind fun x16 => ((atI ds i6).bind fun x15 => some x15.1).bind fun y17 => some (x16 - y17)).bind fun x21 => ((atI ds i6).bind fun x20 => some x20.2).bind fun x22 => some (x21, x22)).bind fun a24 => N__law_plus a23 a24).bind fun a26 => N__law_plus a25 a26).bind fun held_7 => (iteO (some (decide (held_7.1 < (0 : Int)))) ((some false).bind fun v34 => some (.inl v34)) (((iteO (N__law_less (C, (1 : Int)) held_7) (some (C, (1 : Int))) (some held_7)).bind fun held_30 => some held_30).bind fun s33 => some (.inr s33))))
theorem step_ok {C : Int} {xs : List Int} {ds : List Q2} {n N i : Nat} {s : Q2} (hC : 0 ≤ C ∧ C ≤ 1001) (hx : ∀ x ∈ xs, 0 ≤ x ∧ x ≤ 1001) (hd : ∀ d ∈ ds, Sz n d) (hs : Sz N s) (hN : N + n + 13 ≤ 8990) (hN1 : 11 ≤ N) (hi : i < xs.length) (hi2 : i < ds.length) :
    (val s + ((xs[i] : Rat) - val ds[i]) < 0 ∧ canStep C xs ds (0 + (i : Int)) s = some (.inl false)) ∨ (¬ val s + ((xs[i] : Rat) - val ds[i]) < 0 ∧ ∃ s', canStep C xs ds (0 + (i : Int)) s = some (.inr s') ∧ Sz (N + n + 13) s' ∧ val s' = if (C : Rat) < val s + ((xs[i] : Rat) - val ds[i]) then (C : Rat) else val s + ((xs[i] : Rat) - val ds[i])) := by
  have hdi := hd ds[i] (List.getElem_mem hi2)
  have hxi := hx xs[i] (List.getElem_mem hi)
  obtain ⟨nd, nv⟩ := neg_sz hdi
  have sx : Sz 11 (xs[i], 1) := sz_int (by omega) (by decide)
  obtain ⟨a, a1, a2, a3⟩ := law_plus_ok sx nd (by omega)
  obtain ⟨b, b1, b2, b3⟩ := law_plus_ok hs a3 (by omega)
  have e : ∀ f : Q2 → Option (Bool ⊕ Q2), (((some s).bind fun a25 => (((atI xs (0 + (i : Int))).bind fun x11 => (some (1 : Int)).bind fun x12 => some (x11, x12)).bind fun a23 => (((some (0 : Int)).bind fun x16 => ((atI ds (0 + (i : Int))).bind fun x15 => some x15.1).bind fun y17 => some (x16 - y17)).bind fun x21 => ((atI ds (0 + (i : Int))).bind fun x20 => some x20.2).bind fun x22 => some (x21, x22)).bind fun a24 => N__law_plus a23 a24).bind fun a26 => N__law_plus a25 a26).bind f) = f b := fun f => by
    rw [atI_nat (l := xs) hi, atI_nat (l := ds) hi2]
    simp only [Option.bind_some]
    rw [a1]
    simp only [Option.bind_some]
    rw [b1]
    rfl
  have bv : val b = val s + ((xs[i] : Rat) - val ds[i]) := by
    rw [b2, a2, nv, val_int]
    grind
  have sC : Sz 11 (C, 1) := sz_int (by omega) (by decide)
  have bz : Sz (N + n + 13) b := b3.mono (by omega)
  have neg := val_neg_iff b3
  rw [bv] at neg
  unfold canStep
  rw [e]
  by_cases hneg : val s + ((xs[i] : Rat) - val ds[i]) < 0
  · left
    refine ⟨hneg, ?_⟩
    rw [decide_eq_true (neg.mpr hneg)]
    rfl
  · right
    refine ⟨hneg, ?_⟩
    rw [decide_eq_false (fun z => hneg (neg.mp z)), iteO_f, law_less_ok sC bz (by omega), val_int, bv]
    by_cases hl : (C : Rat) < val s + ((xs[i] : Rat) - val ds[i])
    · rw [decide_eq_true hl]
      exact ⟨(C, 1), rfl, sC.mono (by omega), by rw [val_int, if_pos hl]⟩
    · rw [decide_eq_false hl]
      exact ⟨b, rfl, bz, by rw [bv, if_neg hl]⟩
def lessZ (xs : List Int) (ds : List Q2) : List Rat := (xs.zip ds).map fun p => ((p.1 : Rat) - val p.2)
theorem lessZ_drop {xs : List Int} {ds : List Q2} {j : Nat} (h1 : j < xs.length) (h2 : j < ds.length) : (lessZ xs ds).drop j = ((xs[j] : Rat) - val ds[j]) :: (lessZ xs ds).drop (j + 1) := by
  have hl : j < (lessZ xs ds).length := by unfold lessZ; rw [List.length_map, List.length_zip]; omega
  rw [List.drop_eq_getElem_cons hl]
  have g : (lessZ xs ds)[j]? = some ((xs[j] : Rat) - val ds[j]) := by
    unfold lessZ
    rw [List.getElem?_map, List.getElem?_eq_getElem (by rw [List.length_zip]; omega)]
    simp
  rw [List.getElem?_eq_getElem hl] at g
  rw [Option.some.inj g]
theorem can_loop {C : Int} {xs : List Int} {ds : List Q2} {n : Nat} {e : Int} (hC : 0 ≤ C ∧ C ≤ 1001) (he : 0 ≤ e ∧ e ≤ 1001) (hx : ∀ x ∈ xs, 0 ≤ x ∧ x ≤ 1001) (hd : ∀ d ∈ ds, Sz n d) (hl : ds.length = xs.length) (hn : n ≤ 300) :
    ∀ (k j : Nat) (s : Q2), j + k = xs.length → k ≤ 12 → Sz (11 + (12 - k) * (n + 13)) s →
      (foldJ (canStep C xs ds) ((List.range' j k).map fun i : Nat => (0 + (i : Int))) s).bind (outJ fun s35 => ((N__law_less s35 (e, (1 : Int))).bind fun b37 => some (!b37))) = some (canB (C : Rat) (e : Rat) (val s) ((lessZ xs ds).drop j))
  | 0, j, s, h1, h2, h3 => by
    show (N__law_less s (e, 1)).bind (fun b37 => some (!b37)) = _
    have hb : 12 * (n + 13) ≤ 12 * 313 := Nat.mul_le_mul_left _ (by omega)
    rw [law_less_ok h3 (sz_int (n := 11) (by omega) (by decide)) (by omega), val_int, List.drop_of_length_le (by unfold lessZ; rw [List.length_map, List.length_zip]; omega)]
    unfold canB
    show some (!decide (val s < (e : Rat))) = some (decide ((e : Rat) ≤ val s))
    congr 1
    by_cases h : val s < (e : Rat)
    · rw [decide_eq_true h, decide_eq_false (by grind)]; rfl
    · rw [decide_eq_false h, decide_eq_true (by grind)]; rfl
  | k + 1, j, s, h1, h2, h3 => by
    have hb : (12 - (k + 1)) * (n + 13) ≤ 12 * 313 := Nat.mul_le_mul (by omega) (by omega)
    have hm : 11 + (12 - (k + 1)) * (n + 13) + n + 13 = 11 + (12 - k) * (n + 13) := by
      have : 12 - k = 12 - (k + 1) + 1 := by omega
      rw [this, Nat.add_mul]
      omega
    have hj : j < xs.length := by omega
    have hj2 : j < ds.length := by omega
    rw [range_suffix, lessZ_drop hj hj2]
    have ef : ∀ l, foldJ (canStep C xs ds) ((0 + (j : Int)) :: l) s = (canStep C xs ds (0 + (j : Int)) s).bind (thenJ (foldJ (canStep C xs ds) l)) := fun _ => rfl
    rw [ef]
    unfold canB
    rcases step_ok hC hx hd h3 (by omega) (by omega) hj hj2 with ⟨hneg, e1⟩ | ⟨hneg, s', e1, e2, e3⟩
    · rw [e1, if_pos hneg]
      rfl
    · rw [e1, if_neg hneg]
      have := can_loop (e := e) hC he hx hd hl hn k (j + 1) s' (by omega) (by omega) (by rw [← hm]; exact e2)
      rw [e3] at this
      exact this
theorem law_can_ok {C S E : Int} {xs : List Int} {ds : List Q2} {n : Nat} {e : Int} (hC : 0 ≤ C ∧ C ≤ 1001) (hS : 0 ≤ S ∧ S ≤ 1001) (he : 0 ≤ e ∧ e ≤ 1001) (hx : ∀ x ∈ xs, 0 ≤ x ∧ x ≤ 1001) (hd : ∀ d ∈ ds, Sz n d) (hl : ds.length = xs.length) (hn : n ≤ 300) (h12 : xs.length ≤ 12) :
    N__law_can (C, S, E, xs) ds e = some (canB (C : Rat) (e : Rat) (S : Rat) (lessZ xs ds)) := by
  have h := can_loop (C := C) (e := e) hC he hx hd hl hn xs.length 0 (S, 1) (by omega) h12 ((sz_int (n := 11) (by omega) (by decide)).mono (by omega))
  rw [List.drop_zero, val_int, ← List.range_eq_range'] at h
  unfold N__law_can
  rw [Option.bind_some, hl, range1_nat (by omega), Option.bind_some]
  exact h
theorem lessZ_same {xs : List Int} {q : Q2} {k : Nat} (h : k = xs.length) : lessZ xs (List.replicate k q) = xs.map fun x : Int => ((x : Rat) - val q) := by
  subst h
  unfold lessZ
  induction xs with
  | nil => rfl
  | cons a r ih =>
    rw [List.length_cons, List.replicate_succ, List.zip_cons_cons, List.map_cons, List.map_cons, ih]
/-! ### round yields -/
def brings (xs : List Int) (f c : Nat) : Int := (((xs ++ xs).drop f).take c).sum
theorem brings_small {xs : List Int} (h : Flows xs) (h12 : xs.length ≤ 12) (f c : Nat) : 0 ≤ brings xs f c ∧ brings xs f c ≤ 24000 := by
  unfold brings
  have key : ∀ ys : List Int, (∀ y ∈ ys, 0 ≤ y ∧ y ≤ 1000) → 0 ≤ ys.sum ∧ ys.sum ≤ 1000 * ys.length := by
    intro ys
    induction ys with
    | nil => intro _; simp
    | cons a r ih =>
      intro hh
      have h1 := hh a List.mem_cons_self
      have h2 := ih fun y hy => hh y (List.mem_cons_of_mem _ hy)
      simp only [List.sum_cons, List.length_cons]
      omega
  have h1 := key (((xs ++ xs).drop f).take c) fun y hy => by
    rcases List.mem_append.mp (List.mem_of_mem_drop (List.mem_of_mem_take hy)) with e | e <;> exact h y e
  have h2 : (((xs ++ xs).drop f).take c).length ≤ 24 := by
    rw [List.length_take, List.length_drop, List.length_append]
    omega
  omega
theorem sum_small {xs : List Int} (h : Flows xs) (h12 : xs.length ≤ 12) : 0 ≤ xs.sum ∧ xs.sum ≤ 12000 := by
  have := part_small h h12 0 (xs.length - 1)
  unfold part at this
  rw [List.drop_zero] at this
  by_cases h0 : xs.length = 0
  · have : xs = [] := List.eq_nil_of_length_eq_zero h0
    subst this
    simp
  · rw [show xs.length - 1 + 1 - 0 = xs.length by omega, List.take_length] at this
    exact this
theorem foldO_cons {α σ : Type} (Bd : α → σ → Option σ) (x : α) (r : List α) (s : σ) : foldO Bd (x :: r) s = (Bd x s).bind (foldO Bd r) := rfl
theorem cut_twice {xs : List Int} {f c : Nat} (hf : f < xs.length) (hc : c ≤ xs.length) : cutT (xs ++ xs) (some (0 + (f : Int))) (some (0 + (f : Int) + (1 + (c : Int)))) = ((xs ++ xs).drop f).take (c + 1) ∨ xs.length < c + 1 := by
  by_cases h : c + 1 ≤ xs.length
  · left
    rw [show (0 : Int) + (f : Int) + (1 + (c : Int)) = ((f + (c + 1) : Nat) : Int) by omega, show (0 : Int) + (f : Int) = ((f : Nat) : Int) by omega, cutT_nat (by omega) (by rw [List.length_append]; omega)]
    congr 1
    omega
  · right; omega
/-- what the windows of a round year say -/
def roundQ (C : Int) (xs : List Int) (f c : Nat) : Q2 := rt (C + brings xs f (c + 1)) (1 + (c : Int))
theorem round_yield_ok {C : Int} {xs : List Int} (hC : 0 ≤ C ∧ C ≤ 1000) (hx : Flows xs) (h0 : 0 < xs.length) (h12 : xs.length ≤ 12) :
    ∃ q, N_round_yield C xs = some q ∧ Sz 16 q ∧ (q = rt xs.sum xs.length ∨ ∃ f c : Nat, f < xs.length ∧ c < xs.length ∧ q = roundQ C xs f c) ∧
      val q ≤ val (rt xs.sum xs.length) ∧ ∀ f c : Nat, f < xs.length → c < xs.length → val q ≤ val (roundQ C xs f c) := by
  have hsum := sum_small hx h12
  have z0 : Sz 16 (rt xs.sum xs.length) := rt_sz (by omega) (by omega) (by omega)
  have zq : ∀ f c : Nat, f < xs.length → c < xs.length → Sz 16 (roundQ C xs f c) := fun f c h1 h2 => by
    have := brings_small hx h12 f (c + 1)
    exact rt_sz (by omega) (by omega) (by omega)
  -- what the list of yields is
  let Good : Q2 → Prop := fun q => q = rt xs.sum xs.length ∨ ∃ f c : Nat, f < xs.length ∧ c < xs.length ∧ q = roundQ C xs f c
  have step : ∀ (f c : Nat) (s : List Q2), f < xs.length → c < xs.length → s.length ≤ 1000 →
      ((N_ratio (C + (List.sum (cutT (xs ++ xs) (some (0 + (f : Int))) (some (0 + (f : Int) + (1 + (c : Int))))))) (1 + (c : Int))).bind fun x28 => (appO s x28).bind fun yields_27 => some yields_27) = some (s ++ [roundQ C xs f c]) := by
    intro f c s hf hc hs
    rcases cut_twice (c := c) hf (by omega) with e | e
    · rw [e, ratio_ok (n := 5) (by omega) (by omega) (by decide)]
      show (appO s (roundQ C xs f c)).bind _ = _
      unfold appO
      rw [if_pos (by omega)]
      rfl
    · omega
  have inner : ∀ (f : Nat) (hf : f < xs.length) (s : List Q2), s.length ≤ 500 → foldO (fun i19 s17 => ((N_ratio (C + (List.sum (cutT (xs ++ xs) (some (0 + (f : Int))) (some (0 + (f : Int) + i19))))) i19).bind fun x28 => (appO s17 x28).bind fun yields_27 => some yields_27)) ((List.range xs.length).map fun i : Nat => (1 + (i : Int))) s = some (s ++ (List.range xs.length).map fun c => roundQ C xs f c) := by
    intro f hf
    have key : ∀ (l : List Nat) (s : List Q2), (∀ c ∈ l, c < xs.length) → s.length + l.length ≤ 600 → foldO (fun i19 s17 => ((N_ratio (C + (List.sum (cutT (xs ++ xs) (some (0 + (f : Int))) (some (0 + (f : Int) + i19))))) i19).bind fun x28 => (appO s17 x28).bind fun yields_27 => some yields_27)) (l.map fun i : Nat => (1 + (i : Int))) s = some (s ++ l.map fun c => roundQ C xs f c) := by
      intro l
      induction l with
      | nil => intro s _ _; simp [foldO]
      | cons c r ih =>
        intro s hl hs
        rw [List.map_cons, List.map_cons]
        have e := step f c s hf (hl c List.mem_cons_self) (by simp at hs; omega)
        rw [foldO_cons]
        rw [e, Option.bind_some, ih (s ++ [roundQ C xs f c]) (fun c hc => hl c (List.mem_cons_of_mem _ hc)) (by simp at hs ⊢; omega)]
        simp
    exact fun s hs => key _ s (fun c hc => List.mem_range.mp hc) (by rw [List.length_range]; omega)
  have outer : ∀ (l : List Nat) (s : List Q2), (∀ f ∈ l, f < xs.length) → s.length + 12 * l.length ≤ 400 → foldO (fun i12 s10 => (((range2O (1 : Int) ((xs.length : Int) + (1 : Int))).bind fun l => foldO (fun i19 s17 => ((N_ratio (C + (List.sum (cutT (xs ++ xs) (some i12) (some (i12 + i19))))) i19).bind fun x28 => (appO s17 x28).bind fun yields_27 => some yields_27)) l s10).bind fun s29 => some s29)) (l.map fun i : Nat => (0 + (i : Int))) s = some (s ++ l.flatMap fun f => (List.range xs.length).map fun c => roundQ C xs f c) := by
    intro l
    induction l with
    | nil => intro s _ _; simp [foldO]
    | cons f r ih =>
      intro s hl hs
      rw [List.map_cons, List.flatMap_cons]
      have hr : range2O (1 : Int) ((xs.length : Int) + (1 : Int)) = some ((List.range xs.length).map fun i : Nat => (1 + (i : Int))) := by
        have := range2_nat (m := 1) (n := xs.length + 1) (by omega) (by omega)
        rw [show ((xs.length + 1 : Nat) : Int) = (xs.length : Int) + 1 by omega] at this
        rw [show xs.length + 1 - 1 = xs.length by omega] at this
        exact this
      have e := inner f (hl f List.mem_cons_self) s (by simp at hs; omega)
      have e2 : (((range2O (1 : Int) ((xs.length : Int) + (1 : Int))).bind fun l => foldO (fun i19 s17 => ((N_ratio (C + (List.sum (cutT (xs ++ xs) (some (0 + (f : Int))) (some (0 + (f : Int) + i19))))) i19).bind fun x28 => (appO s17 x28).bind fun yields_27 => some yields_27)) l s).bind fun s29 => some s29) = some (s ++ (List.range xs.length).map fun c => roundQ C xs f c) := by
        rw [hr, Option.bind_some, e, Option.bind_some]
      rw [foldO_cons, e2, Option.bind_some, ih _ (fun f hf => hl f (List.mem_cons_of_mem _ hf)) (by simp at hs ⊢; omega)]
      simp
  have hlist := outer (List.range xs.length) [rt xs.sum xs.length] (fun f hf => List.mem_range.mp hf) (by rw [List.length_range]; simp; omega)
  have hgood : ∀ p ∈ [rt xs.sum xs.length] ++ (List.range xs.length).flatMap (fun f => (List.range xs.length).map fun c => roundQ C xs f c), Good p := by
    intro p hp
    rcases List.mem_append.mp hp with e | e
    · exact .inl (by simpa using e)
    · obtain ⟨f, hf, h⟩ := List.mem_flatMap.mp e
      obtain ⟨c, hc, rfl⟩ := List.mem_map.mp h
      exact .inr ⟨f, c, List.mem_range.mp hf, List.mem_range.mp hc, rfl⟩
  obtain ⟨q, q1, q2, q3⟩ := least_ratio_ok (n := 16) (l := [rt xs.sum xs.length] ++ (List.range xs.length).flatMap (fun f => (List.range xs.length).map fun c => roundQ C xs f c)) (by decide) (by simp) fun p hp => by
    rcases hgood p hp with rfl | ⟨f, c, hf, hc, rfl⟩
    · exact z0
    · exact zq f c hf hc
  refine ⟨q, ?_, ?_, hgood q q2, q3 _ (by simp), fun f c hf hc => q3 _ ?_⟩
  · unfold N_round_yield N_check_capacity__d
    rw [check_capacity_ok hC.1 hC.2, check_inflows_ok hx h0 h12, Option.bind_some, Option.bind_some, Option.bind_some]
    have hcat : catO xs xs = some (xs ++ xs) := by
      unfold catO
      rw [if_pos (by omega)]
    rw [hcat, Option.bind_some, ratio_ok (n := 4) (by omega) (by omega) (by decide)]
    show ((dispO [rt xs.sum xs.length]).bind _) = _
    show (some [rt xs.sum xs.length]).bind _ = _
    rw [Option.bind_some, range1_nat (by omega), Option.bind_some, hlist, Option.bind_some]
    exact q1
  · rcases hgood q q2 with rfl | ⟨f, c, hf, hc, rfl⟩
    · exact z0
    · exact zq f c hf hc
  · exact List.mem_append_right _ (List.mem_flatMap.mpr ⟨f, List.mem_range.mpr hf, List.mem_map.mpr ⟨c, List.mem_range.mpr hc, rfl⟩⟩)
end Ty
set_option Elab.async false
set_option linter.all false
set_option maxRecDepth 100000
set_option maxHeartbeats 4000000
/-! Small values that many laws want. -/
namespace Ty
open PySem PySem.Spec PyProof.Rows L2 DN
theorem foldl_min : ∀ (r : List Int) (x : Int), (r.foldl min x ∈ x :: r) ∧ ∀ y ∈ x :: r, r.foldl min x ≤ y
  | [], x => ⟨by simp, fun y h => by simp at h; simp; omega⟩
  | z :: r, x => by
    obtain ⟨h1, h2⟩ := foldl_min r (min x z)
    refine ⟨?_, fun y hy => ?_⟩
    · show r.foldl min (min x z) ∈ _
      rcases List.mem_cons.mp h1 with e | e
      · rw [e]
        rcases Int.le_total x z with k | k
        · rw [Int.min_eq_left k]; simp
        · rw [Int.min_eq_right k]; simp
      · exact List.mem_cons_of_mem _ (List.mem_cons_of_mem _ e)
    · have h3 := h2 (min x z) List.mem_cons_self
      show r.foldl min (min x z) ≤ y
      rcases List.mem_cons.mp hy with e | e
      · subst e; have := Int.min_le_left y z; omega
      · rcases List.mem_cons.mp e with e | e
        · subst e; have := Int.min_le_right x y; omega
        · exact h2 y (List.mem_cons_of_mem _ e)
theorem minO_ok {ns : List Int} (h : ns ≠ []) : ∃ m, minO ns = some m ∧ m ∈ ns ∧ ∀ y ∈ ns, m ≤ y := by
  cases ns with
  | nil => exact absurd rfl h
  | cons x r => exact ⟨_, rfl, (foldl_min r x).1, (foldl_min r x).2⟩
theorem maxO_ok {ns : List Int} (h : ns ≠ []) : ∃ m, maxO ns = some m ∧ m ∈ ns ∧ ∀ y ∈ ns, y ≤ m := by
  cases ns with
  | nil => exact absurd rfl h
  | cons x r => exact ⟨_, rfl, (maxL_spec (ns := x :: r) (by simp)).1, (maxL_spec (ns := x :: r) (by simp)).2⟩
theorem rdiv_le {a : Rat} {b c : Int} (hc : 0 < c) : a ≤ (b : Rat) / (c : Rat) ↔ a * (c : Rat) ≤ (b : Rat) := by
  have hp := cast_pos hc
  have hn := cast_ne hc
  constructor
  · intro h
    have h6 := Rat.mul_le_mul_of_nonneg_right h (Rat.le_of_lt hp)
    rwa [Rat.div_mul_cancel hn] at h6
  · intro h
    by_cases hh : (b : Rat) / (c : Rat) < a
    · rw [Rat.div_lt_iff hp] at hh
      grind
    · grind
theorem rle_div {a : Rat} {b c : Int} (hc : 0 < c) : (b : Rat) / (c : Rat) ≤ a ↔ (b : Rat) ≤ a * (c : Rat) := by
  have hp := cast_pos hc
  have hn := cast_ne hc
  constructor
  · intro h
    have h6 := Rat.mul_le_mul_of_nonneg_right h (Rat.le_of_lt hp)
    rwa [Rat.div_mul_cancel hn] at h6
  · intro h
    by_cases hh : a < (b : Rat) / (c : Rat)
    · rw [Rat.lt_div_iff hp] at hh
      grind
    · grind
theorem repL_ok {α : Type} {q : α} {k : Nat} (h : k ≤ 1000) : repL [q] (k : Int) = some (List.replicate k q) := by
  unfold repL
  rw [if_pos ⟨by omega, by omega, by simp⟩, Int.toNat_natCast, List.flatten_replicate_singleton]
theorem repO_ok {α : Type} {q : α} {k : Nat} (h0 : 0 < k) (h : k ≤ 1000) : repO [q] (k : Int) = some (List.replicate k q) := by
  unfold repO
  rw [if_pos ⟨by simp, by omega, by omega, by simp⟩, Int.toNat_natCast, List.flatten_replicate_singleton]
theorem foldJ_all {α β σ : Type} {Bd : α → σ → Option (β ⊕ σ)} {s : σ} : ∀ l : List α, (∀ x ∈ l, Bd x s = some (.inr s)) → foldJ Bd l s = some (.inr s)
  | [], _ => rfl
  | x :: r, h => by
    have e : foldJ Bd (x :: r) s = (Bd x s).bind (thenJ (foldJ Bd r)) := rfl
    rw [e, h x List.mem_cons_self]
    exact foldJ_all r fun y hy => h y (List.mem_cons_of_mem _ hy)
theorem filter_none {α : Type} {t : α → Bool} {l : List α} (h : ∀ x ∈ l, t x = false) : l.filter t = [] := by
  rw [List.filter_eq_nil_iff]
  intro x hx
  rw [h x hx]
  decide
theorem compL_none {α : Type} {T : α → Option Bool} {l : List α} (hl : l.length ≤ 1000000) (h : ∀ x ∈ l, T x = some false) : compL T (fun i => some i) l = some [] := by
  rw [compL_filter (t := fun _ => false) hl h, filter_none fun _ _ => rfl]
theorem fill_nonneg {C : Int} (hC : 0 ≤ C) : ∀ (l : List Int) (h : Int), (∀ x ∈ l, 0 ≤ x) → 0 ≤ h → 0 ≤ fill C h l
  | [], h, _, h0 => h0
  | x :: r, h, hl, h0 => by
    unfold fill
    refine fill_nonneg hC r _ (fun y hy => hl y (List.mem_cons_of_mem _ hy)) ?_
    have := hl x List.mem_cons_self
    unfold min2
    split <;> omega
theorem alk_Q : Alk 3 (e2 eI eI) := alk_2 (alk_I 2) (alk_I 2)
theorem brings_part {xs : List Int} {f l : Nat} (h1 : f ≤ l) (h2 : l < xs.length) : brings xs f (l - f + 1) = part xs f l := by
  unfold brings part
  rw [List.drop_append_of_le_length (by omega), List.take_append_of_le_length (by rw [List.length_drop]; omega), show l + 1 - f = l - f + 1 by omega]
theorem part_one {xs : List Int} {i : Nat} (h : i < xs.length) : part xs i i = xs[i] := by
  unfold part
  rw [List.drop_eq_getElem_cons h, show i + 1 - i = 0 + 1 by omega, List.take_succ_cons]
  simp
theorem sum_ge {m : Int} : ∀ ys : List Int, (∀ y ∈ ys, m ≤ y) → m * (ys.length : Int) ≤ ys.sum
  | [], _ => by simp
  | a :: r, hh => by
    have h1 := hh a List.mem_cons_self
    have h2 := sum_ge r fun y hy => hh y (List.mem_cons_of_mem _ hy)
    rw [List.sum_cons, List.length_cons, Int.natCast_add, Int.mul_add]
    omega
theorem part_ge {xs : List Int} {m : Int} (h : ∀ y ∈ xs, m ≤ y) {f l : Nat} (h1 : f ≤ l) (h2 : l < xs.length) : m * ((l : Int) - (f : Int) + 1) ≤ part xs f l := by
  have := sum_ge ((xs.drop f).take (l + 1 - f)) fun y hy => h y (List.mem_of_mem_drop (List.mem_of_mem_take hy))
  have hl : ((xs.drop f).take (l + 1 - f)).length = l + 1 - f := by rw [List.length_take, List.length_drop]; omega
  rw [hl] at this
  unfold part
  rw [show (l : Int) - (f : Int) + 1 = ((l + 1 - f : Nat) : Int) by omega]
  exact this
/-- a full dam without an end -/
theorem spare_full {C : Int} {xs : List Int} (f l : Nat) : spareW (C, C, 0, xs) f l = C + part xs f l := by
  unfold spareW heldAt
  simp
theorem damIn_full {C : Int} {xs : List Int} (hC : 0 ≤ C ∧ C ≤ 1000) (hx : Flows xs) (h0 : 0 < xs.length) (h12 : xs.length ≤ 12) : DamIn 12 (C, C, 0, xs) := ⟨hC.1, hC.2, hC.1, Int.le_refl _, Int.le_refl _, hC.1, hx, h0, by show (xs.length : Int) ≤ 12; omega⟩
end Ty
set_option Elab.async false
set_option linter.all false
set_option maxRecDepth 100000
set_option maxHeartbeats 4000000
/-! Values: storages, firm shares. -/
namespace Ty
open PySem PySem.Spec PyProof.Rows L2 DN
/-- by how much the demands of c months from f on are greater than their inflows -/
def need (xs ds : List Int) (f c : Nat) : Int := brings ds f c - brings xs f c
theorem cat_ok {xs : List Int} (h : xs.length ≤ 12) : catO xs xs = some (xs ++ xs) := by
  unfold catO
  rw [if_pos (by omega)]
theorem cut_row {xs : List Int} {f c : Nat} (hf : f < xs.length) (hc : c < xs.length) : cutT (xs ++ xs) (some (f : Int)) (some ((f : Int) + (1 + (c : Int)))) = ((xs ++ xs).drop f).take (c + 1) := by
  rw [show (f : Int) + (1 + (c : Int)) = ((f + (c + 1) : Nat) : Int) by omega, cutT_nat (by omega) (by rw [List.length_append]; omega), show f + (c + 1) - f = c + 1 by omega]
theorem lack_ok {xs ds : List Int} (hl : ds.length = xs.length) (h12 : xs.length ≤ 12) {f c : Nat} (hf : f < xs.length) (hc : c < xs.length) : N_lack_of_row xs ds ((f : Int), 1 + (c : Int)) = some (need xs ds f (c + 1)) := by
  unfold N_lack_of_row
  rw [Option.bind_some, cat_ok (xs := ds) (by omega), cat_ok h12]
  show some ((List.sum (cutT (ds ++ ds) (some (f : Int)) (some ((f : Int) + (1 + (c : Int)))))) - (List.sum (cutT (xs ++ xs) (some (f : Int)) (some ((f : Int) + (1 + (c : Int))))))) = _
  rw [cut_row hf hc, cut_row (xs := ds) (by omega) (by omega)]
  rfl
def width (n : Nat) (b : Bool) (f : Nat) : Nat := if b then n else n - f
def rowsI (n : Nat) (b : Bool) : List (Int × Int) := (List.range n).flatMap fun f : Nat => (List.range (width n b f)).map fun c : Nat => ((f : Int), 1 + (c : Int))
theorem rowsI_mem {n : Nat} {b : Bool} {p : Int × Int} : p ∈ rowsI n b ↔ ∃ f c : Nat, p = ((f : Int), 1 + (c : Int)) ∧ f < n ∧ c < width n b f := by
  unfold rowsI
  simp only [List.mem_flatMap, List.mem_range, List.mem_map]
  constructor
  · rintro ⟨f, hf, c, hc, rfl⟩
    exact ⟨f, c, rfl, hf, hc⟩
  · rintro ⟨f, c, rfl, h1, h2⟩
    exact ⟨f, h1, c, h2, rfl⟩
theorem width_le {n : Nat} {b : Bool} {f : Nat} : width n b f ≤ n := by
  unfold width
  split <;> omega
theorem rowsI_len {n : Nat} {b : Bool} (h : n ≤ 12) : (rowsI n b).length ≤ 144 := by
  unfold rowsI
  rw [List.length_flatMap]
  have : ∀ l : List Nat, (l.map fun f => ((List.range (width n b f)).map fun c : Nat => ((f : Int), 1 + (c : Int))).length).sum ≤ l.length * 12 := by
    intro l
    induction l with
    | nil => simp
    | cons a r ih =>
      have := width_le (n := n) (b := b) (f := a)
      simp at ih ⊢
      omega
  have h2 := this (List.range n)
  rw [List.length_range] at h2
  omega
theorem rows_ok {n : Nat} {b : Bool} (h : n ≤ 12) : N_rows_of_months (n : Int) b = some (rowsI n b) := by
  unfold N_rows_of_months
  rw [range1_nat (by omega), Option.bind_some]
  unfold comp2L
  rw [comp2O_all (m := fun x : Int => (List.range (width n b x.toNat)).map fun j : Nat => (1 + (j : Int))) (g := fun x y => (x, y))]
  · have e : (List.map (fun i : Nat => (0 + (i : Int))) (List.range n)).flatMap (fun x : Int => ((List.range (width n b x.toNat)).map fun j : Nat => (1 + (j : Int))).map fun y => (x, y)) = rowsI n b := by
      unfold rowsI
      rw [List.flatMap_map]
      refine congrArg (fun z => List.flatMap z (List.range n)) (funext fun f => ?_)
      rw [List.map_map]
      simp
    rw [e, Option.bind_some, if_pos (by have := rowsI_len (b := b) h; omega)]
  · intro x hx
    obtain ⟨f, hf, rfl⟩ := List.mem_map.mp hx
    have := List.mem_range.mp hf
    have hw := width_le (n := n) (b := b) (f := f)
    have h2 := range2_nat (m := 1) (n := width n b f + 1) (by omega) (by omega)
    have e : (cond b (n : Int) ((n : Int) - (0 + (f : Int)))) + (1 : Int) = ((width n b f + 1 : Nat) : Int) := by
      unfold width
      cases b
      · show (n : Int) - (0 + (f : Int)) + 1 = _
        simp only [Bool.false_eq_true, if_false]
        omega
      · show (n : Int) + 1 = _
        simp
    rw [e]
    have h3 : range2O (1 : Int) ((width n b f + 1 : Nat) : Int) = some ((List.range (width n b f + 1 - 1)).map fun i : Nat => ((1 : Int) + (i : Int))) := h2
    rw [h3]
    simp
theorem check_demands_ok {ds : List Int} {n : Nat} (h : Flows ds) (hl : ds.length = n) : N_check_demands ds (n : Int) = some () := by
  unfold N_check_demands
  rw [row_ok h, andO_t, decide_eq_true (by omega)]
  rfl
theorem check_rows_ok {xs ds : List Int} {b : Bool} (hx : Flows xs) (h0 : 0 < xs.length) (h12 : xs.length ≤ 12) (hd : Flows ds) (hl : ds.length = xs.length) : N_check_rows xs ds b = some () := by
  unfold N_check_rows
  rw [check_inflows_ok hx h0 h12, Option.bind_some, check_demands_ok hd hl]
  rfl
theorem storage_ok {xs ds : List Int} {b : Bool} (hx : Flows xs) (h0 : 0 < xs.length) (h12 : xs.length ≤ 12) (hd : Flows ds) (hl : ds.length = xs.length) (hb : b = true → ds.sum ≤ xs.sum) :
    ∃ m : Int, N_least_storage xs ds b = some (some m) ∧ 0 ≤ m ∧ (m = 0 ∨ ∃ f c : Nat, f < xs.length ∧ c < width xs.length b f ∧ m = need xs ds f (c + 1)) ∧ ∀ f c : Nat, f < xs.length → c < width xs.length b f → need xs ds f (c + 1) ≤ m := by
  have hw := fun f => width_le (n := xs.length) (b := b) (f := f)
  have e1 : compL (fun _ => some true) (fun i9 => (N_lack_of_row xs ds i9)) (rowsI xs.length b) = some ((rowsI xs.length b).map fun p => need xs ds p.1.toNat (p.2.toNat)) := by
    refine compL_all (by have := rowsI_len (b := b) h12; omega) fun p hp => ?_
    obtain ⟨f, c, rfl, h1, h2⟩ := rowsI_mem.mp hp
    rw [lack_ok hl h12 h1 (by have := hw f; omega)]
    simp only [Int.toNat_natCast]
    rw [show (1 + (c : Int)).toNat = c + 1 by omega]
  obtain ⟨m, m1, m2, m3⟩ := maxO_ok (ns := (rowsI xs.length b).map fun p => need xs ds p.1.toNat (p.2.toNat)) (fun e => by
    have : ((0 : Int), 1 + (0 : Int)) ∈ rowsI xs.length b := rowsI_mem.mpr ⟨0, 0, rfl, h0, by unfold width; split <;> omega⟩
    rw [List.map_eq_nil_iff] at e
    rw [e] at this
    cases this)
  refine ⟨max2 0 m, ?_, ?_, ?_, fun f c h1 h2 => ?_⟩
  · unfold N_least_storage
    rw [check_rows_ok hx h0 h12 hd hl, Option.bind_some]
    unfold N_found_storage
    have e0 : (b && decide (List.sum xs < List.sum ds)) = false := by
      cases b
      · rfl
      · rw [decide_eq_false (by have := hb rfl; omega)]; rfl
    rw [e0, rows_ok h12]
    show ((some (rowsI xs.length b)).bind fun rows_7 => _) = _
    rw [Option.bind_some, Option.bind_some, e1, Option.bind_some, Option.bind_some, m1]
    rfl
  · unfold max2
    split <;> omega
  · unfold max2
    split
    · right
      obtain ⟨p, hp, e⟩ := List.mem_map.mp m2
      obtain ⟨f, c, rfl, h1, h2⟩ := rowsI_mem.mp hp
      refine ⟨f, c, h1, h2, ?_⟩
      rw [← e]
      simp only [Int.toNat_natCast]
      rw [show (1 + (c : Int)).toNat = c + 1 by omega]
    · left; rfl
  · have h3 := m3 (need xs ds f (c + 1)) (List.mem_map.mpr ⟨((f : Int), 1 + (c : Int)), rowsI_mem.mpr ⟨f, c, rfl, h1, h2⟩, by
      simp only [Int.toNat_natCast]
      rw [show (1 + (c : Int)).toNat = c + 1 by omega]⟩)
    unfold max2
    split <;> omega
theorem storage_none {xs ds : List Int} (hx : Flows xs) (h0 : 0 < xs.length) (h12 : xs.length ≤ 12) (hd : Flows ds) (hl : ds.length = xs.length) (h : xs.sum < ds.sum) : N_least_storage xs ds true = some none := by
  unfold N_least_storage
  rw [check_rows_ok hx h0 h12 hd hl, Option.bind_some]
  unfold N_found_storage
  rw [decide_eq_true h]
  rfl
/-! ### firm shares -/
/-- the windows that ask for something, and the ratio of what can be given to what is asked for -/
theorem firm_share_ok {m : Int} {d : DamT} {ds : List Int} (h : DamIn m d) (hm : m ≤ 12) (hE : d.2.2.1 ≤ fill d.1 d.2.1 d.2.2.2) (hd : Flows ds) (hl : ds.length = d.2.2.2.length) (h0 : ds.sum ≠ 0) :
    ∃ q, N_firm_share d ds = some q ∧ Sz 15 q ∧ (∃ f l : Nat, f ≤ l ∧ l < d.2.2.2.length ∧ 0 < part ds f l ∧ val q * ((part ds f l : Int) : Rat) = (spareW d f l : Rat)) ∧
      ∀ f l : Nat, f ≤ l → l < d.2.2.2.length → 0 < part ds f l → val q * ((part ds f l : Int) : Rat) ≤ (spareW d f l : Rat) := by
  have h12 := h.len hm
  let g : Int × Int → List Q2 := fun p => if 0 < part ds p.1.toNat p.2.toNat then [rt (spareW d p.1.toNat p.2.toNat) (part ds p.1.toNat p.2.toNat)] else []
  have step : ∀ (f l : Nat) (s : List Q2), f ≤ l → l < d.2.2.2.length → s.length ≤ 500 → (((N_in_window ds ((f : Int), (l : Int))).bind (fun x12 => some (List.sum x12))).bind fun needed_11 => (iteO (some (decide ((0 : Int) < needed_11))) (((N_spare_water d ((f : Int), (l : Int))).bind fun a17 => (some needed_11).bind fun a18 => N_ratio a17 a18).bind fun x20 => (appO s x20).bind fun shares_19 => some shares_19) (some s))) = some (s ++ g ((f : Int), (l : Int))) := by
    intro f l s h1 h2 hs
    rw [in_window_ok h1 (by omega), Option.bind_some, Option.bind_some]
    show iteO (some (decide ((0 : Int) < part ds f l))) (((N_spare_water d ((f : Int), (l : Int))).bind fun a17 => (some (part ds f l)).bind fun a18 => N_ratio a17 a18).bind fun x20 => (appO s x20).bind fun shares_19 => some shares_19) (some s) = some (s ++ if 0 < part ds f l then [rt (spareW d f l) (part ds f l)] else [])
    by_cases hp : 0 < part ds f l
    · rw [decide_eq_true hp, if_pos hp]
      show ((N_spare_water d ((f : Int), (l : Int))).bind fun a17 => (some (part ds f l)).bind fun a18 => N_ratio a17 a18).bind (fun x20 => (appO s x20).bind fun shares_19 => some shares_19) = _
      have hps := part_small hd (by omega) f l
      rw [spare_water_ok h1 h2, Option.bind_some, Option.bind_some, ratio_ok (n := 15) hp (by omega) (by decide), Option.bind_some]
      unfold appO
      rw [if_pos (by omega)]
      rfl
    · rw [decide_eq_false hp, if_neg hp, List.append_nil]
      rfl
  have loop : ∀ (w : List (Int × Int)) (s : List Q2), (∀ p ∈ w, ∃ f l : Nat, p = ((f : Int), (l : Int)) ∧ f ≤ l ∧ l < d.2.2.2.length) → s.length + w.length ≤ 400 → foldO (fun i10 s8 => (((N_in_window ds i10).bind (fun x12 => some (List.sum x12))).bind fun needed_11 => (iteO (some (decide ((0 : Int) < needed_11))) (((N_spare_water d i10).bind fun a17 => (some needed_11).bind fun a18 => N_ratio a17 a18).bind fun x20 => (appO s8 x20).bind fun shares_19 => some shares_19) (some s8)))) w s = some (s ++ w.flatMap g) := by
    intro w
    induction w with
    | nil => intro s _ _; rw [List.flatMap_nil, List.append_nil]; rfl
    | cons p r ih =>
      intro s hp hs
      obtain ⟨f, l, rfl, h1, h2⟩ := hp p List.mem_cons_self
      have hg : (g ((f : Int), (l : Int))).length ≤ 1 := by
        show (if 0 < part ds _ _ then [_] else []).length ≤ 1
        split <;> simp
      have e := step f l s h1 h2 (by simp at hs; omega)
      rw [foldO_cons, e, Option.bind_some, ih _ (fun q hq => hp q (List.mem_cons_of_mem _ hq)) (by simp at hs ⊢; omega), List.flatMap_cons, List.append_assoc]
  have hz : ∀ f l : Nat, f ≤ l → l < d.2.2.2.length → 0 < part ds f l → Sz 15 (rt (spareW d f l) (part ds f l)) := fun f l h1 h2 hp => rt_sz hp (spare_small h hm f l) (by have := part_small hd (by omega) f l; omega)
  have hmem : ∀ q, q ∈ (winI d.2.2.2.length).flatMap g ↔ ∃ f l : Nat, f ≤ l ∧ l < d.2.2.2.length ∧ 0 < part ds f l ∧ q = rt (spareW d f l) (part ds f l) := by
    intro q
    rw [List.mem_flatMap]
    constructor
    · rintro ⟨p, hp, hq⟩
      obtain ⟨f, l, rfl, h1, h2⟩ := winI_mem.mp hp
      have hq' : q ∈ (if 0 < part ds f l then [rt (spareW d f l) (part ds f l)] else []) := hq
      split at hq'
      · rename_i hp
        exact ⟨f, l, h1, h2, hp, List.mem_singleton.mp hq'⟩
      · cases hq'
    · rintro ⟨f, l, h1, h2, hp, rfl⟩
      refine ⟨((f : Int), (l : Int)), winI_mem.mpr ⟨f, l, rfl, h1, h2⟩, ?_⟩
      show _ ∈ (if 0 < part ds f l then [rt (spareW d f l) (part ds f l)] else [])
      rw [if_pos hp]
      exact List.mem_singleton.mpr rfl
  have hpos : 0 < part ds 0 (ds.length - 1) := by
    have h1 : part ds 0 (ds.length - 1) = ds.sum := by
      unfold part
      have := h.l0
      rw [List.drop_zero, show ds.length - 1 + 1 - 0 = ds.length by omega, List.take_length]
    have := sum_small hd (by omega)
    omega
  obtain ⟨q, h1, h2, h3⟩ := least_ratio_ok (n := 15) (l := (winI d.2.2.2.length).flatMap g) (by decide) (fun e => by
    have hl0 := h.l0
    have := (hmem _).mpr ⟨0, ds.length - 1, by omega, by omega, hpos, rfl⟩
    rw [e] at this
    cases this) (fun p hp => by
    obtain ⟨f, l, g1, g2, g3, rfl⟩ := (hmem p).mp hp
    exact hz f l g1 g2 g3)
  obtain ⟨f, l, g1, g2, g3, e⟩ := (hmem q).mp h2
  refine ⟨q, ?_, by rw [e]; exact hz f l g1 g2 g3, ⟨f, l, g1, g2, g3, ?_⟩, fun f l h4 h5 h6 => ?_⟩
  · unfold N_firm_share
    rw [check_dam_ok h hm, Option.bind_some, check_demands_ok hd hl, Option.bind_some, decide_eq_false h0]
    show ((N_check_has_plan d).bind _) = _
    rw [has_plan_ok hE, Option.bind_some, Option.bind_some, hl, windows_ok h12, Option.bind_some, loop _ [] (fun p hp => winI_mem.mp hp) (by have := winI_len h12; simp; omega), Option.bind_some]
    exact h1
  · rw [e, rt_val g3]
    exact Rat.div_mul_cancel (cast_ne g3)
  · have h7 := h3 _ ((hmem _).mpr ⟨f, l, h4, h5, h6, rfl⟩)
    rw [rt_val h6] at h7
    exact (rdiv_le h6).mp h7
end Ty
set_option Elab.async false
set_option linter.all false
set_option maxRecDepth 100000
set_option maxHeartbeats 4000000
namespace Ty
open PySem PySem.Spec PyProof.Rows L2 DN
/-! ### fill curves, flood curves, peaks -/
theorem bindE {α β : Type} {o : Option α} {a : α} {f : α → Option β} {r : Option β} (h : o = some a) (h2 : f a = r) : o.bind f = r := by
  rw [h]; exact h2
theorem foldO_app {α σ : Type} (Bd : α → σ → Option σ) : ∀ (l : List α) (x : α) (s : σ), foldO Bd (l ++ [x]) s = (foldO Bd l s).bind (Bd x)
  | [], x, s => by
    show (Bd x s).bind (foldO Bd []) = Bd x s
    cases Bd x s <;> rfl
  | y :: l, x, s => by
    show (Bd y s).bind (foldO Bd (l ++ [x])) = ((Bd y s).bind (foldO Bd l)).bind (Bd x)
    cases Bd y s with
    | none => rfl
    | some t => exact foldO_app Bd l x t
def low (C E : Int) : List Int → List Int → Option Int
  | x :: xs, d :: ds => match low C E xs ds with
    | none => none
    | some m => if C < max2 0 (m + d - x) then none else some (max2 0 (m + d - x))
  | _, _ => some E
def lows (C E : Int) : List Int → List Int → List (Option Int)
  | x :: xs, d :: ds => low C E (x :: xs) (d :: ds) :: lows C E xs ds
  | _, _ => [some E]
def top (C o : Int) : List Int → Option Int
  | x :: xs => match top C o xs with
    | none => none
    | some m => if min2 C (m + o - x) < 0 then none else some (min2 C (m + o - x))
  | [] => some C
def tops (C o : Int) : List Int → List (Option Int)
  | x :: xs => top C o (x :: xs) :: tops C o xs
  | [] => [some C]
theorem lows_len (C E : Int) : ∀ (xs ds : List Int), (lows C E xs ds).length = min xs.length ds.length + 1
  | [], _ => by simp [lows]
  | _ :: _, [] => by simp [lows]
  | x :: xs, d :: ds => by
    show (lows C E xs ds).length + 1 = _
    rw [lows_len C E xs ds, List.length_cons, List.length_cons]
    omega
theorem tops_len (C o : Int) : ∀ xs : List Int, (tops C o xs).length = xs.length + 1
  | [] => rfl
  | x :: xs => by
    show (tops C o xs).length + 1 = _
    rw [tops_len C o xs, List.length_cons]
theorem iteO_some {α : Type} (b : Bool) (x y : Option α) : iteO (some b) x y = if b = true then x else y := by cases b <;> rfl
theorem fill_curve_ok {d : DamT} (h : DamIn 12 d) {ds : List Int} (hd : Flows ds) (hl : ds.length = d.2.2.2.length) : N_fill_curve d ds = some (lows d.1 d.2.2.1 d.2.2.2 ds) := by
  have n12 : d.2.2.2.length ≤ 12 := by have := h.l1; omega
  unfold N_fill_curve
  rw [check_dam_ok h (by decide), check_demands_ok hd hl]
  have go : ∀ (xs ds : List Int), xs.length ≤ 12 → ds.length = xs.length → foldO (fun (i11 : Int × Int) (s9 : Option Int × List (Option Int)) => ((iteO (some s9.1.isSome) ((((some (0 : Int)).bind fun x23 => ((s9.1.bind fun u15 => some (u15 + i11.2)).bind fun x19 => (some i11.1).bind fun y20 => some (x19 - y20)).bind fun y24 => some (max2 x23 y24)).bind fun x25 => some (some x25)).bind fun least_14 => ((iteO (least_14.bind fun u27 => some (decide (d.1 < u27))) (some none) (some least_14)).bind fun least_26 => some least_26)) (some s9.1)).bind fun s31 => ((appO s9.2 s31).bind fun curve_33 => some (s31, curve_33)))) (List.reverse (List.zip xs ds)) (some d.2.2.1, [some d.2.2.1]) = some (low d.1 d.2.2.1 xs ds, (lows d.1 d.2.2.1 xs ds).reverse) := by
    intro xs
    induction xs with
    | nil => intro ds _ hl; cases ds <;> rfl
    | cons x xs ih =>
      intro ds hn hl
      cases ds with
      | nil => cases hl
      | cons dd ds =>
        rw [List.length_cons] at hn
        have hl2 : ds.length = xs.length := by simpa using hl
        rw [List.zip_cons_cons, List.reverse_cons, foldO_app, ih ds (by omega) hl2]
        have al : ((lows d.1 d.2.2.1 xs ds).reverse).length ≤ 1000000 := by rw [List.length_reverse, lows_len]; omega
        have e : lows d.1 d.2.2.1 (x :: xs) (dd :: ds) = low d.1 d.2.2.1 (x :: xs) (dd :: ds) :: lows d.1 d.2.2.1 xs ds := rfl
        rw [e, List.reverse_cons]
        have key : (iteO (some (low d.1 d.2.2.1 xs ds).isSome) ((((some (0 : Int)).bind fun x23 => (((low d.1 d.2.2.1 xs ds).bind fun u15 => some (u15 + dd)).bind fun x19 => (some x).bind fun y20 => some (x19 - y20)).bind fun y24 => some (max2 x23 y24)).bind fun x25 => some (some x25)).bind fun least_14 => ((iteO (least_14.bind fun u27 => some (decide (d.1 < u27))) (some none) (some least_14)).bind fun least_26 => some least_26)) (some (low d.1 d.2.2.1 xs ds))) = some (low d.1 d.2.2.1 (x :: xs) (dd :: ds)) := by
          have e2 : low d.1 d.2.2.1 (x :: xs) (dd :: ds) = match low d.1 d.2.2.1 xs ds with
            | none => none
            | some m => if d.1 < max2 0 (m + dd - x) then none else some (max2 0 (m + dd - x)) := rfl
          rw [e2]
          cases low d.1 d.2.2.1 xs ds with
          | none => rfl
          | some m =>
            show (iteO (some (decide (d.1 < max2 0 (m + dd - x)))) (some none) (some (some (max2 0 (m + dd - x))))).bind (fun least_26 => some least_26) = _
            rw [iteO_some]
            by_cases hc : d.1 < max2 0 (m + dd - x)
            · rw [if_pos (decide_eq_true hc)]
              show some none = some (if d.1 < max2 0 (m + dd - x) then none else some (max2 0 (m + dd - x)))
              rw [if_pos hc]
            · rw [if_neg (by simpa using hc)]
              show some (some (max2 0 (m + dd - x))) = some (if d.1 < max2 0 (m + dd - x) then none else some (max2 0 (m + dd - x)))
              rw [if_neg hc]
        refine bindE rfl ?_
        refine bindE key ?_
        show ((appO (lows d.1 d.2.2.1 xs ds).reverse (low d.1 d.2.2.1 (x :: xs) (dd :: ds))).bind fun curve_33 => some (low d.1 d.2.2.1 (x :: xs) (dd :: ds), curve_33)) = _
        unfold appO
        rw [if_pos al]
        rfl
  show (foldO _ (List.reverse (List.zip d.2.2.2 ds)) (some d.2.2.1, [some d.2.2.1])).bind _ = _
  rw [go d.2.2.2 ds n12 hl]
  show some (List.reverse (lows d.1 d.2.2.1 d.2.2.2 ds).reverse) = _
  rw [List.reverse_reverse]
theorem flood_curve_ok {C o : Int} {xs : List Int} (hC : 0 ≤ C ∧ C ≤ 1000) (ho : 0 ≤ o ∧ o ≤ 1000) (hx : Flows xs) (h0 : 0 < xs.length) (h12 : xs.length ≤ 12) : N_flood_curve C o xs = some (tops C o xs) := by
  unfold N_flood_curve
  have c1 : N_check_capacity__d C = some () := check_capacity_ok hC.1 hC.2
  have c2 : N_check_capacity__d o = some () := check_capacity_ok ho.1 ho.2
  rw [c1, c2, check_inflows_ok hx h0 h12]
  have go : ∀ (xs : List Int), xs.length ≤ 12 → foldO (fun (i7 : Int) (s5 : Option Int × List (Option Int)) => ((iteO (some s5.1.isSome) ((((some C).bind fun x19 => ((s5.1.bind fun u11 => some (u11 + o)).bind fun x15 => (some i7).bind fun y16 => some (x15 - y16)).bind fun y20 => some (min2 x19 y20)).bind fun x21 => some (some x21)).bind fun most_10 => ((iteO (most_10.bind fun u23 => some (decide (u23 < (0 : Int)))) (some none) (some most_10)).bind fun most_22 => some most_22)) (some s5.1)).bind fun s27 => ((appO s5.2 s27).bind fun curve_29 => some (s27, curve_29)))) (List.reverse xs) (some C, [some C]) = some (top C o xs, (tops C o xs).reverse) := by
    intro xs
    induction xs with
    | nil => intro _; rfl
    | cons x xs ih =>
      intro hn
      rw [List.length_cons] at hn
      rw [List.reverse_cons, foldO_app, ih (by omega)]
      have al : ((tops C o xs).reverse).length ≤ 1000000 := by rw [List.length_reverse, tops_len]; omega
      have e : tops C o (x :: xs) = top C o (x :: xs) :: tops C o xs := rfl
      rw [e, List.reverse_cons]
      have key : (iteO (some (top C o xs).isSome) ((((some C).bind fun x19 => (((top C o xs).bind fun u11 => some (u11 + o)).bind fun x15 => (some x).bind fun y16 => some (x15 - y16)).bind fun y20 => some (min2 x19 y20)).bind fun x21 => some (some x21)).bind fun most_10 => ((iteO (most_10.bind fun u23 => some (decide (u23 < (0 : Int)))) (some none) (some most_10)).bind fun most_22 => some most_22)) (some (top C o xs))) = some (top C o (x :: xs)) := by
        have e2 : top C o (x :: xs) = match top C o xs with
          | none => none
          | some m => if min2 C (m + o - x) < 0 then none else some (min2 C (m + o - x)) := rfl
        rw [e2]
        cases top C o xs with
        | none => rfl
        | some m =>
          show (iteO (some (decide (min2 C (m + o - x) < 0))) (some none) (some (some (min2 C (m + o - x))))).bind (fun most_22 => some most_22) = _
          rw [iteO_some]
          by_cases hc : min2 C (m + o - x) < 0
          · rw [if_pos (decide_eq_true hc)]
            show some none = some (if min2 C (m + o - x) < 0 then none else some (min2 C (m + o - x)))
            rw [if_pos hc]
          · rw [if_neg (by simpa using hc)]
            show some (some (min2 C (m + o - x))) = some (if min2 C (m + o - x) < 0 then none else some (min2 C (m + o - x)))
            rw [if_neg hc]
      refine bindE rfl ?_
      refine bindE key ?_
      show ((appO (tops C o xs).reverse (top C o (x :: xs))).bind fun curve_29 => some (top C o (x :: xs), curve_29)) = _
      unfold appO
      rw [if_pos al]
      rfl
  show (foldO _ (List.reverse xs) (some C, [some C])).bind _ = _
  rw [go xs h12]
  show some (List.reverse (tops C o xs).reverse) = _
  rw [List.reverse_reverse]
/-! what the curves tell -/
theorem max2_eq (x y : Int) : max2 x y = if y > x then y else x := rfl
theorem min2_eq (x y : Int) : min2 x y = if y < x then y else x := rfl
theorem low_range {C E : Int} (hE : 0 ≤ E ∧ E ≤ C) : ∀ (xs ds : List Int) (m : Int), low C E xs ds = some m → 0 ≤ m ∧ m ≤ C
  | x :: xs, d :: ds, m, h => by
    have ih := low_range hE xs ds
    unfold low at h
    cases e : low C E xs ds with
    | none => rw [e] at h; cases h
    | some q =>
      rw [e] at h
      simp only at h
      split at h
      · cases h
      · cases h
        rw [max2_eq] at *
        split <;> omega
  | [], _, m, h => by cases h; exact hE
  | _ :: _, [], m, h => by cases h; exact hE
theorem top_range {C o : Int} (hC : 0 ≤ C) : ∀ (xs : List Int) (m : Int), top C o xs = some m → 0 ≤ m ∧ m ≤ C
  | x :: xs, m, h => by
    unfold top at h
    cases e : top C o xs with
    | none => rw [e] at h; cases h
    | some q =>
      rw [e] at h
      simp only at h
      split at h
      · cases h
      · cases h
        rw [min2_eq] at *
        split <;> omega
  | [], m, h => by cases h; omega
def lessI (xs ds : List Int) : List Rat := List.zipWith (fun (x d : Int) => (x : Rat) - (d : Rat)) xs ds
theorem can_low {C E : Int} (hE : 0 ≤ E ∧ E ≤ C) : ∀ (xs ds : List Int) (h : Int), ds.length = xs.length → 0 ≤ h → h ≤ C → (canB (C : Rat) (E : Rat) (h : Rat) (lessI xs ds) = true ↔ ∃ m, low C E xs ds = some m ∧ m ≤ h)
  | x :: xs, d :: ds, h, hl, h0, h1 => by
    have e : canB (C : Rat) (E : Rat) (h : Rat) (lessI (x :: xs) (d :: ds)) = if (h : Rat) + ((x : Rat) - (d : Rat)) < 0 then false else canB (C : Rat) (E : Rat) (if (C : Rat) < (h : Rat) + ((x : Rat) - (d : Rat)) then (C : Rat) else (h : Rat) + ((x : Rat) - (d : Rat))) (lessI xs ds) := rfl
    have e1 : (h : Rat) + ((x : Rat) - (d : Rat)) = ((h + (x - d) : Int) : Rat) := by rw [Rat.intCast_add, Rat.intCast_sub]
    have e2 : ((h + (x - d) : Int) : Rat) < 0 ↔ h + (x - d) < 0 := by exact_mod_cast Iff.rfl
    have e3 : (C : Rat) < ((h + (x - d) : Int) : Rat) ↔ C < h + (x - d) := by exact_mod_cast Iff.rfl
    have e4 : low C E (x :: xs) (d :: ds) = match low C E xs ds with
      | none => none
      | some m => if C < max2 0 (m + d - x) then none else some (max2 0 (m + d - x)) := rfl
    rw [e, e1, e4]
    by_cases hn : h + (x - d) < 0
    · rw [if_pos (e2.mpr hn)]
      refine ⟨(fun z => nomatch z), fun ⟨m, h2, h3⟩ => ?_⟩
      cases e5 : low C E xs ds with
      | none => rw [e5] at h2; cases h2
      | some q =>
        have hq := low_range hE xs ds q e5
        rw [e5] at h2
        simp only at h2
        split at h2
        · cases h2
        · cases h2
          rw [max2_eq] at h3
          split at h3 <;> omega
    · rw [if_neg (fun z => hn (e2.mp z))]
      have e6 : (if (C : Rat) < ((h + (x - d) : Int) : Rat) then (C : Rat) else ((h + (x - d) : Int) : Rat)) = (((if C < h + (x - d) then C else h + (x - d)) : Int) : Rat) := by
        by_cases hc : C < h + (x - d)
        · rw [if_pos hc, if_pos (e3.mpr hc)]
        · rw [if_neg hc, if_neg (fun z => hc (e3.mp z))]
      rw [e6, can_low hE xs ds _ (by simpa using hl) (by split <;> omega) (by split <;> omega)]
      cases e5 : low C E xs ds with
      | none => exact ⟨(fun ⟨m, h2, _⟩ => nomatch h2), (fun ⟨m, h2, _⟩ => nomatch h2)⟩
      | some q =>
        have hq := low_range hE xs ds q e5
        constructor
        · rintro ⟨m, h2, h3⟩
          cases h2
          have e7 : max2 0 (q + d - x) ≤ h := by rw [max2_eq]; split at h3 <;> split <;> omega
          refine ⟨max2 0 (q + d - x), ?_, e7⟩
          show (if C < max2 0 (q + d - x) then none else some (max2 0 (q + d - x))) = _
          rw [if_neg (by omega)]
        · rintro ⟨m, h2, h3⟩
          refine ⟨q, rfl, ?_⟩
          simp only at h2
          split at h2
          · cases h2
          · cases h2
            rw [max2_eq] at h3
            split at h3 <;> split <;> omega
  | [], [], h, _, h0, h1 => by
    have e : canB (C : Rat) (E : Rat) (h : Rat) (lessI [] []) = decide ((E : Rat) ≤ (h : Rat)) := rfl
    have e1 : (E : Rat) ≤ (h : Rat) ↔ E ≤ h := Rat.intCast_le_intCast
    rw [e, decide_eq_true_iff, e1]
    exact ⟨fun z => ⟨E, rfl, z⟩, fun ⟨m, h2, h3⟩ => by cases h2; exact h3⟩
  | [], _ :: _, _, hl, _, _ => by simp at hl
  | _ :: _, [], _, hl, _, _ => by simp at hl
theorem can_top {C o : Int} (hC : 0 ≤ C) : ∀ (xs : List Int) (h : Int), 0 ≤ h → h ≤ C → (canB (C : Rat) 0 ((C - h : Int) : Rat) (xs.map fun x : Int => (o : Rat) - (x : Rat)) = true ↔ ∃ m, top C o xs = some m ∧ h ≤ m)
  | x :: xs, h, h0, h1 => by
    have e : canB (C : Rat) 0 ((C - h : Int) : Rat) ((x :: xs).map fun x : Int => (o : Rat) - (x : Rat)) = if ((C - h : Int) : Rat) + ((o : Rat) - (x : Rat)) < 0 then false else canB (C : Rat) 0 (if (C : Rat) < ((C - h : Int) : Rat) + ((o : Rat) - (x : Rat)) then (C : Rat) else ((C - h : Int) : Rat) + ((o : Rat) - (x : Rat))) (xs.map fun x : Int => (o : Rat) - (x : Rat)) := rfl
    have e1 : ((C - h : Int) : Rat) + ((o : Rat) - (x : Rat)) = ((C - h + (o - x) : Int) : Rat) := by rw [Rat.intCast_add, Rat.intCast_sub o x]
    have e2 : ((C - h + (o - x) : Int) : Rat) < 0 ↔ C - h + (o - x) < 0 := by exact_mod_cast Iff.rfl
    have e3 : (C : Rat) < ((C - h + (o - x) : Int) : Rat) ↔ C < C - h + (o - x) := by exact_mod_cast Iff.rfl
    have e4 : top C o (x :: xs) = match top C o xs with
      | none => none
      | some m => if min2 C (m + o - x) < 0 then none else some (min2 C (m + o - x)) := rfl
    rw [e, e1, e4]
    by_cases hn : C - h + (o - x) < 0
    · rw [if_pos (e2.mpr hn)]
      refine ⟨(fun z => nomatch z), fun ⟨m, h2, h3⟩ => ?_⟩
      cases e5 : top C o xs with
      | none => rw [e5] at h2; cases h2
      | some q =>
        have hq := top_range hC xs q e5
        rw [e5] at h2
        simp only at h2
        split at h2
        · cases h2
        · cases h2
          rw [min2_eq] at h3
          split at h3 <;> omega
    · rw [if_neg (fun z => hn (e2.mp z))]
      have e6 : (if (C : Rat) < ((C - h + (o - x) : Int) : Rat) then (C : Rat) else ((C - h + (o - x) : Int) : Rat)) = ((C - (if C < C - h + (o - x) then 0 else h - (o - x)) : Int) : Rat) := by
        by_cases hc : C < C - h + (o - x)
        · rw [if_pos hc, if_pos (e3.mpr hc)]
          simp
        · rw [if_neg hc, if_neg (fun z => hc (e3.mp z))]
          congr 1
          omega
      rw [e6, can_top hC xs _ (by split <;> omega) (by split <;> omega)]
      cases e5 : top C o xs with
      | none => exact ⟨(fun ⟨m, h2, _⟩ => nomatch h2), (fun ⟨m, h2, _⟩ => nomatch h2)⟩
      | some q =>
        have hq := top_range hC xs q e5
        constructor
        · rintro ⟨m, h2, h3⟩
          cases h2
          have e7 : h ≤ min2 C (q + o - x) := by rw [min2_eq]; split at h3 <;> split <;> omega
          refine ⟨min2 C (q + o - x), ?_, e7⟩
          show (if min2 C (q + o - x) < 0 then none else some (min2 C (q + o - x))) = _
          rw [if_neg (by omega)]
        · rintro ⟨m, h2, h3⟩
          refine ⟨q, rfl, ?_⟩
          simp only at h2
          split at h2
          · cases h2
          · cases h2
            rw [min2_eq] at h3
            split at h3 <;> split <;> omega
  | [], h, h0, h1 => by
    have e : canB (C : Rat) 0 ((C - h : Int) : Rat) (([] : List Int).map fun x : Int => (o : Rat) - (x : Rat)) = decide ((0 : Rat) ≤ ((C - h : Int) : Rat)) := rfl
    have e1 : (0 : Rat) ≤ ((C - h : Int) : Rat) ↔ 0 ≤ C - h := by exact_mod_cast Iff.rfl
    rw [e, decide_eq_true_iff, e1]
    exact ⟨fun z => ⟨C, rfl, by omega⟩, fun ⟨m, h2, h3⟩ => by cases h2; omega⟩
end Ty
set_option Elab.async false
set_option linter.all false
set_option maxRecDepth 100000
set_option maxHeartbeats 4000000
namespace Ty
open PySem PySem.Spec PyProof.Rows L2 DN
theorem greatest_ratio_ok {n : Nat} {l : List Q2} (hn : n ≤ 4000) (h0 : l ≠ []) (h : ∀ p ∈ l, Sz n p) : ∃ q, N_greatest_ratio l = some q ∧ q ∈ l ∧ ∀ p ∈ l, val p ≤ val q := by
  cases l with
  | nil => exact absurd rfl h0
  | cons a r =>
    have ha : atI (a :: r) (0 : Int) = some a := atI_nat (l := a :: r) (i := 0) (by simp)
    obtain ⟨q, h1, h2, h3, _⟩ := foldO_ind (Bd := fun i6 s4 => (iteO (N_is_less s4 i6) ((some i6).bind fun greatest_7 => some greatest_7) (some s4))) (P := fun rest s => s ∈ a :: r ∧ (∀ p ∈ a :: r, p ∈ rest ∨ val p ≤ val s) ∧ ∀ p ∈ rest, p ∈ a :: r) (a :: r) a ⟨List.mem_cons_self, fun p hp => .inl hp, fun p hp => hp⟩ (fun x rest s ⟨h1, h2, h3⟩ _ => by
      have hx := h x (h3 x List.mem_cons_self)
      have hs := h s h1
      show ∃ s', iteO (N_is_less s x) ((some x).bind fun greatest_7 => some greatest_7) (some s) = some s' ∧ _
      rw [is_less_ok hs hx (by omega)]
      by_cases hl : val s < val x
      · rw [decide_eq_true hl]
        refine ⟨x, rfl, h3 x List.mem_cons_self, fun p hp => ?_, fun p hp => h3 p (List.mem_cons_of_mem _ hp)⟩
        rcases h2 p hp with e | e
        · rcases List.mem_cons.mp e with e | e
          · exact .inr (by rw [e]; exact Rat.le_refl)
          · exact .inl e
        · exact .inr (by grind)
      · rw [decide_eq_false hl]
        refine ⟨s, rfl, h1, fun p hp => ?_, fun p hp => h3 p (List.mem_cons_of_mem _ hp)⟩
        rcases h2 p hp with e | e
        · rcases List.mem_cons.mp e with e | e
          · exact .inr (by rw [e]; grind)
          · exact .inl e
        · exact .inr e)
    refine ⟨q, ?_, h2, fun p hp => (h3 p hp).elim (fun z => nomatch z) id⟩
    unfold N_greatest_ratio
    rw [ha, Option.bind_some, h1]
    rfl
def peakW (d : DamT) (f l : Nat) : Int := (if f = 0 then d.2.1 else 0) + part d.2.2.2 f l - d.1
theorem window_peak_ok {d : DamT} {f l : Nat} (h1 : f ≤ l) (h2 : l < d.2.2.2.length) (h12 : d.2.2.2.length ≤ 12) : N_window_peak d ((f : Int), (l : Int)) = some (rt (peakW d f l) ((l : Int) - (f : Int) + 1)) := by
  unfold N_window_peak
  show (((some (cond (decide ((f : Int) = 0)) d.2.1 (0 : Int))).bind fun held_3 => ((((some held_3).bind fun x7 => ((N_in_window d.2.2.2 ((f : Int), (l : Int))).bind (fun x6 => some (List.sum x6))).bind fun y8 => some (x7 + y8)).bind fun x9 => (some d.1).bind fun y10 => some (x9 - y10)).bind fun a15 => (some (((l : Int) - (f : Int)) + (1 : Int))).bind fun a16 => N_ratio a15 a16))) = _
  rw [in_window_ok h1 h2]
  have e : cond (decide ((f : Int) = 0)) d.2.1 (0 : Int) = if f = 0 then d.2.1 else 0 := by
    by_cases hf : f = 0
    · subst hf; rfl
    · rw [decide_eq_false (by omega), if_neg hf]; rfl
  rw [e]
  show N_ratio ((if f = 0 then d.2.1 else 0) + ((d.2.2.2.drop f).take (l + 1 - f)).sum - d.1) ((l : Int) - (f : Int) + 1) = _
  exact ratio_ok (n := 10) (by omega) (by omega) (by decide)
theorem peak_small {m : Int} {d : DamT} (h : DamIn m d) (hm : m ≤ 12) (f l : Nat) : (peakW d f l).natAbs < 2 ^ 15 := by
  have hp := part_small h.fl (h.len hm) f l
  have h1 := h.c0; have h2 := h.c1; have h3 := h.s0; have h4 := h.s1
  unfold peakW
  split <;> omega
def pkR (d : DamT) (p : Int × Int) : Q2 := rt (peakW d p.1.toNat p.2.toNat) (p.2 - p.1 + 1)
theorem pkR_at (d : DamT) (f l : Nat) : pkR d ((f : Int), (l : Int)) = rt (peakW d f l) ((l : Int) - (f : Int) + 1) := by
  unfold pkR
  simp only [Int.toNat_natCast]
theorem least_peak_ok {d : DamT} (h : DamIn 12 d) (hE : d.2.2.1 ≤ fill d.1 d.2.1 d.2.2.2) : ∃ q, N_least_peak d = some q ∧ Sz 15 q ∧ (∀ r : Rat, (val q ≤ r ↔ 0 ≤ r ∧ ∀ f l : Nat, f ≤ l → l < d.2.2.2.length → ((peakW d f l : Int) : Rat) ≤ r * (((l : Int) - (f : Int) + 1 : Int) : Rat))) ∧ (q = ((0 : Int), (1 : Int)) ∨ ∃ f l : Nat, f ≤ l ∧ l < d.2.2.2.length ∧ q = rt (peakW d f l) ((l : Int) - (f : Int) + 1)) := by
  have h12 : d.2.2.2.length ≤ 12 := by have := h.l1; omega
  have hw : compL (fun (i3 : Int × Int) => (some true)) (fun (i3 : Int × Int) => (N_window_peak d i3)) (winI d.2.2.2.length) = some ((winI d.2.2.2.length).map (pkR d)) := compL_all (by have := winI_len h12; omega) fun p hp => by
    obtain ⟨f, l, rfl, h1, h2⟩ := winI_mem.mp hp
    rw [window_peak_ok h1 h2 h12, pkR_at]
  have z0 : Sz 15 ((0 : Int), (1 : Int)) := sz_int (by decide) (by decide)
  have szs : ∀ p ∈ ((0 : Int), (1 : Int)) :: ((winI d.2.2.2.length).map (pkR d)), Sz 15 p := fun p hp => by
    rcases List.mem_cons.mp hp with e | e
    · rw [e]; exact z0
    · obtain ⟨w, hw, rfl⟩ := List.mem_map.mp e
      obtain ⟨f, l, rfl, h1, h2⟩ := winI_mem.mp hw
      rw [pkR_at]
      exact rt_sz (by omega) (peak_small h (by decide) _ _) (by omega)
  obtain ⟨q, q1, q2, q3⟩ := greatest_ratio_ok (n := 15) (by decide) (by simp) szs
  refine ⟨q, ?_, szs q q2, fun r => ?_, ?_⟩
  rotate_left 2
  · rcases List.mem_cons.mp q2 with e | e
    · exact .inl e
    · obtain ⟨w, hw, rfl⟩ := List.mem_map.mp e
      obtain ⟨f, l, rfl, h1, h2⟩ := winI_mem.mp hw
      exact .inr ⟨f, l, h1, h2, pkR_at d f l⟩
  · unfold N_least_peak
    rw [check_dam_ok h (by decide), has_plan_ok hE]
    show (((some [((0 : Int), (1 : Int))]).bind fun x4 => ((N_windows ((d.2.2.2).length : Int)).bind fun l => compL (fun (i3 : Int × Int) => (some true)) (fun (i3 : Int × Int) => (N_window_peak d i3)) l).bind fun y5 => (catO x4 y5)).bind fun a6 => N_greatest_ratio a6) = some q
    rw [windows_ok h12]
    refine bindE (a := ((0 : Int), (1 : Int)) :: ((winI d.2.2.2.length).map (pkR d))) ?_ q1
    refine bindE rfl ?_
    refine bindE (a := ((winI d.2.2.2.length).map (pkR d))) hw ?_
    unfold catO
    rw [if_pos (by have := winI_len h12; simp; omega)]
    rfl
  · have win : ∀ f l : Nat, f ≤ l → l < d.2.2.2.length → (val (rt (peakW d f l) ((l : Int) - (f : Int) + 1)) ≤ r ↔ ((peakW d f l : Int) : Rat) ≤ r * (((l : Int) - (f : Int) + 1 : Int) : Rat)) := fun f l h1 h2 => by
      rw [win_val h1]
      exact rle_div (by omega)
    have v0 : val ((0 : Int), (1 : Int)) = 0 := by rw [val_int]; rfl
    constructor
    · intro hq
      refine ⟨?_, fun f l h1 h2 => (win f l h1 h2).mp ?_⟩
      · have := q3 _ List.mem_cons_self
        rw [v0] at this
        grind
      · have := q3 (rt (peakW d f l) ((l : Int) - (f : Int) + 1)) (List.mem_cons_of_mem _ (List.mem_map.mpr ⟨((f : Int), (l : Int)), winI_mem.mpr ⟨f, l, rfl, h1, h2⟩, pkR_at d f l⟩))
        grind
    · rintro ⟨r0, hr⟩
      rcases List.mem_cons.mp q2 with e | e
      · rw [e, v0]; exact r0
      · obtain ⟨w, hw, rfl⟩ := List.mem_map.mp e
        obtain ⟨f, l, rfl, h1, h2⟩ := winI_mem.mp hw
        rw [pkR_at]
        exact (win f l h1 h2).mpr (hr f l h1 h2)
theorem sum_neg : ∀ xs : List Int, (xs.map fun x => -x).sum = -xs.sum
  | [] => rfl
  | x :: xs => by rw [List.map_cons, List.sum_cons, List.sum_cons, sum_neg xs]; omega
theorem part_neg (xs : List Int) (f l : Nat) : part (xs.map fun x => -x) f l = -part xs f l := by
  unfold part
  rw [← List.map_drop, ← List.map_take, sum_neg]
/-- a release is no smaller than the least peak just where what is held lies under the flood curve -/
theorem peak_top {C S o : Int} {xs : List Int} (hC : 0 ≤ C ∧ C ≤ 1000) (hS : 0 ≤ S ∧ S ≤ C) (ho : 0 ≤ o) (hx : Flows xs) (h0 : 0 < xs.length) (h12 : xs.length ≤ 12) :
    ∃ q, N_least_peak (C, S, 0, xs) = some q ∧ Sz 15 q ∧ (val q ≤ (o : Rat) ↔ ∃ m, top C o xs = some m ∧ S ≤ m) := by
  have hd : DamIn 12 (C, S, 0, xs) := ⟨hC.1, hC.2, hS.1, hS.2, Int.le_refl _, hC.1, hx, h0, by show (xs.length : Int) ≤ 12; omega⟩
  obtain ⟨q, q1, q2, q3, _⟩ := least_peak_ok hd (fill_nonneg hC.1 xs S (fun x hxm => (hx x hxm).1) hS.1)
  refine ⟨q, q1, q2, ?_⟩
  rw [q3, ← can_top hC.1 xs S hS.1 hS.2]
  have eq := can_equal (d := (C, C - S, 0, xs.map fun x => -x)) (r := -(o : Rat)) hC.1 (Int.le_refl _) (by rw [List.length_map]; exact h0)
  have em : (xs.map fun x => -x).map (fun x : Int => ((x : Rat) - -(o : Rat))) = xs.map fun x : Int => (o : Rat) - (x : Rat) := by
    rw [List.map_map]
    refine List.map_congr_left fun x _ => ?_
    show ((-x : Int) : Rat) - -(o : Rat) = (o : Rat) - (x : Rat)
    rw [Rat.intCast_neg]
    grind
  have z0 : ((0 : Int) : Rat) = 0 := rfl
  rw [em] at eq
  simp only [z0] at eq
  rw [eq]
  have step : ∀ f l : Nat, (-(o : Rat) * (((l : Int) - (f : Int) + 1 : Int) : Rat) ≤ (spareW (C, C - S, 0, xs.map fun x => -x) f l : Rat) ↔ ((peakW (C, S, 0, xs) f l : Int) : Rat) ≤ (o : Rat) * (((l : Int) - (f : Int) + 1 : Int) : Rat)) := fun f l => by
    have e1 : spareW (C, C - S, 0, xs.map fun x => -x) f l = - peakW (C, S, 0, xs) f l := by
      unfold spareW peakW heldAt
      show (if f = 0 then C - S else C) + part (xs.map fun x => -x) f l - (if l + 1 = (xs.map fun x => -x).length then (0 : Int) else 0) = -((if f = 0 then S else 0) + part xs f l - C)
      rw [part_neg]
      split <;> split <;> omega
    rw [e1, Rat.intCast_neg]
    constructor <;> intro z <;> grind
  constructor
  · rintro ⟨_, hr⟩ f l h1 h2
    rw [List.length_map] at h2
    exact (step f l).mpr (hr f l h1 h2)
  · intro hr
    exact ⟨by exact_mod_cast ho, fun f l h1 h2 => (step f l).mp (hr f l h1 (by rw [List.length_map]; exact h2))⟩
end Ty
set_option Elab.async false
set_option linter.all false
set_option maxRecDepth 100000
set_option maxHeartbeats 4000000
namespace Ty
open PySem PySem.Spec PyProof.Rows L2 DN
/-! ### the curves by index -/
theorem foldJ_step {α β σ : Type} (Bd : α → σ → Option (β ⊕ σ)) (x : α) (r : List α) (s : σ) : foldJ Bd (x :: r) s = (Bd x s).bind (thenJ (foldJ Bd r)) := rfl
theorem allJ {β : Type} {Bd : Int → Unit → Option (β ⊕ Unit)} {K : Unit → Option β} {R : Option β} {n : Nat} (hn : n ≤ 1000000) (hs : ∀ j : Nat, j < n → Bd (0 + (j : Int)) () = some (.inr ())) (hk : K () = R) :
    bindJ ((range1O (n : Int)).bind fun l => foldJ Bd l ()) K = R := by
  have go : ∀ m j, j + m = n → foldJ Bd ((List.range' j m).map fun i : Nat => (0 + (i : Int))) () = some (.inr ()) := by
    intro m
    induction m with
    | zero => intro j e; rfl
    | succ m ih =>
      intro j e
      rw [range_suffix, foldJ_step, hs j (by omega)]
      exact ih (j + 1) (by omega)
  rw [range1_nat hn, List.range_eq_range']
  show (foldJ Bd ((List.range' 0 n).map fun i : Nat => (0 + (i : Int))) ()).bind (outJ K) = R
  rw [go n 0 (by omega)]
  exact hk
theorem lows_at (C E : Int) : ∀ (xs ds : List Int) (j : Nat), ds.length = xs.length → j ≤ xs.length → (lows C E xs ds)[j]? = some (low C E (xs.drop j) (ds.drop j))
  | [], [], 0, _, _ => rfl
  | x :: xs, d :: ds, 0, _, _ => rfl
  | x :: xs, d :: ds, j + 1, h, hj => by
    show (lows C E xs ds)[j]? = _
    rw [lows_at C E xs ds j (by simpa using h) (by simpa using hj)]
    rfl
  | [], [], j + 1, _, hj => by simp at hj
  | [], d :: ds, _, h, _ => by simp at h
  | x :: xs, [], _, h, _ => by simp at h
theorem tops_at (C o : Int) : ∀ (xs : List Int) (j : Nat), j ≤ xs.length → (tops C o xs)[j]? = some (top C o (xs.drop j))
  | [], 0, _ => rfl
  | x :: xs, 0, _ => rfl
  | x :: xs, j + 1, hj => by
    show (tops C o xs)[j]? = _
    rw [tops_at C o xs j (by simpa using hj)]
    rfl
  | [], j + 1, hj => by simp at hj
theorem atI_of {α : Type} {l : List α} {i : Nat} {a : α} (h : l[i]? = some a) : atI l (0 + (i : Int)) = some a := by
  obtain ⟨h1, h2⟩ := List.getElem?_eq_some_iff.mp h
  rw [atI_nat h1, h2]
theorem low_step {C E x d : Int} {xs ds : List Int} : low C E (x :: xs) (d :: ds) = match low C E xs ds with
    | none => none
    | some m => if C < max2 0 (m + d - x) then none else some (max2 0 (m + d - x)) := rfl
theorem top_step {C o x : Int} {xs : List Int} : top C o (x :: xs) = match top C o xs with
    | none => none
    | some m => if min2 C (m + o - x) < 0 then none else some (min2 C (m + o - x)) := rfl
theorem fill_cons {C h x : Int} {xs : List Int} : fill C h (x :: xs) = fill C (min2 C (h + x)) xs := rfl
theorem low_fill {C E : Int} (hE : 0 ≤ E ∧ E ≤ C) : ∀ (xs ds : List Int) (h m : Int), ds.length = xs.length → (∀ d ∈ ds, 0 ≤ d) → low C E xs ds = some m → m ≤ h → E ≤ fill C h xs
  | [], [], h, m, _, _, h1, h2 => by cases h1; exact h2
  | x :: xs, d :: ds, h, m, hl, hd, h1, h2 => by
    rw [low_step] at h1
    cases e : low C E xs ds with
    | none => rw [e] at h1; cases h1
    | some q =>
      have hq := low_range hE xs ds q e
      have h0 := hd d List.mem_cons_self
      rw [e] at h1
      simp only at h1
      split at h1
      · cases h1
      · cases h1
        refine low_fill hE xs ds _ q (by simpa using hl) (fun d hd' => hd d (List.mem_cons_of_mem _ hd')) e ?_
        rw [max2_eq] at h2
        rw [min2_eq]
        split at h2 <;> split <;> omega
  | [], d :: ds, _, _, h, _, _, _ => by simp at h
  | x :: xs, [], _, _, h, _, _, _ => by simp at h
theorem lessI_rep (xs : List Int) (d : Int) : lessI xs (List.replicate xs.length d) = xs.map fun x : Int => ((x : Rat) - (d : Rat)) := by
  unfold lessI
  induction xs with
  | nil => rfl
  | cons x xs ih =>
    rw [List.length_cons, List.replicate_succ, List.zipWith_cons_cons, ih]
    rfl
theorem eqO_oJ (x : Option Int) (y : Int) : eqO ((eO eI) x) (eI y) = some (decide (x = some y)) := by
  cases x with
  | none => rfl
  | some v =>
    have e : eqO (eI v) (eI y) = some (decide (v = y)) := eqO_I v y
    show eqO (eI v) (eI y) = _
    rw [e]
    congr 1
    rw [decide_eq_decide]
    exact ⟨fun z => by rw [z], fun z => by cases z; rfl⟩
theorem eqO_oo (x y : Option Int) : eqO ((eO eI) x) ((eO eI) y) = some (decide (x = y)) := by
  cases y with
  | some v => exact eqO_oJ x v
  | none =>
    cases x <;> rfl
end Ty
set_option Elab.async false
set_option linter.all false
set_option maxRecDepth 100000
set_option maxHeartbeats 4000000
namespace Ty
open PySem PySem.Spec PyProof.Rows L2 DN
/-! ### runs -/
def runI (C : Int) : Int → List Int → List Int → List (Int × Int × Int)
  | h, x :: xs, d :: ds => (min2 d (h + x), h + x - min2 d (h + x) - min2 C (h + x - min2 d (h + x)), min2 C (h + x - min2 d (h + x))) :: runI C (min2 C (h + x - min2 d (h + x))) xs ds
  | _, _, _ => []
def endI (C : Int) : Int → List Int → List Int → Int
  | h, x :: xs, d :: ds => endI C (min2 C (h + x - min2 d (h + x))) xs ds
  | h, _, _ => h
def lackI (C : Int) : Int → List Int → List Int → Int
  | h, x :: xs, d :: ds => (d - min2 d (h + x)) + lackI C (min2 C (h + x - min2 d (h + x))) xs ds
  | _, _, _ => 0
theorem run_len (C : Int) : ∀ (xs ds : List Int) (h : Int), ds.length = xs.length → (runI C h xs ds).length = xs.length
  | [], [], _, _ => rfl
  | x :: xs, d :: ds, h, e => by
    show (runI C _ xs ds).length + 1 = _
    rw [run_len C xs ds _ (by simpa using e), List.length_cons]
  | [], d :: ds, _, h => by simp at h
  | x :: xs, [], _, h => by simp at h
theorem run_lack (C : Int) : ∀ (xs ds : List Int) (h : Int), ds.length = xs.length → lackI C h xs ds = ds.sum - ((runI C h xs ds).map fun r => r.1).sum
  | [], [], _, _ => rfl
  | x :: xs, d :: ds, h, e => by
    show (d - min2 d (h + x)) + lackI C (min2 C (h + x - min2 d (h + x))) xs ds = (d :: ds).sum - (min2 d (h + x) :: (runI C (min2 C (h + x - min2 d (h + x))) xs ds).map fun r => r.1).sum
    rw [run_lack C xs ds _ (by simpa using e), List.sum_cons, List.sum_cons]
    omega
  | [], d :: ds, _, h => by simp at h
  | x :: xs, [], _, h => by simp at h
theorem run_last (C : Int) : ∀ (xs ds : List Int) (h : Int), ds.length = xs.length → 0 < xs.length → ∃ r, (runI C h xs ds).getLast? = some r ∧ r.2.2 = endI C h xs ds
  | [x], [d], h, _, _ => ⟨_, rfl, rfl⟩
  | x :: y :: xs, d :: e :: ds, h, hl, _ => by
    obtain ⟨r, h1, h2⟩ := run_last C (y :: xs) (e :: ds) (min2 C (h + x - min2 d (h + x))) (by simpa using hl) (by simp)
    refine ⟨r, ?_, h2⟩
    have e1 : runI C h (x :: y :: xs) (d :: e :: ds) = (min2 d (h + x), h + x - min2 d (h + x) - min2 C (h + x - min2 d (h + x)), min2 C (h + x - min2 d (h + x))) :: runI C (min2 C (h + x - min2 d (h + x))) (y :: xs) (e :: ds) := rfl
    rw [e1, List.getLast?_cons, h1]
    rfl
  | [], _, _, _, h => by simp at h
  | [x], [], _, h, _ => by simp at h
  | [x], _ :: _ :: _, _, h, _ => by simp at h
  | _ :: _ :: _, [], _, h, _ => by simp at h
  | _ :: _ :: _, [_], _, h, _ => by simp at h
theorem atI_end {α : Type} (l : List α) (x : α) (h : l.getLast? = some x) : atI l (-(1 : Int)) = some x := by
  obtain ⟨r, rfl⟩ := List.getLast?_eq_some_iff.mp h
  unfold atI ixN
  simp
  rw [if_pos (by omega)]
  show (r ++ [x])[(-1 + ((r.length : Int) + 1)).toNat]? = some x
  rw [show (-1 + ((r.length : Int) + 1)).toNat = r.length by omega]
  simp
/-- the demands are given and the end is kept just where the start is on the curve or above -/
theorem run_low {C E : Int} (hE : 0 ≤ E ∧ E ≤ C) : ∀ (xs ds : List Int) (h : Int), ds.length = xs.length → (∀ x ∈ xs, 0 ≤ x) → (∀ d ∈ ds, 0 ≤ d) → 0 ≤ h → h ≤ C → 0 ≤ lackI C h xs ds ∧ ((lackI C h xs ds = 0 ∧ E ≤ endI C h xs ds) ↔ ∃ m, low C E xs ds = some m ∧ m ≤ h)
  | [], [], h, _, _, _, _, _ => ⟨Int.le_refl _, fun z => ⟨E, rfl, z.2⟩, fun ⟨m, z1, z2⟩ => ⟨rfl, by cases z1; exact z2⟩⟩
  | x :: xs, d :: ds, h, hl, hx, hd, h0, h1 => by
    have x0 := hx x List.mem_cons_self
    have d0 := hd d List.mem_cons_self
    have g : min2 d (h + x) ≤ d ∧ min2 d (h + x) ≤ h + x ∧ (min2 d (h + x) = d ∨ min2 d (h + x) = h + x) := by rw [min2_eq]; split <;> omega
    have k : min2 C (h + x - min2 d (h + x)) ≤ C ∧ min2 C (h + x - min2 d (h + x)) ≤ h + x - min2 d (h + x) ∧ (min2 C (h + x - min2 d (h + x)) = C ∨ min2 C (h + x - min2 d (h + x)) = h + x - min2 d (h + x)) := by rw [min2_eq C]; split <;> omega
    obtain ⟨i1, i2⟩ := run_low hE xs ds (min2 C (h + x - min2 d (h + x))) (by simpa using hl) (fun y hy => hx y (List.mem_cons_of_mem _ hy)) (fun y hy => hd y (List.mem_cons_of_mem _ hy)) (by omega) (by omega)
    have e1 : lackI C h (x :: xs) (d :: ds) = (d - min2 d (h + x)) + lackI C (min2 C (h + x - min2 d (h + x))) xs ds := rfl
    have e2 : endI C h (x :: xs) (d :: ds) = endI C (min2 C (h + x - min2 d (h + x))) xs ds := rfl
    rw [e1, e2, low_step]
    refine ⟨by omega, ?_⟩
    constructor
    · rintro ⟨z1, z2⟩
      obtain ⟨m, m1, m2⟩ := i2.mp ⟨by omega, z2⟩
      have r := low_range hE xs ds m m1
      have hq : max2 0 (m + d - x) ≤ h := by rw [max2_eq]; split <;> omega
      rw [m1]
      exact ⟨max2 0 (m + d - x), by show (if C < max2 0 (m + d - x) then none else some (max2 0 (m + d - x))) = _; rw [if_neg (by omega)], hq⟩
    · rintro ⟨m, m1, m2⟩
      cases e : low C E xs ds with
      | none => rw [e] at m1; cases m1
      | some q =>
        have r := low_range hE xs ds q e
        rw [e] at m1
        simp only at m1
        split at m1
        · cases m1
        · cases m1
          have hq : q + d - x ≤ h := by rw [max2_eq] at m2; split at m2 <;> omega
          have := i2.mpr ⟨q, e, by omega⟩
          exact ⟨by omega, this.2⟩
  | [], d :: ds, _, h, _, _, _, _ => by simp at h
  | x :: xs, [], _, h, _, _, _, _ => by simp at h
theorem run_months_ok {d : DamT} {ds : List Int} (hn : d.2.2.2.length ≤ 12) (hl : ds.length = d.2.2.2.length) : N_run_months d ds = some (runI d.1 d.2.1 d.2.2.2 ds) := by
  unfold N_run_months
  have go : ∀ (xs ds : List Int) (h : Int) (acc : List (Int × Int × Int)), ds.length = xs.length → acc.length + xs.length ≤ 1000000 → ∃ z, foldO (fun (i7 : Int × Int) (s5 : Int × List (Int × Int × Int)) => ((some (s5.1 + i7.1)).bind fun there_8 => ((some (min2 i7.2 there_8)).bind fun given_11 => ((some (min2 d.1 (there_8 - given_11))).bind fun held_16 => ((appO s5.2 (given_11, ((there_8 - given_11) - held_16), held_16)).bind fun months_27 => some (held_16, months_27)))))) (List.zip xs ds) (h, acc) = some (z, acc ++ runI d.1 h xs ds) := by
    intro xs
    induction xs with
    | nil => intro ds h acc _ _; exact ⟨h, by cases ds <;> simp [runI, foldO]⟩
    | cons x xs ih =>
      intro ds h acc hl hn
      cases ds with
      | nil => simp at hl
      | cons dd ds =>
        rw [List.length_cons] at hn
        obtain ⟨z, hz⟩ := ih ds (min2 d.1 (h + x - min2 dd (h + x))) (acc ++ [(min2 dd (h + x), h + x - min2 dd (h + x) - min2 d.1 (h + x - min2 dd (h + x)), min2 d.1 (h + x - min2 dd (h + x)))]) (by simpa using hl) (by rw [List.length_append, List.length_singleton]; omega)
        refine ⟨z, ?_⟩
        rw [List.append_assoc] at hz
        rw [List.zip_cons_cons, foldO_cons]
        refine bindE (a := (min2 d.1 (h + x - min2 dd (h + x)), acc ++ [(min2 dd (h + x), h + x - min2 dd (h + x) - min2 d.1 (h + x - min2 dd (h + x)), min2 d.1 (h + x - min2 dd (h + x)))])) ?_ hz
        refine bindE rfl (bindE rfl (bindE rfl (bindE (a := acc ++ [(min2 dd (h + x), h + x - min2 dd (h + x) - min2 d.1 (h + x - min2 dd (h + x)), min2 d.1 (h + x - min2 dd (h + x)))]) ?_ rfl)))
        exact if_pos (show acc.length ≤ 1000000 by omega)
  obtain ⟨z, hz⟩ := go d.2.2.2 ds d.2.1 [] hl (by simp; omega)
  refine bindE rfl (bindE rfl (bindE hz ?_))
  rfl
theorem top_mono {C o o' : Int} (ho : o ≤ o') : ∀ (xs : List Int) (a : Int), top C o xs = some a → ∃ b, top C o' xs = some b ∧ a ≤ b
  | [], a, h => ⟨C, rfl, by cases h; exact Int.le_refl _⟩
  | x :: xs, a, h => by
    rw [top_step] at h ⊢
    cases e : top C o xs with
    | none => rw [e] at h; cases h
    | some q =>
      obtain ⟨b, b1, b2⟩ := top_mono ho xs q e
      rw [e] at h
      simp only at h
      split at h
      · cases h
      · cases h
        rename_i hn
        have hb : min2 C (q + o - x) ≤ min2 C (b + o' - x) := by rw [min2_eq, min2_eq]; split <;> split <;> omega
        rw [b1]
        exact ⟨min2 C (b + o' - x), by show (if min2 C (b + o' - x) < 0 then none else some (min2 C (b + o' - x))) = _; rw [if_neg (by omega)], hb⟩
theorem low_mono {C E : Int} (g : Int → Int) (hg : ∀ d, 0 ≤ d → g d ≤ d) : ∀ (xs ds : List Int) (a : Int), (∀ d ∈ ds, 0 ≤ d) → low C E xs ds = some a → ∃ b, low C E xs (ds.map g) = some b ∧ b ≤ a
  | x :: xs, d :: ds, a, hd, h => by
    have h0 := hg d (hd d List.mem_cons_self)
    rw [low_step] at h
    rw [List.map_cons, low_step]
    cases e : low C E xs ds with
    | none => rw [e] at h; cases h
    | some q =>
      obtain ⟨b, b1, b2⟩ := low_mono g hg xs ds q (fun y hy => hd y (List.mem_cons_of_mem _ hy)) e
      rw [e] at h
      simp only at h
      split at h
      · cases h
      · cases h
        rename_i hn
        have hb : max2 0 (b + g d - x) ≤ max2 0 (q + d - x) := by rw [max2_eq, max2_eq]; split <;> split <;> omega
        rw [b1]
        exact ⟨max2 0 (b + g d - x), by show (if C < max2 0 (b + g d - x) then none else some (max2 0 (b + g d - x))) = _; rw [if_neg (by omega)], hb⟩
  | [], ds, a, _, h => ⟨E, by cases ds <;> rfl, by cases h; exact Int.le_refl _⟩
  | x :: xs, [], a, _, h => ⟨E, rfl, by cases h; exact Int.le_refl _⟩
end Ty
set_option Elab.async false
set_option linter.all false
set_option maxRecDepth 100000
set_option maxHeartbeats 4000000
namespace Ty
open PySem PySem.Spec PyProof.Rows L2 DN
/-! ### spells -/
theorem ite_T {α : Type} (x y : Option α) : iteO (some true) x y = x := rfl
theorem ite_F {α : Type} (x y : Option α) : iteO (some false) x y = y := rfl
abbrev Sp := Int × Int × Int
theorem alike_sp {l : List Sp} (h : l.length ≤ 1000000) : alikeT 3 (eR (e3 eI eI eI)) (eR (e3 eI eI eI)) l l = some true := by
  have := alk_R (alk_3 (alk_I 1) (alk_I 1) (alk_I 1)) l l h
  rw [decide_eq_true rfl] at this
  exact this
theorem foldL {α σ : Type} {Bd : α → σ → Option σ} (Inv : List α → σ → Prop) (hs : ∀ x r s, Inv (x :: r) s → ∃ s', Bd x s = some s' ∧ Inv r s') : ∀ (l : List α) (s : σ), Inv l s → ∃ s', foldO Bd l s = some s' ∧ Inv [] s'
  | [], s, h => ⟨s, rfl, h⟩
  | x :: r, s, h => by
    obtain ⟨s1, h1, h2⟩ := hs x r s h
    obtain ⟨s2, h3, h4⟩ := foldL Inv hs r s1 h2
    exact ⟨s2, by rw [foldO_cons, h1]; exact h3, h4⟩
theorem foldU {α γ σ : Type} {Bd : α → σ → Option σ} {K : σ → Option γ} {R : Option γ} {l : List α} {s : σ} (Inv : List α → σ → Prop) (hs : ∀ x r s, Inv (x :: r) s → ∃ s', Bd x s = some s' ∧ Inv r s') (h0 : Inv l s) (hk : ∀ s', Inv [] s' → K s' = R) : (foldO Bd l s).bind K = R := by
  obtain ⟨s', h1, h2⟩ := foldL Inv hs l s h0
  rw [h1]
  exact hk s' h2
theorem mulI {x y : Int} (hx : 0 ≤ x ∧ x ≤ 1000000) (hy : 0 ≤ y ∧ y ≤ 1000000) : mulO x y = some (x * y) := mul_ok (n := 20) (m := 20) (by omega) (by omega) (by decide)
def spStep (v k x : Int) (P : List Sp) : List Sp := if x < v then
    match P.getLast? with
    | some r => if r.2.1 = k - 1 then P.dropLast ++ [(r.1, k, r.2.2 + (v - x))] else P ++ [(k, k, v - x)]
    | none => P ++ [(k, k, v - x)]
  else P
def spI (v : Int) : Nat → List Int → List Sp → List Sp
  | _, [], P => P
  | k, x :: xs, P => spI v (k + 1) xs (spStep v (k : Int) x P)
theorem spStep_len (v k x : Int) (P : List Sp) : (spStep v k x P).length ≤ P.length + 1 := by
  unfold spStep
  split
  · split
    · split <;> simp <;> omega
    · simp
  · omega
theorem spI_app (v : Int) : ∀ (xs : List Int) (k : Nat) (x : Int) (P : List Sp), spI v k (xs ++ [x]) P = spStep v ((k + xs.length : Nat) : Int) x (spI v k xs P)
  | [], k, x, P => rfl
  | y :: xs, k, x, P => by
    show spI v (k + 1) (xs ++ [x]) _ = _
    rw [spI_app v xs (k + 1) x _, List.length_cons, show k + 1 + xs.length = k + (xs.length + 1) by omega]
    rfl
/-- behind j months -/
def spT (v : Int) (xs : List Int) (j : Nat) : List Sp := spI v 0 (xs.take j) []
theorem spT_succ {v : Int} {xs : List Int} {j : Nat} (h : j < xs.length) : spT v xs (j + 1) = spStep v (j : Int) xs[j] (spT v xs j) := by
  unfold spT
  rw [List.take_succ_eq_append_getElem h, spI_app, List.length_take]
  congr 2
  omega
theorem spells_ok {xs : List Int} {v : Int} (hx : Flows xs) (h0 : 0 < xs.length) (h12 : xs.length ≤ 12) (v0 : 0 ≤ v) (v1 : v ≤ 1000) : N_spells xs v = some (spT v xs xs.length) := by
  unfold N_spells
  rw [check_inflows_ok hx h0 h12]
  have hb : N_is_between v (0 : Int) (1000 : Int) = some true := by rw [between_ok, decide_eq_true v0, decide_eq_true v1]; rfl
  rw [hb]
  have go : ∀ (xs : List Int) (k : Nat) (P : List Sp), P.length + xs.length ≤ 1000 → foldO (fun (i6 : Int × Int) (s4 : List Sp) => (iteO (some (decide (i6.2 < v))) ((some (v - i6.2)).bind fun lack_11 => (iteO (andO (some (!decide (s4 = ([] : (List (Int × Int × Int)))))) (((atI s4 (-(1 : Int))).bind fun x19 => some x19.2.1).bind fun x22 => (some (i6.1 - (1 : Int))).bind fun y23 => some (decide (x22 = y23)))) (popK s4 fun p24 found_25 => ((appO found_25 (p24.1, i6.1, (p24.2.2 + lack_11))).bind fun found_28 => some found_28)) ((appO s4 (i6.1, i6.1, lack_11)).bind fun found_30 => some found_30))) (some s4))) (enumN k xs) P = some (spI v k xs P) := by
    intro xs
    induction xs with
    | nil => intro k P _; rfl
    | cons x xs ih =>
      intro k P hl
      rw [List.length_cons] at hl
      have := spStep_len v (k : Int) x P
      rw [show enumN k (x :: xs) = ((k : Int), x) :: enumN (k + 1) xs from rfl, foldO_cons]
      refine bindE ?_ (ih (k + 1) (spStep v (k : Int) x P) (by omega))
      have ap : ∀ (Q : List Sp) (r : Sp), Q.length ≤ P.length → appO Q r = some (Q ++ [r]) := fun Q r h => if_pos (by omega)
      unfold spStep
      by_cases hx : x < v
      · rw [if_pos hx]
        show iteO (some (decide (x < v))) _ _ = _
        rw [decide_eq_true hx]
        show iteO (andO (some (!decide (P = []))) (((atI P (-(1 : Int))).bind fun x19 => some x19.2.1).bind fun x22 => (some ((k : Int) - (1 : Int))).bind fun y23 => some (decide (x22 = y23)))) (popK P fun p24 found_25 => ((appO found_25 (p24.1, (k : Int), (p24.2.2 + (v - x)))).bind fun found_28 => some found_28)) ((appO P ((k : Int), (k : Int), v - x)).bind fun found_30 => some found_30) = _
        cases hg : P.getLast? with
        | none =>
          have : P = [] := List.getLast?_eq_none_iff.mp hg
          subst this
          rfl
        | some r =>
          have hne : P ≠ [] := fun z => by rw [z] at hg; cases hg
          rw [decide_eq_false hne, atI_end P r hg]
          show iteO (some (decide (r.2.1 = (k : Int) - 1))) _ _ = _
          by_cases hr : r.2.1 = (k : Int) - 1
          · rw [decide_eq_true hr]
            rw [ite_T]
            show popK P _ = some (if r.2.1 = (k : Int) - 1 then _ else _)
            rw [if_pos hr]
            unfold popK
            rw [hg]
            show (appO P.dropLast (r.1, (k : Int), r.2.2 + (v - x))).bind _ = _
            rw [ap _ _ (by rw [List.length_dropLast]; omega)]
            rfl
          · rw [decide_eq_false hr]
            rw [ite_F]
            show (appO P ((k : Int), (k : Int), v - x)).bind _ = some (if r.2.1 = (k : Int) - 1 then _ else _)
            rw [if_neg hr, ap _ _ (Nat.le_refl _)]
            rfl
      · rw [if_neg hx]
        show iteO (some (decide (x < v))) _ _ = _
        rw [decide_eq_false hx]
        rfl
  show (foldO _ (enumN 0 xs) []).bind _ = _
  rw [go xs 0 [] (by simp; omega)]
  unfold spT
  rw [List.take_length]
  rfl
theorem spT_len {v : Int} {xs : List Int} : ∀ j, j ≤ xs.length → (spT v xs j).length ≤ j
  | 0, _ => Nat.le_refl _
  | j + 1, h => by
    rw [spT_succ (by omega)]
    have := spT_len j (v := v) (xs := xs) (by omega)
    have := spStep_len v (j : Int) xs[j] (spT v xs j)
    omega
/-- what lacks from month f to month l -/
def lackW (v : Int) (xs : List Int) (f l : Nat) : Int := v * ((l : Int) - (f : Int) + 1) - part xs f l
theorem lackW_one {v : Int} {xs : List Int} {i : Nat} (h : i < xs.length) : lackW v xs i i = v - xs[i] := by
  unfold lackW
  rw [part_one h]
  have : (i : Int) - (i : Int) + 1 = 1 := by omega
  rw [this, Int.mul_one]
theorem part_next {xs : List Int} {f l : Nat} (h1 : f ≤ l + 1) (h2 : l + 1 < xs.length) : part xs f (l + 1) = part xs f l + xs[l + 1] := by
  unfold part
  have e : (l + 1 + 1 - f) = (l + 1 - f) + 1 := by omega
  have hd : l + 1 - f < (xs.drop f).length := by rw [List.length_drop]; omega
  rw [e, List.take_succ_eq_append_getElem hd, List.sum_append, List.getElem_drop]
  simp only [List.sum_cons, List.sum_nil, Int.add_zero]
  congr 2
  omega
theorem lackW_next {v : Int} {xs : List Int} {f l : Nat} (h1 : f ≤ l + 1) (h2 : l + 1 < xs.length) : lackW v xs f (l + 1) = lackW v xs f l + (v - xs[l + 1]) := by
  unfold lackW
  rw [part_next h1 h2]
  have : ((l + 1 : Nat) : Int) - (f : Int) + 1 = ((l : Int) - (f : Int) + 1) + 1 := by omega
  rw [this, Int.mul_add, Int.mul_one]
  omega
structure SpInv (v : Int) (xs : List Int) (j : Nat) (P : List Sp) : Prop where
  each : ∀ r ∈ P, ∃ f l : Nat, r = ((f : Int), (l : Int), lackW v xs f l) ∧ f ≤ l ∧ l < j
  gaps : P.Pairwise fun r s => r.2.1 + 1 < s.1
  flat : (P.flatMap fun r => (List.range (r.2.1 + 1 - r.1).toNat).map fun i : Nat => (r.1 + (i : Int))) = ((List.range j).map fun i : Nat => (0 + (i : Int))).filter fun i => decide (xs.getD i.toNat 0 < v)
  sum : (P.map fun r => r.2.2).sum = ((xs.take j).map fun x => max2 0 (v - x)).sum
theorem getLast?_split {α : Type} {l : List α} {a : α} (h : l.getLast? = some a) : l = l.dropLast ++ [a] := by
  obtain ⟨ys, rfl⟩ := List.getLast?_eq_some_iff.mp h
  rw [List.dropLast_concat]
theorem spInv_ok {v : Int} {xs : List Int} : ∀ j, j ≤ xs.length → SpInv v xs j (spT v xs j)
  | 0, _ => ⟨(fun r h => nomatch h), List.Pairwise.nil, rfl, rfl⟩
  | j + 1, h => by
    have hj : j < xs.length := by omega
    obtain ⟨i1, i2, i3, i4⟩ := spInv_ok (v := v) (xs := xs) j (by omega)
    rw [spT_succ hj]
    have flow : (((List.range (j + 1)).map fun i : Nat => (0 + (i : Int))).filter fun i => decide (xs.getD i.toNat 0 < v)) = (((List.range j).map fun i : Nat => (0 + (i : Int))).filter fun i => decide (xs.getD i.toNat 0 < v)) ++ if xs[j] < v then [(j : Int)] else [] := by
      have e : xs.getD ((0 : Int) + (j : Int)).toNat 0 = xs[j] := by
        have : ((0 : Int) + (j : Int)).toNat = j := by omega
        rw [this, List.getD_eq_getElem?_getD, List.getElem?_eq_getElem hj]
        rfl
      rw [List.range_succ, List.map_append, List.filter_append]
      congr 1
      show List.filter _ [(0 : Int) + (j : Int)] = _
      rw [List.filter_cons, e]
      by_cases hx : xs[j] < v
      · rw [if_pos (decide_eq_true hx), if_pos hx, Int.zero_add]
        rfl
      · rw [if_neg (by simpa using hx), if_neg hx]
        rfl
    have sm : ((xs.take (j + 1)).map fun x => max2 0 (v - x)).sum = ((xs.take j).map fun x => max2 0 (v - x)).sum + max2 0 (v - xs[j]) := by
      rw [List.take_succ_eq_append_getElem hj, List.map_append, List.sum_append]
      simp
    unfold spStep
    by_cases hx : xs[j] < v
    · rw [if_pos hx]
      rw [if_pos hx] at flow
      have m2 : max2 0 (v - xs[j]) = v - xs[j] := by rw [max2_eq, if_pos (by omega)]
      have anew : SpInv v xs (j + 1) (spT v xs j ++ [((j : Int), (j : Int), v - xs[j])]) ∨ ∃ r, (spT v xs j).getLast? = some r ∧ r.2.1 = (j : Int) - 1 := by
        by_cases hl : ∃ r, (spT v xs j).getLast? = some r ∧ r.2.1 = (j : Int) - 1
        · exact .inr hl
        refine .inl ⟨fun r hr => ?_, ?_, ?_, ?_⟩
        · rcases List.mem_append.mp hr with q | q
          · obtain ⟨f, l, e, h1, h2⟩ := i1 r q
            exact ⟨f, l, e, h1, by omega⟩
          · rw [List.mem_singleton] at q
            exact ⟨j, j, by rw [q, lackW_one hj], Nat.le_refl _, Nat.lt_succ_self _⟩
        · refine List.pairwise_append.mpr ⟨i2, List.pairwise_singleton _ _, fun r hr s hs => ?_⟩
          rw [List.mem_singleton] at hs
          subst hs
          show r.2.1 + 1 < (j : Int)
          -- the last one ends ahead of the month before
          cases hg : (spT v xs j).getLast? with
          | none =>
            rw [List.getLast?_eq_none_iff.mp hg] at hr
            cases hr
          | some z =>
            have hz : z ∈ spT v xs j := List.mem_of_getLast? hg
            obtain ⟨f, l, e, h1, h2⟩ := i1 z hz
            have hne : z.2.1 ≠ (j : Int) - 1 := fun y => hl ⟨z, hg, y⟩
            have hzl : z.2.1 = (l : Int) := by rw [e]
            have hzf : z.1 = (f : Int) := by rw [e]
            have sp := getLast?_split hg
            rw [sp] at hr i2
            rcases List.mem_append.mp hr with q | q
            · have := (List.pairwise_append.mp i2).2.2 r q z List.mem_cons_self
              omega
            · rw [List.mem_singleton] at q
              rw [q]
              omega
        · rw [List.flatMap_append, i3, flow]
          congr 1
          have : ((j : Int) + 1 - (j : Int)).toNat = 1 := by omega
          show (List.range ((j : Int) + 1 - (j : Int)).toNat).map _ ++ [] = _
          rw [this]
          simp
        · rw [List.map_append, List.sum_append, i4, sm, m2]
          simp
      cases hg : (spT v xs j).getLast? with
      | none =>
        rcases anew with q | ⟨r, q, _⟩
        · exact q
        · rw [hg] at q; cases q
      | some r =>
        show SpInv v xs (j + 1) (if r.2.1 = (j : Int) - 1 then _ else _)
        by_cases hr : r.2.1 = (j : Int) - 1
        · rw [if_pos hr]
          have sp := getLast?_split hg
          obtain ⟨f, l, e, h1, h2⟩ := i1 r (List.mem_of_getLast? hg)
          have hl : (l : Int) = (j : Int) - 1 := by rw [← hr, e]
          have hl : j = l + 1 := by omega
          subst hl
          have en : r.2.2 + (v - xs[l + 1]) = lackW v xs f (l + 1) := by rw [lackW_next (by omega) hj, e]
          have ef : r.1 = (f : Int) := by rw [e]
          rw [sp] at i2 i3 i4
          rw [en, ef]
          refine ⟨fun s hs => ?_, ?_, ?_, ?_⟩
          · rcases List.mem_append.mp hs with q | q
            · obtain ⟨f', l', e', h1', h2'⟩ := i1 s (by rw [sp]; exact List.mem_append_left _ q)
              exact ⟨f', l', e', h1', by omega⟩
            · rw [List.mem_singleton] at q
              exact ⟨f, l + 1, q, by omega, by omega⟩
          · obtain ⟨p1, p2, p3⟩ := List.pairwise_append.mp i2
            refine List.pairwise_append.mpr ⟨p1, List.pairwise_singleton _ _, fun s hs t ht => ?_⟩
            rw [List.mem_singleton] at ht
            subst ht
            have := p3 s hs r List.mem_cons_self
            rw [ef] at this
            exact this
          · rw [flow, ← i3, List.flatMap_append, List.flatMap_append, List.append_assoc]
            congr 1
            show (List.range (((l + 1 : Nat) : Int) + 1 - (f : Int)).toNat).map _ ++ [] = ((List.range (r.2.1 + 1 - r.1).toNat).map _ ++ []) ++ [((l + 1 : Nat) : Int)]
            rw [ef, show r.2.1 = (l : Int) by rw [e], List.append_nil, List.append_nil, show (((l + 1 : Nat) : Int) + 1 - (f : Int)).toNat = ((l : Int) + 1 - (f : Int)).toNat + 1 by omega, List.range_succ, List.map_append]
            congr 1
            show [(f : Int) + ((((l : Int) + 1 - (f : Int)).toNat : Nat) : Int)] = _
            congr 1
            omega
          · rw [sm, ← i4, m2, List.map_append, List.map_append, List.sum_append, List.sum_append]
            simp only [List.map_cons, List.map_nil, List.sum_cons, List.sum_nil]
            rw [← en]
            omega
        · rw [if_neg hr]
          rcases anew with q | ⟨z, q, q2⟩
          · exact q
          · rw [hg] at q
            cases q
            exact absurd q2 hr
    · rw [if_neg hx]
      rw [if_neg hx, List.append_nil] at flow
      refine ⟨fun r hr => ?_, i2, by rw [i3, flow], ?_⟩
      · obtain ⟨f, l, e, h1, h2⟩ := i1 r hr
        exact ⟨f, l, e, h1, by omega⟩
      · rw [i4, sm, max2_eq, if_neg (by omega), Int.add_zero]
end Ty
set_option Elab.async false
set_option linter.all false
set_option maxRecDepth 100000
set_option maxHeartbeats 4000000
namespace L71
open PySem PySem.Spec PyProof.Rows L2 DN Ty
def flat (P : List Ty.Sp) : List Int := P.flatMap fun r => (List.range (r.2.1 + 1 - r.1).toNat).map fun i : Nat => (r.1 + (i : Int))
theorem rep_brings {d : Int} {n f c : Nat} (h : f + c ≤ n + n) : brings (List.replicate n d) f c = d * (c : Int) := by
  unfold brings
  have e : ((List.replicate n d ++ List.replicate n d).drop f).take c = List.replicate c d := by
    rw [List.replicate_append_replicate, List.drop_replicate, List.take_replicate]
    congr 1
    omega
  rw [e]
  have : ∀ c : Nat, (List.replicate c d).sum = d * (c : Int) := by
    intro c
    induction c with
    | zero => simp
    | succ c ih => rw [List.replicate_succ, List.sum_cons, ih, show ((c + 1 : Nat) : Int) = (c : Int) + 1 by omega, Int.mul_add, Int.mul_one]; omega
  exact this c
theorem need_lack {xs : List Int} {v : Int} {f c : Nat} (h : f + c < xs.length) : need xs (List.replicate xs.length v) f (c + 1) = lackW v xs f (f + c) := by
  unfold need lackW
  have b := brings_part (xs := xs) (f := f) (l := f + c) (by omega) h
  rw [show f + c - f + 1 = c + 1 by omega] at b
  rw [rep_brings (by omega), b]
  congr 2
  omega
theorem sum_less (v : Int) : ∀ l : List Int, (l.map fun x => v - x).sum = v * (l.length : Int) - l.sum
  | [] => by simp
  | x :: l => by
    rw [List.map_cons, List.sum_cons, List.sum_cons, sum_less v l, List.length_cons, show ((l.length + 1 : Nat) : Int) = (l.length : Int) + 1 by omega, Int.mul_add, Int.mul_one]
    omega
theorem cut_sum {xs : List Int} {v : Int} {f l : Nat} (h1 : f ≤ l) (h2 : l < xs.length) (h12 : xs.length ≤ 12) : ((compL (fun (i23 : Int) => (some true)) (fun (i23 : Int) => (some (v - i23))) (cutT xs (some (f : Int)) (some ((l : Int) + (1 : Int))))).bind (fun x26 => some (List.sum x26))) = some (lackW v xs f l) := by
  have e : cutT xs (some (f : Int)) (some ((l : Int) + 1)) = (xs.drop f).take (l + 1 - f) := cutT_nat (f := f) (g := l + 1) (by omega) (by omega)
  rw [e]
  have hl : ((xs.drop f).take (l + 1 - f)).length = l + 1 - f := by rw [List.length_take, List.length_drop]; omega
  refine bindE (compL_all (g := fun x => v - x) (by omega) fun x _ => rfl) ?_
  show some (List.sum (((xs.drop f).take (l + 1 - f)).map fun x => v - x)) = _
  rw [sum_less, hl]
  unfold lackW Ty.part
  congr 3
  omega
theorem sum_part {g h : Int → Int} (hg : ∀ x, 0 ≤ g x) (hh : ∀ x, h x ≤ g x) : ∀ (xs : List Int) (f c : Nat), (((xs.drop f).take c).map h).sum ≤ (xs.map g).sum
  | [], f, c => by simp
  | x :: xs, 0, 0 => by
    have := sum_part hg hh xs 0 0
    have := hg x
    simp only [List.drop_zero, List.take_zero, List.map_nil, List.sum_nil, List.map_cons, List.sum_cons] at *
    omega
  | x :: xs, 0, c + 1 => by
    have := sum_part hg hh xs 0 c
    have := hh x
    rw [List.drop_zero] at *
    rw [List.take_succ_cons, List.map_cons, List.map_cons, List.sum_cons, List.sum_cons]
    omega
  | x :: xs, f + 1, c => by
    have := sum_part hg hh xs f c
    have := hg x
    rw [List.drop_succ_cons, List.map_cons, List.sum_cons]
    omega
theorem lack_sum {xs : List Int} {v : Int} {f l : Nat} (h1 : f ≤ l) (h2 : l < xs.length) : lackW v xs f l ≤ (xs.map fun x => max2 0 (v - x)).sum := by
  have hl : ((xs.drop f).take (l + 1 - f)).length = l + 1 - f := by rw [List.length_take, List.length_drop]; omega
  have := sum_part (g := fun x => max2 0 (v - x)) (h := fun x => v - x) (fun x => by rw [max2_eq]; split <;> omega) (fun x => by rw [max2_eq]; split <;> omega) xs f (l + 1 - f)
  rw [sum_less, hl] at this
  unfold lackW Ty.part
  have e : ((l + 1 - f : Nat) : Int) = (l : Int) - (f : Int) + 1 := by omega
  rw [e] at this
  exact this
theorem mem_flat {P : List Ty.Sp} {i : Int} : i ∈ flat P ↔ ∃ r ∈ P, r.1 ≤ i ∧ i ≤ r.2.1 := by
  unfold flat
  rw [List.mem_flatMap]
  constructor
  · rintro ⟨r, hr, hi⟩
    obtain ⟨k, hk, rfl⟩ := List.mem_map.mp hi
    have := List.mem_range.mp hk
    exact ⟨r, hr, by omega, by omega⟩
  · rintro ⟨r, hr, h1, h2⟩
    exact ⟨r, hr, List.mem_map.mpr ⟨(i - r.1).toNat, List.mem_range.mpr (by omega), by omega⟩⟩
/-- the spells are told by the months in them -/
theorem uniq : ∀ (P Q : List Ty.Sp), (∀ r ∈ P, r.1 ≤ r.2.1) → (∀ r ∈ Q, r.1 ≤ r.2.1) → P.Pairwise (fun r s => r.2.1 + 1 < s.1) → Q.Pairwise (fun r s => r.2.1 + 1 < s.1) → (∀ i, (∃ r ∈ P, r.1 ≤ i ∧ i ≤ r.2.1) ↔ ∃ r ∈ Q, r.1 ≤ i ∧ i ≤ r.2.1) → (∀ r ∈ P, ∀ s ∈ Q, r.1 = s.1 → r.2.1 = s.2.1 → r.2.2 = s.2.2) → P = Q
  | [], [], _, _, _, _, _, _ => rfl
  | [], s :: Q, _, h2, _, _, hm, _ => by
    obtain ⟨r, hr, _⟩ := (hm s.1).mpr ⟨s, List.mem_cons_self, Int.le_refl _, h2 s List.mem_cons_self⟩
    cases hr
  | r :: P, [], h1, _, _, _, hm, _ => by
    obtain ⟨s, hs, _⟩ := (hm r.1).mp ⟨r, List.mem_cons_self, Int.le_refl _, h1 r List.mem_cons_self⟩
    cases hs
  | r :: P, s :: Q, h1, h2, p1, p2, hm, hc => by
    have r1 := h1 r List.mem_cons_self
    have s1 := h2 s List.mem_cons_self
    obtain ⟨p3, p4⟩ := List.pairwise_cons.mp p1
    obtain ⟨p5, p6⟩ := List.pairwise_cons.mp p2
    have geP : ∀ t ∈ r :: P, r.1 ≤ t.1 := fun t ht => by
      rcases List.mem_cons.mp ht with e | e
      · rw [e]; exact Int.le_refl _
      · have := p3 t e; omega
    have geQ : ∀ t ∈ s :: Q, s.1 ≤ t.1 := fun t ht => by
      rcases List.mem_cons.mp ht with e | e
      · rw [e]; exact Int.le_refl _
      · have := p5 t e; omega
    have e1 : r.1 = s.1 := by
      obtain ⟨t, ht, t1, t2⟩ := (hm r.1).mp ⟨r, List.mem_cons_self, Int.le_refl _, r1⟩
      obtain ⟨u, hu, u1, u2⟩ := (hm s.1).mpr ⟨s, List.mem_cons_self, Int.le_refl _, s1⟩
      have := geQ t ht
      have := geP u hu
      omega
    have noP : ∀ t ∈ P, ¬ (t.1 ≤ r.2.1 + 1) := fun t ht => by have := p3 t ht; omega
    have noQ : ∀ t ∈ Q, ¬ (t.1 ≤ s.2.1 + 1) := fun t ht => by have := p5 t ht; omega
    have e2 : r.2.1 = s.2.1 := by
      rcases Int.lt_trichotomy r.2.1 s.2.1 with z | z | z
      · obtain ⟨t, ht, t1, t2⟩ := (hm (r.2.1 + 1)).mpr ⟨s, List.mem_cons_self, by omega, by omega⟩
        rcases List.mem_cons.mp ht with e | e
        · rw [e] at t2; omega
        · exact absurd t1 (noP t e)
      · exact z
      · obtain ⟨t, ht, t1, t2⟩ := (hm (s.2.1 + 1)).mp ⟨r, List.mem_cons_self, by omega, by omega⟩
        rcases List.mem_cons.mp ht with e | e
        · rw [e] at t2; omega
        · exact absurd t1 (noQ t e)
    have e3 := hc r List.mem_cons_self s List.mem_cons_self e1 e2
    have er : r = s := Prod.ext e1 (Prod.ext e2 e3)
    subst er
    congr 1
    refine uniq P Q (fun t ht => h1 t (List.mem_cons_of_mem _ ht)) (fun t ht => h2 t (List.mem_cons_of_mem _ ht)) p4 p6 (fun i => ⟨fun ⟨t, ht, t1, t2⟩ => ?_, fun ⟨t, ht, t1, t2⟩ => ?_⟩) (fun t ht u hu => hc t (List.mem_cons_of_mem _ ht) u (List.mem_cons_of_mem _ hu))
    · obtain ⟨u, hu, u1, u2⟩ := (hm i).mp ⟨t, List.mem_cons_of_mem _ ht, t1, t2⟩
      rcases List.mem_cons.mp hu with e | e
      · have := noP t ht
        rw [e] at u2
        omega
      · exact ⟨u, e, u1, u2⟩
    · obtain ⟨u, hu, u1, u2⟩ := (hm i).mpr ⟨t, List.mem_cons_of_mem _ ht, t1, t2⟩
      rcases List.mem_cons.mp hu with e | e
      · have := noQ t ht
        rw [e] at u2
        omega
      · exact ⟨u, e, u1, u2⟩
theorem sum_rev : ∀ l : List Int, l.reverse.sum = l.sum
  | [] => rfl
  | x :: l => by
    rw [List.reverse_cons, List.sum_append, sum_rev l, List.sum_cons, List.sum_cons, List.sum_nil]
    omega
theorem part_rev {xs : List Int} {f l : Nat} (h1 : f ≤ l) (h2 : l < xs.length) : Ty.part xs.reverse (xs.length - 1 - l) (xs.length - 1 - f) = Ty.part xs f l := by
  unfold Ty.part
  rw [List.drop_reverse, List.take_reverse, sum_rev, List.length_take, List.drop_take]
  have e1 : min (xs.length - (xs.length - 1 - l)) xs.length - (xs.length - 1 - f + 1 - (xs.length - 1 - l)) = f := by omega
  have e2 : xs.length - (xs.length - 1 - l) - f = l + 1 - f := by omega
  rw [e1, e2]
theorem TheLaw : Law := by
  intro r1 r10 r11
  refine ⟨by omega, by omega, fun xs hl hx r7 r70 r71 v hv => ?_⟩
  have v0 : 0 ≤ v ∧ v ≤ 1000 := by
    simp only [List.mem_cons, List.not_mem_nil, or_false] at hv
    omega
  have l0 : 0 < xs.length := by omega
  have n8 : xs.length ≤ 8 := by omega
  have hm : 1 + r1 = (xs.length : Int) := hl.symm
  show N_tail (1 + r1) xs v = some true
  rw [hm]
  have sp := spells_ok hx l0 (by omega) v0.1 v0.2
  have inv := spInv_ok (v := v) (xs := xs) xs.length (Nat.le_refl _)
  have pl := spT_len (v := v) (xs := xs) xs.length (Nat.le_refl _)
  have sp' := spells_ok (xs := xs.reverse) (v := v) (fun x h => hx x (List.mem_reverse.mp h)) (by simpa using l0) (by simpa using (show xs.length ≤ 12 by omega)) v0.1 v0.2
  have inv' := spInv_ok (v := v) (xs := xs.reverse) xs.reverse.length (Nat.le_refl _)
  generalize hP : spT v xs xs.length = P at *
  generalize hP' : spT v xs.reverse xs.reverse.length = P' at *
  obtain ⟨i1, i2, i3, i4⟩ := inv
  obtain ⟨j1, j2, j3, j4⟩ := inv'
  rw [List.take_length] at i4
  have fl : flat P = _ := i3
  have fl' : flat P' = _ := j3
  have flen : (flat P).length ≤ 8 := by
    rw [fl]
    refine Nat.le_trans (List.length_filter_le _ _) ?_
    simp
    omega
  have low : ∀ i : Int, i ∈ flat P ↔ ∃ k : Nat, i = (k : Int) ∧ ∃ h : k < xs.length, xs[k] < v := fun i => by
    rw [fl, List.mem_filter]
    constructor
    · rintro ⟨h1, h2⟩
      obtain ⟨k, hk, rfl⟩ := List.mem_map.mp h1
      have hk := List.mem_range.mp hk
      refine ⟨k, by omega, hk, ?_⟩
      have h2 := of_decide_eq_true h2
      rw [show ((0 : Int) + (k : Int)).toNat = k by omega, List.getD_eq_getElem?_getD, List.getElem?_eq_getElem hk] at h2
      exact h2
    · rintro ⟨k, rfl, hk, h2⟩
      refine ⟨List.mem_map.mpr ⟨k, List.mem_range.mpr hk, by omega⟩, decide_eq_true ?_⟩
      rw [Int.toNat_natCast, List.getD_eq_getElem?_getD, List.getElem?_eq_getElem hk]
      exact h2
  have low' : ∀ i : Int, i ∈ flat P' ↔ ∃ k : Nat, i = (k : Int) ∧ ∃ h : k < xs.reverse.length, xs.reverse[k] < v := fun i => by
    rw [fl', List.mem_filter]
    constructor
    · rintro ⟨h1, h2⟩
      obtain ⟨k, hk, rfl⟩ := List.mem_map.mp h1
      have hk := List.mem_range.mp hk
      refine ⟨k, by omega, hk, ?_⟩
      have h2 := of_decide_eq_true h2
      rw [show ((0 : Int) + (k : Int)).toNat = k by omega, List.getD_eq_getElem?_getD, List.getElem?_eq_getElem hk] at h2
      exact h2
    · rintro ⟨k, rfl, hk, h2⟩
      refine ⟨List.mem_map.mpr ⟨k, List.mem_range.mpr hk, by omega⟩, decide_eq_true ?_⟩
      rw [Int.toNat_natCast, List.getD_eq_getElem?_getD, List.getElem?_eq_getElem hk]
      exact h2
  -- the least storage
  have hrep : repO [v] (xs.length : Int) = some (List.replicate xs.length v) := repO_ok l0 (by omega)
  obtain ⟨m, m1, m2, m3, m4⟩ := storage_ok (xs := xs) (ds := List.replicate xs.length v) (b := false) hx l0 (by omega) (fun y hy => by rw [(List.mem_replicate.mp hy).2]; exact v0) (by simp) (fun z => nomatch z)
  have lackle : ∀ r ∈ P, r.2.2 ≤ m := fun r hr => by
    obtain ⟨f, l, rfl, h1, h2⟩ := i1 r hr
    have := m4 f (l - f) (by omega) (by show l - f < xs.length - f; omega)
    rw [need_lack (by omega), show f + (l - f) = l by omega] at this
    exact this
  have mle : m ≤ (P.map fun r => r.2.2).sum := by
    rw [i4]
    rcases m3 with z | ⟨f, c, h1, h2, h3⟩
    · rw [z]
      have := sum_part (g := fun x => max2 0 (v - x)) (h := fun x => 0) (fun x => by rw [max2_eq]; split <;> omega) (fun x => by show 0 ≤ max2 0 (v - x); rw [max2_eq]; split <;> omega) xs 0 0
      simpa using this
    · have h2 : c < xs.length - f := h2
      rw [h3, need_lack (by omega)]
      exact lack_sum (by omega) (by omega)
  have pos : P ≠ [] ↔ 0 < m := by
    constructor
    · intro hne
      cases P with
      | nil => exact absurd rfl hne
      | cons r P =>
        obtain ⟨f, l, e, h1, h2⟩ := i1 r List.mem_cons_self
        obtain ⟨k, ek, hk, hlow⟩ := (low (f : Int)).mp (mem_flat.mpr ⟨r, List.mem_cons_self, by rw [e]; exact Int.le_refl _, by rw [e]; show (f : Int) ≤ (l : Int); omega⟩)
        have : k = f := by omega
        subst this
        have := m4 k 0 hk (by show 0 < xs.length - k; omega)
        rw [need_lack (by omega), Nat.add_zero, lackW_one hk] at this
        omega
    · rintro h rfl
      simp at mle
      omega
  have fold : ∀ (Q : List Ty.Sp) (s : List Int), (∀ r ∈ Q, ∃ f l : Nat, r = ((f : Int), (l : Int), lackW v xs f l) ∧ f ≤ l ∧ l < xs.length) → s.length + (flat Q).length ≤ 100 → foldJ (fun (i17 : Ty.Sp) (s15 : List Int) => (iteO (orO (some (!(decide ((0 : Int) ≤ i17.1) && (decide (i17.1 ≤ i17.2.1) && decide (i17.2.1 < (xs.length : Int)))))) ((some i17.2.2).bind fun x27 => ((compL (fun (i23 : Int) => (some true)) (fun (i23 : Int) => (some (v - i23))) (cutT xs (some i17.1) (some (i17.2.1 + (1 : Int))))).bind (fun x26 => some (List.sum x26))).bind fun y28 => some (!decide (x27 = y28)))) ((some false).bind fun v38 => some (Sum.inl v38 : Bool ⊕ List Int)) ((((some s15).bind fun x35 => ((range2O i17.1 (i17.2.1 + (1 : Int))).bind fun l => compL (fun (i34 : Int) => (some true)) (fun (i34 : Int) => (some i34)) l).bind fun y36 => (catO x35 y36)).bind fun inside_29 => some inside_29).bind fun s37 => some (Sum.inr s37)))) Q s = some (Sum.inr (s ++ flat Q)) := by
    intro Q
    induction Q with
    | nil => intro s _ _; show some (Sum.inr s) = some (Sum.inr (s ++ [])); rw [List.append_nil]
    | cons r Q ih =>
      intro s hq hlen
      obtain ⟨f, l, e, h1, h2⟩ := hq r List.mem_cons_self
      have ef : flat (r :: Q) = ((List.range (l + 1 - f)).map fun i : Nat => ((f : Int) + (i : Int))) ++ flat Q := by
        rw [e]
        show ((List.range ((l : Int) + 1 - (f : Int)).toNat).map _) ++ flat Q = _
        rw [show ((l : Int) + 1 - (f : Int)).toNat = l + 1 - f by omega]
      rw [ef, List.length_append] at hlen
      rw [foldJ_step]
      have rg : range2O (f : Int) ((l : Int) + 1) = some ((List.range (l + 1 - f)).map fun i : Nat => ((f : Int) + (i : Int))) := range2_nat (m := f) (n := l + 1) (by omega) (by omega)
      refine bindE (a := Sum.inr (s ++ ((List.range (l + 1 - f)).map fun i : Nat => ((f : Int) + (i : Int))))) ?_ ?_
      · rw [e]
        dsimp only
        rw [cut_sum h1 h2 (by omega), decide_eq_true (show (0 : Int) ≤ (f : Int) by omega), decide_eq_true (show (f : Int) ≤ (l : Int) by omega), decide_eq_true (show (l : Int) < (xs.length : Int) by omega), rg]
        show iteO (some (!decide (lackW v xs f l = lackW v xs f l))) _ _ = _
        rw [decide_eq_true rfl]
        show (((some s).bind fun x35 => (compL (fun (i34 : Int) => (some true)) (fun (i34 : Int) => (some i34)) ((List.range (l + 1 - f)).map fun i : Nat => ((f : Int) + (i : Int)))).bind fun y36 => (catO x35 y36)).bind fun inside_29 => some inside_29).bind (fun s37 => some (Sum.inr s37)) = _
        have ci : compL (fun (i34 : Int) => (some true)) (fun (i34 : Int) => (some i34)) ((List.range (l + 1 - f)).map fun i : Nat => ((f : Int) + (i : Int))) = some ((List.range (l + 1 - f)).map fun i : Nat => ((f : Int) + (i : Int))) := by
          have := compL_all (B := fun i34 : Int => some i34) (g := fun x => x) (l := (List.range (l + 1 - f)).map fun i : Nat => ((f : Int) + (i : Int))) (by simp; omega) (fun x _ => rfl)
          rw [List.map_id'] at this
          exact this
        rw [ci]
        show ((catO s _).bind _).bind _ = _
        unfold catO
        rw [if_pos (by omega)]
        rfl
      · show foldJ _ Q _ = _
        rw [ih _ (fun t ht => hq t (List.mem_cons_of_mem _ ht)) (by rw [List.length_append]; omega), ef, List.append_assoc]
  unfold N_tail
  rw [sp]
  refine bindE (a := (P, [])) rfl ?_
  unfold bindJ
  refine bindE (fold P [] i1 (by simp; omega)) ?_
  rw [List.nil_append]
  show iteO _ _ _ = some true
  have c1 : ((range1O (xs.length : Int)).bind fun l => compL (fun (i41 : Int) => ((atI xs i41).bind fun x46 => (some v).bind fun y47 => some (decide (x46 < y47)))) (fun (i41 : Int) => (some i41)) l) = some (flat P) := by
    refine bindE (range1_nat (by omega)) ?_
    rw [fl]
    refine compL_filter (by simp; omega) fun i hi => ?_
    obtain ⟨k, hk, rfl⟩ := List.mem_map.mp hi
    have hk := List.mem_range.mp hk
    rw [atI_nat hk, show ((0 : Int) + (k : Int)).toNat = k by omega, List.getD_eq_getElem?_getD, List.getElem?_eq_getElem hk]
    rfl
  have c2 : ((range2O (1 : Int) ((P).length : Int)).bind fun l => compL (fun (i53 : Int) => (((atI P i53).bind fun x56 => some x56.1).bind fun x66 => (((atI P (i53 - (1 : Int))).bind fun x61 => some x61.2.1).bind fun x62 => (some (1 : Int)).bind fun y63 => some (x62 + y63)).bind fun y67 => some (decide (x66 ≤ y67)))) (fun (i53 : Int) => (some i53)) l) = some [] := by
    refine bindE (range2_nat (m := 1) (n := P.length) (by omega) (by omega)) ?_
    rw [compL_filter (t := fun _ => false) (by simp; omega) fun i hi => ?_]
    · simp
    · obtain ⟨k, hk, rfl⟩ := List.mem_map.mp hi
      have hk := List.mem_range.mp hk
      have a1 : atI P (((1 : Nat) : Int) + (k : Int)) = some P[k + 1] := by
        have := atI_nat (l := P) (i := k + 1) (by omega)
        rw [show (0 : Int) + ((k + 1 : Nat) : Int) = ((1 : Nat) : Int) + (k : Int) by omega] at this
        exact this
      have a2 : atI P (((1 : Nat) : Int) + (k : Int) - 1) = some P[k] := by
        have := atI_nat (l := P) (i := k) (by omega)
        rw [show (0 : Int) + ((k : Nat) : Int) = ((1 : Nat) : Int) + (k : Int) - 1 by omega] at this
        exact this
      have := List.pairwise_iff_getElem.mp i2 k (k + 1) (by omega) (by omega) (by omega)
      rw [a1, a2]
      show some (decide (P[k + 1].1 ≤ P[k].2.1 + 1)) = _
      rw [decide_eq_false (by omega)]
  have c3 : compL (fun (i77 : (Int × Int × Int)) => ((some m).bind fun w79 => some (decide (w79 < i77.2.2)))) (fun (i77 : (Int × Int × Int)) => (some i77.2.2)) P = some [] := by
    unfold compL
    rw [if_pos (by omega)]
    have : ∀ Q : List Ty.Sp, (∀ r ∈ Q, r.2.2 ≤ m) → compO (fun (i77 : (Int × Int × Int)) => ((some m).bind fun w79 => some (decide (w79 < i77.2.2)))) (fun (i77 : (Int × Int × Int)) => (some i77.2.2)) Q = some [] := by
      intro Q
      induction Q with
      | nil => intro _; rfl
      | cons r Q ih =>
        intro hq
        have := hq r List.mem_cons_self
        rw [compO_cons]
        show (some (decide (m < r.2.2))).bind _ = _
        rw [decide_eq_false (by omega)]
        exact ih fun t ht => hq t (List.mem_cons_of_mem _ ht)
    exact this P lackle
  rw [c1, c2]
  have e1 : ((some (flat P)).bind fun x48 => (some (flat P)).bind fun y49 => some (!decide (x48 = y49))) = some false := by
    show some (!decide (flat P = flat P)) = _
    rw [decide_eq_true rfl]
    rfl
  rw [e1, ite_F]
  show iteO (some (!decide (([] : List Int) = []))) _ _ = _
  rw [decide_eq_true rfl, show (!true) = false from rfl, ite_F]
  show (((some xs).bind fun a74 => (repO ([v]) (xs.length : Int)).bind fun a75 => (some false).bind fun a76 => N_least_storage a74 a75 a76).bind _) = _
  rw [hrep]
  refine bindE (a := some m) m1 ?_
  rw [c3]
  show iteO (some (!decide (([] : List Int) = []))) _ _ = _
  rw [decide_eq_true rfl, show (!true) = false from rfl, ite_F]
  refine bindE (a := (P.map fun r => r.2.2).sum) (bindE (compL_all (l := P) (g := fun r : Ty.Sp => r.2.2) (by omega) fun x _ => rfl) rfl) ?_
  show andO (some (decide (m ≤ (P.map fun r => r.2.2).sum))) (andO ((some (!decide (P = []))).bind fun x98 => (some (decide (0 < m))).bind fun y99 => some (decide (x98 = y99))) _) = _
  have q1 : ((some (!decide (P = []))).bind fun x98 => (some (decide (0 < m))).bind fun y99 => some (decide (x98 = y99))) = some true := by
    show some (decide ((!decide (P = [])) = decide (0 < m))) = _
    by_cases z : P = []
    · have : ¬ 0 < m := fun y => pos.mpr y z
      rw [decide_eq_true z, decide_eq_false this]
      rfl
    · rw [decide_eq_false z, decide_eq_true (pos.mp z)]
      rfl
  rw [decide_eq_true mle, q1]
  show ((N_spells (List.reverse xs) v).bind _) = _
  rw [sp']
  have hmir : P' = P.reverse.map fun r => ((((xs.length : Int) - (1 : Int)) - r.2.1), (((xs.length : Int) - (1 : Int)) - r.1), r.2.2) := by
    have rl : xs.reverse.length = xs.length := List.length_reverse
    refine uniq _ _ (fun r hr => ?_) (fun r hr => ?_) j2 ?_ (fun i => ?_) fun r hr s hs e1 e2 => ?_
    · obtain ⟨f, l, rfl, h1, h2⟩ := j1 r hr
      show (f : Int) ≤ (l : Int)
      omega
    · obtain ⟨t, ht, rfl⟩ := List.mem_map.mp hr
      obtain ⟨f, l, rfl, h1, h2⟩ := i1 t (List.mem_reverse.mp ht)
      show (xs.length : Int) - 1 - (l : Int) ≤ (xs.length : Int) - 1 - (f : Int)
      omega
    · rw [List.pairwise_map, List.pairwise_reverse]
      refine i2.imp fun {a b} hab => ?_
      dsimp only
      omega
    · rw [← mem_flat, low']
      constructor
      · rintro ⟨k, rfl, hk, hlow⟩
        rw [List.getElem_reverse] at hlow
        obtain ⟨r, hr, h1, h2⟩ := mem_flat.mp ((low ((xs.length - 1 - k : Nat) : Int)).mpr ⟨_, rfl, by omega, hlow⟩)
        refine ⟨_, List.mem_map.mpr ⟨r, List.mem_reverse.mpr hr, rfl⟩, ?_, ?_⟩ <;> dsimp only <;> omega
      · rintro ⟨r, hr, h1, h2⟩
        obtain ⟨t, ht, rfl⟩ := List.mem_map.mp hr
        obtain ⟨f, l, e, h3, h4⟩ := i1 t (List.mem_reverse.mp ht)
        dsimp only at h1 h2
        obtain ⟨k, ek, hk, hlow⟩ := (low ((xs.length : Int) - 1 - i)).mp (mem_flat.mpr ⟨t, List.mem_reverse.mp ht, by omega, by omega⟩)
        have e5 : t.1 = (f : Int) := by rw [e]
        have e6 : t.2.1 = (l : Int) := by rw [e]
        refine ⟨xs.length - 1 - k, by omega, by omega, ?_⟩
        rw [List.getElem_reverse]
        have e7 : xs.length - 1 - (xs.length - 1 - k) = k := by omega
        simp only [e7]
        exact hlow
    · obtain ⟨f, l, rfl, h1, h2⟩ := j1 r hr
      obtain ⟨t, ht, rfl⟩ := List.mem_map.mp hs
      obtain ⟨f', l', rfl, h3, h4⟩ := i1 t (List.mem_reverse.mp ht)
      dsimp only at e1 e2 ⊢
      have ef : f = xs.length - 1 - l' := by omega
      have el : l = xs.length - 1 - f' := by omega
      subst ef el
      unfold lackW
      rw [part_rev h3 h4]
      congr 2
      omega
  have c4 : compL (fun (i102 : (Int × Int × Int)) => (some true)) (fun (i102 : (Int × Int × Int)) => (some ((((xs.length : Int) - (1 : Int)) - i102.2.1), (((xs.length : Int) - (1 : Int)) - i102.1), i102.2.2))) (List.reverse P) = some P' := by
    rw [hmir]
    exact compL_all (by rw [List.length_reverse]; omega) fun x _ => rfl
  rw [c4]
  show some (decide (P' = P')) = _
  rw [decide_eq_true rfl]
end L71
set_option Elab.async false
set_option linter.all false
set_option maxRecDepth 100000
set_option maxHeartbeats 0
namespace L71
open PySem PySem.Spec PyProof.Rows L2 DN Ty
def tgs : List He.Defn := [("is_row_between", none)]
def tls : List He.Defn := []
def exs : PySem.W.Frag → Bool := fun _ => true
def dd (x : Str) (i : Nat) : He.DefD := ⟨(x, none), x, x, defArgs (top i), defBody (top i), defScope (top i), [], []⟩
def de (x : Str) (i : Nat) (v : Int) : He.DefD := ⟨(x, none), x, x, defArgs (top i), defBody (top i), defScope (top i), [.int v], []⟩
def fns : List He.DefD := [dd "is_whole" 7, dd "is_between" 8, dd "is_row_between" 9, dd "is_inflows" 13, dd "check_inflows" 14, dd "check_demands" 15, dd "spells" 17, dd "check_rows" 19, dd "rows_of_months" 20, dd "lack_of_row" 21, dd "found_storage" 22, dd "least_storage" 23, dd "_law_taken" 25, dd "_law_pick" 26, dd "_law_flow" 34, dd "_law_demands" 36, dd "law" 40]
def fas : List He.Fa := [.glo "is_whole", .glo "is_between", .glo "is_row_between", .glo "is_inflows", .glo "check_inflows", .glo "check_demands", .glo "spells", .glo "check_rows", .glo "rows_of_months", .glo "lack_of_row", .glo "found_storage", .glo "least_storage", .glo "_law_taken", .glo "_law_pick", .glo "_law_flow", .glo "_law_demands", .glo "law", .free "all", .free "bool", .free "enumerate", .free "int", .free "isinstance", .free "len", .free "max", .free "range", .free "sum", .free "tuple", .int "MOST_MONTHS" 12, .int "MOST_WATER" 1000]
def tfs : List He.Defn := tgs ++ tls
def others : List PySem.Str := (["DamError", "BadDemands", "BadInflows", "BadFlag", "BadLevel", "is_whole", "is_between", "is_row_between", "MOST_WATER", "MOST_MONTHS"] : List PySem.Str) ++ (["is_inflows", "check_inflows", "check_demands", "spells", "check_rows", "rows_of_months", "lack_of_row", "found_storage", "least_storage", "_law_taken"] : List PySem.Str) ++ (["_law_pick", "_law_alike", "_law_ratio", "_law_plus", "_law_by", "_law_sum", "_law_less", "_law_is_ratio", "_law_flow", "_law_dam"] : List PySem.Str) ++ (["_law_demands", "_law_most_held", "_law_levels", "_law_can"] : List PySem.Str)
abbrev TheRow : PySem.W.OpenRow := PySem.W.OpenLaw.row PySem.Challenge.rw_damworks_k71_across_spells
abbrev hk : PySem.W.Hook := He.hookX 4 fas fns [] tfs exs
def ob (s : PySem.W.SharedT) : He.AlX := He.obsX 4 fas fns [] tfs exs (HandSHeadRun.getT s)
theorem ob_eq (s : PySem.W.SharedT) : ob s = hk.obs s.abs := He.obsX_eq (HandSHeadRun.getT_eq s)
theorem run (w : World) : HandSHeadRun.RunEq TheRow (PySem.W.view TheRow.prog [40]) hk ob 4000 others w := by
  intro os
  kernel_rfl
theorem facts {w : World} {K : PySem.W.Frag} {h : Heap} {mg : Str → Option Value} {f : Addr} (X : K.In h) (G : h.Ns mainGlobals mg) (hfa : mg ("law" : Str) = some (.ref f)) (c : He.SaysX fas fns [] tfs exs w h K) : LamX.LawAtS PySem.Challenge.rw_damworks_k71_across_spells w K CX0 9 63 "script" mg f h := by
  have e := hfa.symm.trans (He.glo_ok X G (c.t.d.fact 16 (f := .glo "law") rfl))
  cases e
  have T : Txt K mg := ⟨He.free_ok X G (c.t.d.fact 17 (f := .free "all") rfl), He.free_ok X G (c.t.d.fact 18 (f := .free "bool") rfl), He.free_ok X G (c.t.d.fact 19 (f := .free "enumerate") rfl), He.free_ok X G (c.t.d.fact 20 (f := .free "int") rfl), He.free_ok X G (c.t.d.fact 21 (f := .free "isinstance") rfl), He.free_ok X G (c.t.d.fact 22 (f := .free "len") rfl), He.free_ok X G (c.t.d.fact 23 (f := .free "max") rfl), He.free_ok X G (c.t.d.fact 24 (f := .free "range") rfl), He.free_ok X G (c.t.d.fact 25 (f := .free "sum") rfl), He.free_ok X G (c.t.d.fact 26 (f := .free "tuple") rfl), He.int_ok X G (c.t.d.fact 27 (f := .int "MOST_MONTHS" 12) rfl), He.int_ok X G (c.t.d.fact 28 (f := .int "MOST_WATER" 1000) rfl)⟩
  obtain ⟨fd_is_whole, E_is_whole⟩ := c.t.d.def_ 0 (d := dd "is_whole" 7) rfl
  obtain ⟨cd_is_whole, D_is_whole⟩ := df_of (st := top 7) E_is_whole
  obtain ⟨fd_is_between, E_is_between⟩ := c.t.d.def_ 1 (d := dd "is_between" 8) rfl
  obtain ⟨cd_is_between, D_is_between⟩ := df_of (st := top 8) E_is_between
  obtain ⟨fd_is_row_between, E_is_row_between⟩ := c.t.d.def_ 2 (d := dd "is_row_between" 9) rfl
  have D_is_row_between := df_gen (st := top 9) E_is_row_between
  obtain ⟨fd_is_inflows, E_is_inflows⟩ := c.t.d.def_ 3 (d := dd "is_inflows" 13) rfl
  obtain ⟨cd_is_inflows, D_is_inflows⟩ := df_of (st := top 13) E_is_inflows
  obtain ⟨fd_check_inflows, E_check_inflows⟩ := c.t.d.def_ 4 (d := dd "check_inflows" 14) rfl
  obtain ⟨cd_check_inflows, D_check_inflows⟩ := df_of (st := top 14) E_check_inflows
  obtain ⟨fd_check_demands, E_check_demands⟩ := c.t.d.def_ 5 (d := dd "check_demands" 15) rfl
  obtain ⟨cd_check_demands, D_check_demands⟩ := df_of (st := top 15) E_check_demands
  obtain ⟨fd_spells, E_spells⟩ := c.t.d.def_ 6 (d := dd "spells" 17) rfl
  obtain ⟨cd_spells, D_spells⟩ := df_of (st := top 17) E_spells
  obtain ⟨fd_check_rows, E_check_rows⟩ := c.t.d.def_ 7 (d := dd "check_rows" 19) rfl
  obtain ⟨cd_check_rows, D_check_rows⟩ := df_of (st := top 19) E_check_rows
  obtain ⟨fd_rows_of_months, E_rows_of_months⟩ := c.t.d.def_ 8 (d := dd "rows_of_months" 20) rfl
  obtain ⟨cd_rows_of_months, D_rows_of_months⟩ := df_of (st := top 20) E_rows_of_months
  obtain ⟨fd_lack_of_row, E_lack_of_row⟩ := c.t.d.def_ 9 (d := dd "lack_of_row" 21) rfl
  obtain ⟨cd_lack_of_row, D_lack_of_row⟩ := df_of (st := top 21) E_lack_of_row
  obtain ⟨fd_found_storage, E_found_storage⟩ := c.t.d.def_ 10 (d := dd "found_storage" 22) rfl
  obtain ⟨cd_found_storage, D_found_storage⟩ := df_of (st := top 22) E_found_storage
  obtain ⟨fd_least_storage, E_least_storage⟩ := c.t.d.def_ 11 (d := dd "least_storage" 23) rfl
  obtain ⟨cd_least_storage, D_least_storage⟩ := df_of (st := top 23) E_least_storage
  obtain ⟨fd__law_taken, E__law_taken⟩ := c.t.d.def_ 12 (d := dd "_law_taken" 25) rfl
  obtain ⟨cd__law_taken, D__law_taken⟩ := df_of (st := top 25) E__law_taken
  obtain ⟨fd__law_pick, E__law_pick⟩ := c.t.d.def_ 13 (d := dd "_law_pick" 26) rfl
  obtain ⟨cd__law_pick, D__law_pick⟩ := df_of (st := top 26) E__law_pick
  obtain ⟨fd__law_flow, E__law_flow⟩ := c.t.d.def_ 14 (d := dd "_law_flow" 34) rfl
  obtain ⟨cd__law_flow, D__law_flow⟩ := df_of (st := top 34) E__law_flow
  obtain ⟨fd__law_demands, E__law_demands⟩ := c.t.d.def_ 15 (d := dd "_law_demands" 36) rfl
  obtain ⟨cd__law_demands, D__law_demands⟩ := df_of (st := top 36) E__law_demands
  obtain ⟨fd_law, E_law⟩ := c.t.d.def_ 16 (d := dd "law" 40) rfl
  obtain ⟨cd_law, D_law⟩ := df_of (st := top 40) E_law
  have dis : decide (∀ P ∈ (tls.map (He.cT K)).map (·.2), P ∉ (tgs.map (He.cT K)).map (·.2)) = true := decide_eq_true (fun P hP => nomatch hP)
  refine end_at2 (tg := tgs) (tl := tls) (of_decide_eq_true dis) (tf_ok X c) (FunD.bindsA (ps := ["script"]) E_law (fun _ _ _ _ _ _ us hl => match us, hl with | [_], _ => rfl)) fun base XB GB TB => ?_
  have tb_is_row_between := TB _ (List.mem_map_of_mem (f := He.cT K) (show (("is_row_between", none) : He.Defn) ∈ tfs by simp [tfs, tgs]))
  have tm_is_row_between : (He.cT K ("is_row_between", none)).2 ∈ (tgs.map (He.cT K)).map (·.2) := List.mem_map_of_mem (List.mem_map_of_mem (by simp [tgs]))
  have b_is_whole : Binds K fd_is_whole ["value"] [] := FunD.bindsN E_is_whole fun _ _ _ _ _ _ us hl => match us, hl with | [_], _ => rfl
  have C_is_whole : CF PySem.Challenge.rw_damworks_k71_across_spells.prog w K mg base ⟨(tgs.map (He.cT K)).map (·.2), (tls.map (He.cT K)).map (·.2)⟩ 1 "is_whole" 1 Ty.S_is_whole := CF.of (He.glo_ok X G (c.t.d.fact 0 (f := .glo "is_whole") rfl)) D_is_whole.kp b_is_whole (ok_is_whole T D_is_whole )
  have b_is_between : Binds K fd_is_between ["value", "least", "most"] [] := FunD.bindsN E_is_between fun _ _ _ _ _ _ us hl => match us, hl with | [_, _, _], _ => rfl
  have C_is_between : CF PySem.Challenge.rw_damworks_k71_across_spells.prog w K mg base ⟨(tgs.map (He.cT K)).map (·.2), (tls.map (He.cT K)).map (·.2)⟩ 2 "is_between" 3 Ty.S_is_between := CF.of (He.glo_ok X G (c.t.d.fact 1 (f := .glo "is_between") rfl)) D_is_between.kp b_is_between (ok_is_between T D_is_between C_is_whole)
  have b_is_row_between : Binds K fd_is_row_between ["value", "least", "most"] [] := FunD.bindsN E_is_row_between fun _ _ _ _ _ _ us hl => match us, hl with | [_, _, _], _ => rfl
  have C_is_row_between : CF PySem.Challenge.rw_damworks_k71_across_spells.prog w K mg base ⟨(tgs.map (He.cT K)).map (·.2), (tls.map (He.cT K)).map (·.2)⟩ 4 "is_row_between" 3 Ty.S_is_row_between := CF.of (He.glo_ok X G (c.t.d.fact 2 (f := .glo "is_row_between") rfl)) D_is_row_between.kp b_is_row_between (ok_is_row_between T tb_is_row_between tm_is_row_between D_is_row_between C_is_between)
  have b_is_inflows : Binds K fd_is_inflows ["value"] [] := FunD.bindsN E_is_inflows fun _ _ _ _ _ _ us hl => match us, hl with | [_], _ => rfl
  have C_is_inflows : CF PySem.Challenge.rw_damworks_k71_across_spells.prog w K mg base ⟨(tgs.map (He.cT K)).map (·.2), (tls.map (He.cT K)).map (·.2)⟩ 5 "is_inflows" 1 Ty.S_is_inflows := CF.of (He.glo_ok X G (c.t.d.fact 3 (f := .glo "is_inflows") rfl)) D_is_inflows.kp b_is_inflows (ok_is_inflows T D_is_inflows C_is_row_between)
  have b_check_inflows : Binds K fd_check_inflows ["inflows"] [] := FunD.bindsN E_check_inflows fun _ _ _ _ _ _ us hl => match us, hl with | [_], _ => rfl
  have C_check_inflows : CF PySem.Challenge.rw_damworks_k71_across_spells.prog w K mg base ⟨(tgs.map (He.cT K)).map (·.2), (tls.map (He.cT K)).map (·.2)⟩ 6 "check_inflows" 1 Ty.S_check_inflows := CF.of (He.glo_ok X G (c.t.d.fact 4 (f := .glo "check_inflows") rfl)) D_check_inflows.kp b_check_inflows (ok_check_inflows T D_check_inflows C_is_inflows)
  have b_check_demands : Binds K fd_check_demands ["demands", "count"] [] := FunD.bindsN E_check_demands fun _ _ _ _ _ _ us hl => match us, hl with | [_, _], _ => rfl
  have C_check_demands : CF PySem.Challenge.rw_damworks_k71_across_spells.prog w K mg base ⟨(tgs.map (He.cT K)).map (·.2), (tls.map (He.cT K)).map (·.2)⟩ 5 "check_demands" 2 Ty.S_check_demands := CF.of (He.glo_ok X G (c.t.d.fact 5 (f := .glo "check_demands") rfl)) D_check_demands.kp b_check_demands (ok_check_demands T D_check_demands C_is_row_between)
  have b_spells : Binds K fd_spells ["inflows", "level"] [] := FunD.bindsN E_spells fun _ _ _ _ _ _ us hl => match us, hl with | [_, _], _ => rfl
  have C_spells : CF PySem.Challenge.rw_damworks_k71_across_spells.prog w K mg base ⟨(tgs.map (He.cT K)).map (·.2), (tls.map (He.cT K)).map (·.2)⟩ 7 "spells" 2 Ty.S_spells := CF.of (He.glo_ok X G (c.t.d.fact 6 (f := .glo "spells") rfl)) D_spells.kp b_spells (ok_spells T D_spells C_check_inflows C_is_between)
  have b_check_rows : Binds K fd_check_rows ["inflows", "demands", "is_round"] [] := FunD.bindsN E_check_rows fun _ _ _ _ _ _ us hl => match us, hl with | [_, _, _], _ => rfl
  have C_check_rows : CF PySem.Challenge.rw_damworks_k71_across_spells.prog w K mg base ⟨(tgs.map (He.cT K)).map (·.2), (tls.map (He.cT K)).map (·.2)⟩ 7 "check_rows" 3 Ty.S_check_rows := CF.of (He.glo_ok X G (c.t.d.fact 7 (f := .glo "check_rows") rfl)) D_check_rows.kp b_check_rows (ok_check_rows T D_check_rows C_check_inflows C_check_demands)
  have b_rows_of_months : Binds K fd_rows_of_months ["months", "is_round"] [] := FunD.bindsN E_rows_of_months fun _ _ _ _ _ _ us hl => match us, hl with | [_, _], _ => rfl
  have C_rows_of_months : CF PySem.Challenge.rw_damworks_k71_across_spells.prog w K mg base ⟨(tgs.map (He.cT K)).map (·.2), (tls.map (He.cT K)).map (·.2)⟩ 1 "rows_of_months" 2 Ty.S_rows_of_months := CF.of (He.glo_ok X G (c.t.d.fact 8 (f := .glo "rows_of_months") rfl)) D_rows_of_months.kp b_rows_of_months (ok_rows_of_months T D_rows_of_months )
  have b_lack_of_row : Binds K fd_lack_of_row ["inflows", "demands", "row"] [] := FunD.bindsN E_lack_of_row fun _ _ _ _ _ _ us hl => match us, hl with | [_, _, _], _ => rfl
  have C_lack_of_row : CF PySem.Challenge.rw_damworks_k71_across_spells.prog w K mg base ⟨(tgs.map (He.cT K)).map (·.2), (tls.map (He.cT K)).map (·.2)⟩ 1 "lack_of_row" 3 Ty.S_lack_of_row := CF.of (He.glo_ok X G (c.t.d.fact 9 (f := .glo "lack_of_row") rfl)) D_lack_of_row.kp b_lack_of_row (ok_lack_of_row T D_lack_of_row )
  have b_found_storage : Binds K fd_found_storage ["inflows", "demands", "is_round"] [] := FunD.bindsN E_found_storage fun _ _ _ _ _ _ us hl => match us, hl with | [_, _, _], _ => rfl
  have C_found_storage : CF PySem.Challenge.rw_damworks_k71_across_spells.prog w K mg base ⟨(tgs.map (He.cT K)).map (·.2), (tls.map (He.cT K)).map (·.2)⟩ 2 "found_storage" 3 Ty.S_found_storage := CF.of (He.glo_ok X G (c.t.d.fact 10 (f := .glo "found_storage") rfl)) D_found_storage.kp b_found_storage (ok_found_storage T D_found_storage C_rows_of_months C_lack_of_row)
  have b_least_storage : Binds K fd_least_storage ["inflows", "demands", "is_round"] [] := FunD.bindsN E_least_storage fun _ _ _ _ _ _ us hl => match us, hl with | [_, _, _], _ => rfl
  have C_least_storage : CF PySem.Challenge.rw_damworks_k71_across_spells.prog w K mg base ⟨(tgs.map (He.cT K)).map (·.2), (tls.map (He.cT K)).map (·.2)⟩ 8 "least_storage" 3 Ty.S_least_storage := CF.of (He.glo_ok X G (c.t.d.fact 11 (f := .glo "least_storage") rfl)) D_least_storage.kp b_least_storage (ok_least_storage T D_least_storage C_check_rows C_found_storage)
  have b__law_taken : Binds K fd__law_taken ["row", "many"] [] := FunD.bindsN E__law_taken fun _ _ _ _ _ _ us hl => match us, hl with | [_, _], _ => rfl
  have C__law_taken : CW PySem.Challenge.rw_damworks_k71_across_spells.prog w K mg base ⟨(tgs.map (He.cT K)).map (·.2), (tls.map (He.cT K)).map (·.2)⟩ 1 "_law_taken" 1 cTaken := ⟨_, fd__law_taken, _, (He.glo_ok X G (c.t.d.fact 12 (f := .glo "_law_taken") rfl)), D__law_taken.kp, b__law_taken, ok_taken T D__law_taken ⟩
  have b__law_pick : Binds K fd__law_pick ["row", "things"] [] := FunD.bindsN E__law_pick fun _ _ _ _ _ _ us hl => match us, hl with | [_, _], _ => rfl
  have C__law_pick : CW PySem.Challenge.rw_damworks_k71_across_spells.prog w K mg base ⟨(tgs.map (He.cT K)).map (·.2), (tls.map (He.cT K)).map (·.2)⟩ 2 "_law_pick" 1 cPick := ⟨_, fd__law_pick, _, (He.glo_ok X G (c.t.d.fact 13 (f := .glo "_law_pick") rfl)), D__law_pick.kp, b__law_pick, ok_pick T D__law_pick C__law_taken⟩
  have b__law_flow : Binds K fd__law_flow ["row"] [] := FunD.bindsN E__law_flow fun _ _ _ _ _ _ us hl => match us, hl with | [_], _ => rfl
  have C__law_flow : CW PySem.Challenge.rw_damworks_k71_across_spells.prog w K mg base ⟨(tgs.map (He.cT K)).map (·.2), (tls.map (He.cT K)).map (·.2)⟩ 3 "_law_flow" 0 cFlow := ⟨_, fd__law_flow, _, (He.glo_ok X G (c.t.d.fact 14 (f := .glo "_law_flow") rfl)), D__law_flow.kp, b__law_flow, ok_flow T D__law_flow C__law_taken C__law_pick⟩
  have b__law_demands : Binds K fd__law_demands ["row", "many"] [] := FunD.bindsN E__law_demands fun _ _ _ _ _ _ us hl => match us, hl with | [_, _], _ => rfl
  have C__law_demands : CW PySem.Challenge.rw_damworks_k71_across_spells.prog w K mg base ⟨(tgs.map (He.cT K)).map (·.2), (tls.map (He.cT K)).map (·.2)⟩ 4 "_law_demands" 1 cDemands := ⟨_, fd__law_demands, _, (He.glo_ok X G (c.t.d.fact 15 (f := .glo "_law_demands") rfl)), D__law_demands.kp, b__law_demands, ok_demands T D__law_demands C__law_flow⟩
  exact ok_law T D_law  C_spells C_least_storage C__law_taken C__law_pick C__law_demands (law_of TheLaw)
end L71
open PySem PySem.W PySem.Calls PyProof.Rows
theorem PySem.Challenge.cw_damworks_k71_across_spells_holds : PySem.Challenge.rw_damworks_k71_across_spells.Holds := by
  w_on; o_law
  refine HandSHeadRun.head_any (r := L71.TheRow) (q := view L71.TheRow.prog [40]) (H := L71.hk) (ob := L71.ob) (M := 4000) (loose := L71.others) (d := HandSHeadRun.topDef L71.TheRow.prog 40) (kwd := []) L71.ob_eq
    (by kernel_rfl) (fun s => by kernel_rfl) L71.run (by kernel_rfl) (by kernel_rfl) (by kernel_rfl) (by rfl) (by first | assumption | decide +kernel) (by decide +kernel) ⟨rfl, rfl, rfl, rfl, rfl, by decide +kernel⟩ ?hw ?hc
  case hw => w_witness2
  case hc =>
    refine LamX.walk_ofTsE (l := PySem.Challenge.rw_damworks_k71_across_spells) (n := 63) (k := 9) (x := "script") (CX := fun _ => L2.CX0) rfl (by decide) (by kernel_rfl) ⟨rfl, by decide, by decide⟩ ?F (fun _ _ _ _ _ z => z)
    intro w mg fa h Y G hmg0
    obtain ⟨K, KX, c⟩ := Y
    have hmg : mg ("law" : PySem.Str) = some (.ref fa) := by
      have e : (HandSHeadRun.topDef L71.TheRow.prog 40).name = ("law" : PySem.Str) := by kernel_rfl
      rw [← e]
      exact hmg0
    exact ⟨K, KX, L71.facts KX G hmg c⟩
