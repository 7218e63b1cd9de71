import PyProof.Rows.All
import Wide.All
import OpenK.AllK
import Wide.FinOn
import HandS.ForMost
import HandS.AnyAll
import HandS.GenOver
import HandS.Lambda
import HandS.Wide
import HandS.IsInst
import HandS.Deep
import HandS.TupMul
import HandS.Gcd
import HandS.TupAny
import KE.KTupSum
import HandS.Style
import HandS.Zip
import KE.DataMinMax
import HandS.Defaults
import HandS.EndTab
import HandS.HeadWalk
import HandS.Head0
import HandS.Head1
import HandS.Head2
import HandS.HeadHook4
import HandS.Head3
import PySem.Challenge.RW_damworks_k48_across_yields_and_storages
set_option Elab.async false
set_option linter.all false
set_option maxRecDepth 100000
set_option maxHeartbeats 4000000
/-! all, any of a generator expression over anything that a for walks, its element any expression that gives a bool. -/
namespace GA
open PySem PySem.Spec PyProof.Rows L2
abbrev St := L2.St

/-! ### the loops of all and any -/
section
variable {prog : Program} {w : World} {A : Around} {R : Result → Shared → Prop} {I : Addr}
theorem all_loop {St : Nat → Shared → Prop} (turn : ∀ m s, St m s → wpAny (model prog w) A.in1 (pyNext (.ref I)) (fun r s' => match r with
      | none => R (.ok (.ret (.bool true))) s'
      | some v => ∃ b, v = .bool b ∧ if b = true then ∃ m', m' < m ∧ St m' s' else R (.ok (.ret (.bool b))) s') (fun _ _ => False) s) :
    ∀ m s, St m s → codeAny (model prog w) A (.builtin "all.loop" ⟨[.ref I], []⟩) R s := by
  intro m
  induction m using Nat.strongRecOn with
  | ind m ih =>
    intro s hst
    refine codeAny_builtin F.entry_all_loop ?_
    rw [Around.under_plainId F.plain_all_loop _]
    show wpAny _ A.in1 (pyNext (.ref I) >>= _) _ _ s
    refine wpAny_bind (wpAny_mono (turn m s hst) (fun r s' hr => ?_) fun _ _ z => False.elim z)
    cases r with
    | none => exact wpAny_bind (wpAny_rule (wpAny_pure hr))
    | some v =>
      obtain ⟨b, rfl, hb⟩ := hr
      refine wpAny_bind (wpAny_holding (wpAny_truthy_bool ?_))
      refine wpAny_bind (wpAny_letGo ?_)
      cases b with
      | true =>
        simp only [if_true] at hb ⊢
        obtain ⟨m', hm, hs⟩ := hb
        exact wpAny_pure ⟨plainId_quiet F.plain_all_loop _, ih m' hm s' hs⟩
      | false =>
        simp only [Bool.false_eq_true, if_false] at hb ⊢
        exact wpAny_bind (wpAny_rule (wpAny_pure hb))
theorem any_loop {St : Nat → Shared → Prop} (turn : ∀ m s, St m s → wpAny (model prog w) A.in1 (pyNext (.ref I)) (fun r s' => match r with
      | none => R (.ok (.ret (.bool false))) s'
      | some v => ∃ b, v = .bool b ∧ if b = false then ∃ m', m' < m ∧ St m' s' else R (.ok (.ret (.bool b))) s') (fun _ _ => False) s) :
    ∀ m s, St m s → codeAny (model prog w) A (.builtin "any.loop" ⟨[.ref I], []⟩) R s := by
  intro m
  induction m using Nat.strongRecOn with
  | ind m ih =>
    intro s hst
    refine codeAny_builtin F.entry_any_loop ?_
    rw [Around.under_plainId F.plain_any_loop _]
    show wpAny _ A.in1 (pyNext (.ref I) >>= _) _ _ s
    refine wpAny_bind (wpAny_mono (turn m s hst) (fun r s' hr => ?_) fun _ _ z => False.elim z)
    cases r with
    | none => exact wpAny_bind (wpAny_rule (wpAny_pure hr))
    | some v =>
      obtain ⟨b, rfl, hb⟩ := hr
      refine wpAny_bind (wpAny_holding (wpAny_truthy_bool ?_))
      refine wpAny_bind (wpAny_letGo ?_)
      cases b with
      | false =>
        simp only [if_true] at hb
        simp only [Bool.false_eq_true, if_false]
        obtain ⟨m', hm, hs⟩ := hb
        exact wpAny_pure ⟨plainId_quiet F.plain_any_loop _, ih m' hm s' hs⟩
      | true =>
        simp only [Bool.true_eq_false, if_false] at hb
        simp only [if_true]
        exact wpAny_bind (wpAny_rule (wpAny_pure hb))
end

/-! ### the generator's context -/
abbrev gCx (X : Cx) (s : Shared) (H : Hp) (cenv : Env) (fp : List Addr) (pn : List (Addr × Obj)) : Cx :=
  { X with A := X.A.in1.in1.deeper cenv, s_0 := s, H_0 := H, env := cenv, outer := X.stack, stack := cenv :: X.stack, ex := fp, fn := fun _ => false, pn := pn, xe := fun _ _ => False }

section
variable {X : Cx} {pins : List (Addr × Obj)} {σ : St} {H : Hp} {s s' : Shared}
theorem inv_rest (I : Inv X pins σ H s) (k : ∀ b u, s.heap.get? b = some u → s'.heap.get? b = some u) (ho : s'.os = s.os) (hb : AllBare s'.gens) : Inv X pins σ H s' := by
  have J := I.step (H' := H) (h' := s'.heap) (g' := s'.gens) (t' := s'.toks) (d' := s'.drawn) (ch := []) (fun b hb => absurd hb (by simp)) (fun b o _ _ _ e _ => k b o e) (fun b o _ _ _ e _ => ⟨o.slots, k b o e⟩)
    (fun _ _ _ _ n => n) (fun b o _ e => ⟨o, k b o e⟩) (fun _ _ q => q) (fun _ _ _ q => q) (fun b ps q => ⟨#[], by rw [q]; simp⟩) (fun m hm => let ⟨o, es, ep, ho, r⟩ := hm; ⟨o, es, ep, k _ o ho, r⟩) (I.hok.kept k) hb
  rw [GxR.sh_eta s s' ho] at J
  exact J
structure Woken (s s' : Shared) : Prop where
  heap : s'.heap = s.heap
  os : s'.os = s.os
  bare : AllBare s'.gens
  size : s.gens.size ≤ s'.gens.size
theorem Woken.inv (W : Woken s s') (I : Inv X pins σ H s) : Inv X pins σ H s' := inv_rest I (fun b u e => by rw [W.heap]; exact e) W.os W.bare
theorem bare_set {G : Array GenState} (h : AllBare G) {g : Nat} {x : GenState} (hx : x.bare = true) : AllBare (G.setIfInBounds g x) := by
  intro y hy
  obtain ⟨i, hi, rfl⟩ := Array.mem_iff_getElem.mp hy
  have hi' : i < G.size := by simpa using hi
  rw [Array.getElem_setIfInBounds hi']
  split
  · exact hx
  · exact h _ (Array.getElem_mem hi')
theorem Woken.set (hb : AllBare s.gens) {g : Nat} {x : GenState} (hx : x.bare = true) : Woken s (s.setGen g x) := ⟨rfl, rfl, bare_set hb hx, by rw [GenW.setGen_size]; exact Nat.le_refl _⟩
end

/-! ### the generator's run -/
section
variable {X : Cx} {s₁ : Shared} {H₁ : Hp} {cenv : Env} {fp : List Addr} {pn : List (Addr × Obj)}
/-- behind a yield -/
def gY (X : Cx) (s₁ : Shared) (H₁ : Hp) (cenv : Env) (fp : List Addr) (pn : List (Addr × Obj)) (ev : Bool) (G0 : Nat) (Qx : Bool → Hp → Prop) : Protocol := fun n s₀ v s kap =>
  ∃ b σ' H', v = .bool b ∧ Inv (gCx X s₁ H₁ cenv fp pn) [] σ' H' s ∧ G0 ≤ s.gens.size ∧ if b = ev then ∀ s'', Woken s s'' → kap (.send .none) s'' else Qx b H'
def gP (X : Cx) (s₁ : Shared) (H₁ : Hp) (cenv : Env) (fp : List Addr) (pn : List (Addr × Obj)) (ev : Bool) (Qx : Bool → Hp → Prop) : Nat → Shared → Shared → Prop := fun _ _ s =>
  ∃ σ' H', Inv (gCx X s₁ H₁ cenv fp pn) [] σ' H' s ∧ Qx ev H'
def gR (X : Cx) (s₁ : Shared) (H₁ : Hp) (cenv : Env) (fp : List Addr) (pn : List (Addr × Obj)) (ev : Bool) (Qx : Bool → Hp → Prop) : GenEnd := fun n s₀ r s => r = .ok .next ∧ gP X s₁ H₁ cenv fp pn ev Qx n s₀ s

theorem seg_loop {elt tg iter : Expr} {scope : Scope} {pos : Pos} {it : Addr} {tn : Nat → Heap → Prop} {J : It} {g : TG} {te : TE} {σ : St} {vs : List Nat} {ev : Bool} {G0 : Nat} {Qx : Bool → Hp → Prop} {W : Nat → Nat → Hp → Prop}
    (hc : X.calm = true) (hco : cenv.scope.isCoroutine = false) (T : Turn X.prog X.w X.K tg J fp it tn) (pg : PG (gCx X s₁ H₁ cenv fp pn) tg g) (pe : PE (gCx X s₁ H₁ cenv fp pn) elt te)
    (hpn : ∀ b ∈ fp, ∀ p ∈ pn, p.1 ≠ b)
    (turn : ∀ i m H, W i m H → (J.stop i H ∧ Qx ev H) ∨ (J.go i H ∧ ∃ Nx : Hp → Prop, (∀ H', Nx H' → ∃ m', m' < m ∧ W (i + 1) m' H') ∧ ∀ x H', J.yld i H x H' → g x (wipe σ vs) H' fun σ2 H3 => wipe σ2 vs = wipe σ vs ∧
      te σ2 H3 fun y H4 => ∃ b, y = .bl b ∧ if b = ev then Nx H4 else Qx b H4)) :
    ∀ (n i m : Nat) (H : Hp) (s₀ s : Shared), m ≤ n → W i m H → Inv (gCx X s₁ H₁ cenv fp pn) [] (wipe σ vs) H s → tn i s.heap → (∀ b ∈ fp, H b = none) → G0 ≤ s.gens.size →
      Seg (model X.prog X.w) X.A.in1.in1 (gR X s₁ H₁ cenv fp pn ev Qx) (gY X s₁ H₁ cenv fp pn ev G0 Qx) (n + 1) s₀
        (.compLoop (.GeneratorExp elt [⟨tg, iter, [], 0⟩] scope pos) 0 (.ref it) .none cenv) ((model X.prog X.w).den (.compLoop (.GeneratorExp elt [⟨tg, iter, [], 0⟩] scope pos) 0 (.ref it) .none cenv)) [] s := by
  have stat : ∀ {σ' : St} {H' : Hp} {s' : Shared}, Inv (gCx X s₁ H₁ cenv fp pn) [] σ' H' s' → (∀ b ∈ fp, H' b = none) → ∀ b ∈ fp, FpOk (gCx X s₁ H₁ cenv fp pn) [] H' b := fun {σ' H' s'} I' hn b hb =>
    ⟨hn b hb, (I'.ok.exf b hb).1, I'.ok.exfs b hb, .inl hb, fun x c e => (I'.ok.exf b hb).2 x c e, fun p hp => by
      rcases List.mem_append.mp hp with hp | hp
      · exact hpn b hb p hp
      · exact absurd hp (by simp)⟩
  intro n
  induction n using Nat.strongRecOn with
  | ind n ih =>
    intro i m H s₀ s hm w I st nfp hG
    show Seg _ X.A.in1.in1 _ _ _ s₀ _ ((compTurn (.GeneratorExp elt [⟨tg, iter, [], 0⟩] scope pos) 0 (.ref it) .none cenv).onRaise (leaving cenv)) [] s
    rw [compTurn_gen, Sem.onRaise_eq_wrap]
    refine seg_bind_wrap (wpAny_standAt ?_)
    rcases turn i m H w with ⟨stop, qq⟩ | ⟨go, Nx, hNx, step⟩
    · have td := T.done (gCx X s₁ H₁ cenv fp pn) rfl rfl rfl hc i [] s _ H (fun _ _ => False) I (stat I nfp) st stop
      refine seg_bind_wrap (thnF td fun r s6 ⟨hr, I6⟩ => ?_)
      subst hr
      exact seg_end (.ok .next) ⟨rfl, _, _, I6, qq⟩
    · have ti := T.item (gCx X s₁ H₁ cenv fp pn) rfl rfl rfl hc i [] s _ H (fun _ _ => False) I (stat I nfp) st go
      refine seg_bind_wrap (thnF (GenW.wpAny_gsz hG (wpAny_mono ti (fun _ _ z hg => (⟨hg, z⟩ : G0 ≤ _ ∧ _)) fun _ _ z _ => z)) fun r s6 ⟨hG6, u, hr, h6⟩ => ?_)
      subst hr
      refine seg_bind_wrap (thnF (GenW.wpAny_gsz hG6 (wpAny_mono h6 (fun _ _ z hg => (⟨hg, z⟩ : G0 ≤ _ ∧ _)) fun _ _ z _ => z)) fun _ s7 ⟨hG7, x, H7, I7, r7, y7, st7, n7⟩ => ?_)
      have I7' := I7.pinned (stat I7 n7) (T.obj _ _ st7)
      refine seg_bind_wrap (thnF (GenW.wpAny_gsz hG7 (wpAny_mono (pg.run _ s7 _ H7 x u _ I7' r7 (step x H7 y7)) (fun _ _ z hg => (⟨hg, z⟩ : G0 ≤ _ ∧ _)) fun _ _ z _ => z)) fun _ s8 ⟨hG8, σ8, H8, I8, hw8, q8⟩ => ?_)
      refine seg_bind_wrap (wpAny_tests_nil ?_)
      simp only [if_true]
      have hy : ∀ v, yieldOut cenv v = yieldValue v := fun v => by simp only [yieldOut, hco, Bool.false_eq_true, if_false]
      simp only [hy]
      rw [Sem.bind_eq_wrap', Sem.bind_eq_wrap', Sem.wrap_wrap, Sem.wrap_wrap]
      refine seg_wrap (thnF (GenW.wpAny_gsz hG8 (wpAny_mono (pe.run _ s8 σ8 H8 _ I8 q8) (fun _ _ z hg => (⟨hg, z⟩ : G0 ≤ _ ∧ _)) fun _ _ z _ => z)) fun z s10 ⟨hG10, yv, H10, I10, r10, b, hb, nx⟩ => ?_)
      subst hb
      obtain rfl : z = Value.bool b := r10
      refine seg_at (seg_yield rfl rfl rfl ⟨b, σ8, H10, rfl, I10.unpinned (pins := []), hG10, ?_⟩)
      by_cases hb : b = ev
      · rw [if_pos hb] at nx ⊢
        intro s'' wk
        obtain ⟨m', hm', w'⟩ := hNx H10 nx
        obtain ⟨n', rfl⟩ : ∃ n', n = n' + 1 := ⟨n - 1, by omega⟩
        have pin' : ∀ b ∈ fp, ∀ o, s7.heap.get? b = some o → s10.heap.get? b = some o ∧ H10 b = none := fun b hb o e =>
          let z := I10.pin (b, o) (List.mem_append_right _ (List.mem_append_right _ (mem_pinsAt hb e)))
          ⟨z.1, z.2.1⟩
        have hl : (wipe σ vs).length = σ8.length := by rw [← hw8, wipe_length]
        have I11 : Inv (gCx X s₁ H₁ cenv fp pn) [] (wipe σ vs) H10 s10 := (I10.unpinned (pins := [])).weak hl fun j v e => by
          rw [← hw8] at e
          exact (wipe_some e).1
        refine seg_again rfl (ih n' (by omega) (i + 1) m' H10 s'' s'' (by omega) w' (wk.inv I11) ?_ (fun b hb => ?_) (Nat.le_trans hG10 wk.size))
        · exact T.keep _ _ _ st7 fun b hb o e => by rw [wk.heap]; exact (pin' b hb o e).1
        · obtain ⟨o, e, _⟩ := T.obj _ _ st7 b hb
          exact (pin' b hb o e).2
      · rw [if_neg hb] at nx ⊢
        exact nx
theorem seg_start {elt tg iter : Expr} {scope : Scope} {pos : Pos} {it : Addr} {tn : Nat → Heap → Prop} {J : It} {R : GenEnd} {Y : Protocol} {n : Nat} {s₀ s : Shared}
    (T : Turn X.prog X.w X.K tg J fp it tn) (st : tn 0 s.heap)
    (loop : Seg (model X.prog X.w) X.A.in1.in1 R Y n s₀ (.compLoop (.GeneratorExp elt [⟨tg, iter, [], 0⟩] scope pos) 0 (.ref it) .none cenv) ((model X.prog X.w).den (.compLoop (.GeneratorExp elt [⟨tg, iter, [], 0⟩] scope pos) 0 (.ref it) .none cenv)) [] s) :
    Seg (model X.prog X.w) X.A.in1.in1 R Y n s₀ (.compStart (.GeneratorExp elt [⟨tg, iter, [], 0⟩] scope pos) 0 (.ref it) .none cenv) ((model X.prog X.w).den (.compStart (.GeneratorExp elt [⟨tg, iter, [], 0⟩] scope pos) 0 (.ref it) .none cenv)) [] s := by
  show Seg _ X.A.in1.in1 _ _ _ s₀ _ ((compStart (.GeneratorExp elt [⟨tg, iter, [], 0⟩] scope pos) 0 (.ref it) .none cenv).onRaise (leaving cenv)) [] s
  unfold compStart
  rw [Sem.onRaise_eq_wrap]
  show Seg _ X.A.in1.in1 _ _ _ s₀ _ ((ask >>= _).wrap _ _ _ _) [] s
  refine seg_bind_wrap (wpAny_askSetting ?_)
  split
  · exact seg_again rfl loop
  · first
      | exact seg_bind_wrap (wpAny_rule (seg_bind_wrap (wpAny_standAt (seg_bind_wrap (T.self _ 0 s _ _ st (seg_again rfl loop))))))
      | (refine seg_bind_wrap (wpAny_rule ?_); show Seg _ X.A.in1.in1 _ _ _ s₀ _ ((standAt iter.pos >>= _).wrap _ _ _ _) [] s; exact seg_bind_wrap (wpAny_standAt (seg_bind_wrap (T.self _ 0 s _ _ st (seg_again rfl loop)))))

/-- between two wakes: m yields at most are to come -/
def Sleeps (X : Cx) (s₁ : Shared) (H₁ : Hp) (cenv : Env) (fp : List Addr) (pn : List (Addr × Obj)) (ev : Bool) (Qx : Bool → Hp → Prop) (a : Addr) (g : Nat) (m : Nat) (s : Shared) : Prop :=
  s.heap.IsGen a g ∧ s.heap.NoLimit ∧ AllBare s.gens ∧ ∃ gs, s.gens[g]? = some gs ∧ ∀ s'', Woken s s'' → gs.Goes (model X.prog X.w) X.A.in1.in1 (gR X s₁ H₁ cenv fp pn ev Qx) (gY X s₁ H₁ cenv fp pn ev (g + 1) Qx) m (.send .none) s''
theorem sleeps_next {ev : Bool} {Qx : Bool → Hp → Prop} {a : Addr} {g m : Nat} {s : Shared} {o : Obj} (hh : X.A.handled = none) (hdp : X.A.depth < recursionLimit) (hpn : pn = [(a, o)]) (hgen : ∀ h : Heap, h.get? a = some o → h.IsGen a g)
    (S : Sleeps X s₁ H₁ cenv fp pn ev Qx a g m s) :
    wpAny (model X.prog X.w) X.A.in1 (pyNext (.ref a)) (fun r s' => match r with
      | none => ∃ σ' H', Inv (gCx X s₁ H₁ cenv fp pn) [] σ' H' s' ∧ Qx ev H'
      | some v => ∃ b, v = .bool b ∧ if b = ev then ∃ m', m' < m ∧ Sleeps X s₁ H₁ cenv fp pn ev Qx a g m' s' else ∃ σ' H', Inv (gCx X s₁ H₁ cenv fp pn) [] σ' H' s' ∧ Qx b H') (fun _ _ => False) s := by
  obtain ⟨hg, hl, hbr, gs, hgs, hgo⟩ := S
  refine wpAny_pyNext_genexpQ (A := X.A.in1) (n := m) (P := gP X s₁ H₁ cenv fp pn ev Qx) (Y := gY X s₁ H₁ cenv fp pn ev (g + 1) Qx) hh hl hdp hg hgs (hgo _ (Woken.set hbr rfl)) (fun v s2 gs' hb hv => ?_) (fun s2 hp h' hk => ?_)
  · obtain ⟨b, σ', H', hv1, I, hsz, hq⟩ := hv
    have wk : Woken s2 (s2.setGen g gs') := Woken.set I.bare hb
    refine ⟨b, hv1, ?_⟩
    by_cases hbe : b = ev
    · rw [if_pos hbe] at hq ⊢
      cases m with
      | zero => exact (hq s2 ⟨rfl, rfl, I.bare, Nat.le_refl _⟩).elim
      | succ k =>
        have I2 := wk.inv I
        refine ⟨k, Nat.lt_succ_self k, hgen _ (I2.pin (a, o) (by rw [show (gCx X s₁ H₁ cenv fp pn).pn = pn from rfl, hpn]; simp)).1, I2.nolimit, I2.bare, gs', ?_, fun s'' w2 => hq s'' ⟨w2.heap.trans wk.heap, w2.os.trans wk.os, w2.bare, Nat.le_trans wk.size w2.size⟩⟩
        have hlt : g < s2.gens.size := hsz
        simp only [Shared.setGen]
        rw [Array.getElem?_setIfInBounds_self]
        simp [hlt]
    · rw [if_neg hbe] at hq ⊢
      exact ⟨σ', H', wk.inv I, hq⟩
  · obtain ⟨σ', H', I, q⟩ := hp
    refine ⟨σ', H', inv_rest I hk rfl (bare_set I.bare rfl), q⟩
end

/-! ### the generator is made -/
section
variable {X : Cx} {pins : List (Addr × Obj)} {σ : St} {H : Hp} {s s' : Shared}
theorem gen_begin {scope : Scope} {own : List (Str × Nat)} {fp : List Addr} {code : Value} {cenv : Env} {a : Addr} {o : Obj} {m : Str → Option Value} (I : Inv X pins σ H s) (ok : BlkOk X.N X.env.scope scope own) (hN : X.N.Nodup) (hcell : ∀ y ∈ scope.names, y.2 ≠ .cell)
    (hfp : ∀ b ∈ fp, FpOk X pins H b ∧ b < s.heap.objs.size) (hce : cenv = genEnv scope (cloFrom X.env.cells scope.names []) s.heap.objs.size code builtinsNs X.env)
    (kp : ∀ b o, s.heap.get? b = some o → s'.heap.get? b = some o) (ho : s'.os = s.os) (hb : AllBare s'.gens) (hns : s'.heap.Ns s.heap.objs.size m) (ha : s.heap.objs.size < a) (hga : s'.heap.get? a = some o) (hod : ∀ v, o.data ≠ .cell v) :
    Inv (gCx X s H cenv fp [(a, o)]) [] (wipe σ (own.map (·.2))) H s' := by
  have hfree : ∀ y ∈ scope.names, y.2 = .free → ∃ c, X.env.cells.lookup y.1 = some c := fun y hy e => by
    rcases ok.free y hy e with k | k
    · exact I.ok.has _ (.inl k)
    · exact I.ok.has _ (.inr k)
  have hL : cenv.locals = s.heap.objs.size := by rw [hce]; rfl
  have hcl : cenv.cells = cloFrom X.env.cells scope.names [] := by rw [hce]; rfl
  have hsc : cenv.scope = scope := by rw [hce]; rfl
  have cm : ∀ {y c}, cenv.cells.lookup y = some c → X.env.cells.lookup y = some c ∧ c < s.heap.objs.size := fun {y c} e => by
    rw [hcl] at e
    rcases cloFrom_mem (PySem.mem_of_lookup e) with hm | ⟨h1, rfl⟩
    · cases hm
    · obtain ⟨c, hc⟩ := hfree _ h1 rfl
      have hc : X.env.cells.lookup y = some c := hc
      rw [hc]
      obtain ⟨w, z⟩ := I.cell _ _ hc
      exact ⟨rfl, z.lt⟩
  have look : ∀ {y}, scope.names.lookup y = some .free → ∃ c, cenv.cells.lookup y = some c := fun {y} hl => by
    have hy : (y, NameKind.free) ∈ scope.names := PySem.mem_of_lookup hl
    rw [hcl]
    exact mem_lookup (cloFrom_has (cells := X.env.cells) (acc := []) hy)
  have okB : (gCx X s H cenv fp [(a, o)]).Ok := by
    refine ⟨I.ok.mod, by show cenv.scope.kind = _; rw [hsc]; exact ok.kind, by show cenv.globals = _; rw [hce]; exact I.ok.glob, by show cenv.builtins = _; rw [hce]; rfl, by show s.heap.objs.size ≤ cenv.locals; rw [hL]; exact Nat.le_refl _,
      fun y z c e1 e2 => I.ok.inj y z c (cm e1).1 (cm e2).1, fun y hy => ?_, fun y c z _ => absurd (show false = true from z) Bool.false_ne_true, fun h => I.ok.hd h, Around.frames_deeper (A := X.A.in1.in1) I.ok.frames, .inr ⟨rfl, by show cenv.frame = some cenv.locals; rw [hce]; rfl⟩, fun b hb => ⟨?_, fun y c e z => ?_⟩, I.bs, Nat.le_trans I.ok.bsz I.sz, fun b o e hb => ?_, fun b hb z => ?_, I.stack, I.stkFree⟩
    · show ∃ c, cenv.cells.lookup y = some c
      have hy : cenv.scope.names.lookup y = some .cell ∨ cenv.scope.names.lookup y = some .free := hy
      rw [hsc] at hy
      rcases hy with hy | hy
      · exact absurd rfl (hcell _ (PySem.mem_of_lookup hy))
      · exact look hy
    · show b ≠ cenv.locals
      rw [hL]; exact Nat.ne_of_lt (hfp b hb).2
    · have e : cenv.cells.lookup y = some c := e
      exact (hfp b hb).1.2.2.2.2.1 y c (cm e).1 z
    · rcases (hfp b hb).1.2.2.2.1 with z | z
      · exact I.ok.noex b o e z
      · exact absurd (Nat.lt_of_lt_of_le (Heap.lt_size e) (Nat.le_trans I.ok.bsz z)) (Nat.lt_irrefl _)
    · rcases List.mem_cons.mp (I.stkSub b z) with z | z
      · exact (hfp b hb).1.2.1 z
      · exact (hfp b hb).1.2.2.1 z
  have nofr : a ∉ frs X.stack := fun z => by
    rcases List.mem_cons.mp (I.stkSub _ z) with e | e
    · have h1 := I.lt
      rw [← e] at h1
      exact absurd (Nat.lt_trans h1 ha) (Nat.lt_irrefl _)
    · exact I.nofs (Nat.le_of_lt ha) e
  refine ⟨okB, ho, hb, Un.kept kp, ⟨m, ?_, fun i y av e1 e2 e3 => ?_⟩, fun y c e => ?_, ?_, fun y c e => ?_, fun p hp => ?_, I.hok.kept kp, by rw [wipe_length]; exact I.len⟩
  · show Heap.Ns _ cenv.locals _
    rw [hL]
    exact hns
  · obtain ⟨e2, hne⟩ := wipe_some e2
    have e3 : Vis cenv.scope y := e3
    rw [hsc] at e3
    have no : ∀ k, scope.names.lookup y = some k → ¬ (k = .local ∨ k = .cell) := fun k hk hh => by
      rcases ok.own _ (PySem.mem_of_lookup hk) hh with e' | e'
      · obtain ⟨p, hp, hpy⟩ := List.mem_map.mp e'
        have e3 := ok.ix p hp
        have : p.1 = y := hpy
        rw [this] at e3
        exact hne (List.mem_map.mpr ⟨p, hp, nodup_ix hN e3 e1⟩)
      · exact e' (List.mem_of_getElem? e1)
    have hfr : scope.names.lookup y = some .free := by
      rcases e3 with e3 | e3 | e3
      · exact absurd (.inl rfl) (no _ e3)
      · exact absurd (.inr rfl) (no _ e3)
      · exact e3
    obtain ⟨m', hn, hl⟩ := I.loc
    have hvis : Vis X.env.scope y := (ok.free _ (PySem.mem_of_lookup hfr) rfl).elim (fun k => .inr (.inl k)) (fun k => .inr (.inr k))
    obtain ⟨w', r, q⟩ := hl i y av e1 e2 hvis
    obtain ⟨c, h1⟩ := look hfr
    refine ⟨w', r, .inr ⟨.inr (by show cenv.scope.names.lookup y = _; rw [hsc]; exact hfr), c, h1, ?_⟩⟩
    have h2 := (cm h1).1
    rcases q with ⟨k, _⟩ | ⟨_, c', e', z⟩
    · have k : X.env.scope.names.lookup y = some .local := k
      rcases ok.free _ (PySem.mem_of_lookup hfr) rfl with k' | k' <;> rw [show X.env.scope.names.lookup y = _ from k'] at k <;> cases k
    · rw [h2] at e'; cases e'
      exact z.keeps kp
  · have e : cenv.cells.lookup y = some c := e
    obtain ⟨w', z⟩ := I.cell y c (cm e).1
    exact ⟨w', z.keeps kp⟩
  · show H cenv.locals = none
    rw [hL]; exact I.hok.fresh (Nat.le_refl _)
  · have e : cenv.cells.lookup y = some c := e
    exact I.freeC y c (cm e).1
  · have hp : p = (a, o) := by simpa using hp
    subst hp
    exact ⟨hga, I.hok.fresh (Nat.le_of_lt ha), by show a ≠ cenv.locals; rw [hL]; exact Nat.ne_of_gt ha, nofr, hod⟩
end

/-- the generator expression's scope -/
structure GenK (scope : Scope) : Prop where
  co : scope.isCoroutine = false
  cell : ∀ y ∈ scope.names, y.2 ≠ .cell
  dot : scope.names.lookup (".0" : Str) = some NameKind.local
def genKB (scope : Scope) : Bool := !scope.isCoroutine && (scope.names.all fun y => !decide (y.2 = .cell)) && decide (scope.names.lookup (".0" : Str) = some NameKind.local)
theorem genK_by {scope : Scope} (h : genKB scope = true) : GenK scope := by
  unfold genKB at h
  simp only [Bool.and_eq_true, Bool.not_eq_true', List.all_eq_true, decide_eq_true_eq, decide_eq_false_iff_not] at h
  exact ⟨h.1.1, h.1.2, h.2⟩
/-- what is wanted of the turns -/
def GTurn (ev : Bool) (g : TG) (te : TE) (vs : List Nat) (σ : St) (Qx : Bool → Hp → Prop) (J : It) (H2 : Hp) : Prop :=
  ∃ W : Nat → Nat → Hp → Prop, (∃ m, W 0 m H2) ∧ ∀ i m H, W i m H → (J.stop i H ∧ Qx ev H) ∨ (J.go i H ∧ ∃ Nx : Hp → Prop, (∀ H', Nx H' → ∃ m', m' < m ∧ W (i + 1) m' H') ∧ ∀ x H', J.yld i H x H' → g x (wipe σ vs) H' fun σ2 H3 => wipe σ2 vs = wipe σ vs ∧
      te σ2 H3 fun y H4 => ∃ b, y = .bl b ∧ if b = ev then Nx H4 else Qx b H4)
/-- all(elt for tg in iter) (ev: true), any(..) (ev: false); the def's table at P may grow -/
def tGen (ev : Bool) (P : Addr) (wi : TI) (g : TG) (te : TE) (vs : List Nat) : TE := fun σ H Q => wi σ H fun J H1 => GxR.TabG H1 P ∧ ∀ H2, GxR.Tabbed P H1 H2 → GTurn ev g te vs σ (fun b H' => Q (.bl b) H') J H2

section
variable {X : Cx} {pins : List (Addr × Obj)} {σ : St} {H : Hp} {s : Shared}
theorem gen_make {ev : Bool} {c P : Addr} {elt tg iter : Expr} {scope : Scope} {own : List (Str × Nat)} {gpos : Pos} {wi : TI} {g : TG} {te : TE} {k : Nat} {Qx : Bool → Hp → Prop} {Q' : Value → Shared → Prop}
    (hr : Room k X.A) (TB : LamX.TabB X.base X.mg c P) (hcode : X.env.code = .ref c) (hc : X.calm = true) (hN : X.N.Nodup) (hi : PI X tg iter wi) (ok : BlkOk X.N X.env.scope scope own) (gk : GenK scope)
    (hg : ∀ (s : Shared) (H : Hp) (cl : List (Str × Addr)) (C : Addr) (code : Value) (fp : List Addr) (pn : List (Addr × Obj)), PG (gCx X s H (genEnv scope cl C code builtinsNs X.env) fp pn) tg g)
    (he : ∀ (s : Shared) (H : Hp) (cl : List (Str × Addr)) (C : Addr) (code : Value) (fp : List Addr) (pn : List (Addr × Obj)), PE (gCx X s H (genEnv scope cl C code builtinsNs X.env) fp pn) elt te)
    (hs : ∀ v, genFold iter X.env v = pure v) (I : Inv X pins σ H s) (h : wi σ H fun J H1 => GxR.TabG H1 P ∧ ∀ H2, GxR.Tabbed P H1 H2 → GTurn ev g te (own.map (·.2)) σ Qx J H2)
    (hQ : ∀ (a : Addr) (gn m : Nat) (s4 s5 : Shared) (H4 : Hp) (cenv : Env) (fp : List Addr) (o : Obj), Inv X pins σ H4 s4 → (∀ b ∈ fp, FpOk X pins H4 b) → (∀ h : Heap, h.get? a = some o → h.IsGen a gn) →
      Sleeps X s4 H4 cenv fp [(a, o)] ev Qx a gn m s5 → Q' (.ref a) s5) :
    wpAny (model X.prog X.w) X.A (eval (.GeneratorExp elt [⟨tg, iter, [], 0⟩] scope gpos) X.env) Q' X.xe s := by
  have hfree : ∀ y ∈ scope.names, y.2 = .free → ∃ c, X.env.cells.lookup y.1 = some c := fun y hy e => by
    rcases ok.free y hy e with k | k
    · exact I.ok.has _ (.inl k)
    · exact I.ok.has _ (.inr k)
  refine wpAny_GeneratorExp_make gk.co (closure_ok hfree) gk.cell gk.dot ok.kind (by have := hr.dp; omega) ?_ hs
  refine thn (hi.run pins s σ H _ I h) fun xv s1 hx => thn hx fun itv s2 h2 => ?_
  obtain ⟨it, fp, tn, J, H2, e, I2, T, st2, f2, ⟨ps, hP, ht⟩, q2⟩ := h2
  subst e
  have hPs : s2.heap.get? P = some { cls := .none, data := .fields ps } := I2.hok P _ hP
  have cd : PySem.W.CodeHd s2.heap c P := TB.code.keeps I2.bk
  have nP : ∀ b ∈ fp, b ≠ P := fun b hb z => by
    have := (f2 b hb).1
    rw [z, hP] at this
    cases this
  have cont : ∀ (code : Value) (h3 : Heap) (tk : Nat) (ps' : Array Value), Heap.ExtBut P s2.heap h3 → s2.heap.objs.size ≤ h3.objs.size → h3.get? P = some { cls := .none, data := .fields ps' } → (∃ more, ps' = ps ++ more) → TriplesOk ps'.toList →
      wpAny (model X.prog X.w) X.A (builtinsFor X.env.globals X.env.builtins) (fun bi s₄ => ∀ (h' : Heap), (h'.Ns s₄.heap.objs.size fun y => if y = Str.ofString ".0" then some (.ref it) else none) → Heap.SameBut s₄.heap.objs.size (s₄.heap.push { cls := Value.type "frame", data := Data.dict #[] }) h' →
          Q' (Value.ref h'.objs.size) { heap := h'.push { cls := Value.type "generator", data := Data.fields #[Value.int (↑s₄.gens.size) 0, Value.str (Str.ofString "<genexpr>") (s₄.toks + 1), Value.str (X.env.qual ++ Str.ofString "<genexpr>") (s₄.toks + 1 + 1)] }, gens := s₄.gens.push (GenState.fresh (Code.compStart (elt.GeneratorExp [⟨tg, iter, [], 0⟩] scope gpos) 0 (.ref it) Value.none (genEnv scope (cloFrom X.env.cells scope.names []) s₄.heap.objs.size code bi X.env))), drawn := s₄.drawn, toks := s₄.toks + 1 + 1 + 1, os := s₄.os }) X.xe { s2 with heap := h3, toks := tk } := by
    intro code h3 tk ps' hx hsz hP3 hmore ht3
    obtain ⟨bm, ob, e1, e2, e3, e4, e5, e6, e7, e8⟩ := TB.bm
    have keep3 : ∀ b u, b ≠ P → s2.heap.get? b = some u → h3.get? b = some u := fun b u hb e => hx b u hb e
    refine wpAny_builtinsFor (m := X.mg) (by rw [I2.ok.glob]; exact (I2.mod.glob.keeps I2.bk).extBut hx TB.gP) e1 e2 (keep3 _ _ e4 (I2.bk _ _ e5)) e6 e7 e8 ?_
    intro h' hn' hs'
    obtain ⟨more, em⟩ := hmore
    have I4 := GxR.inv_tab (more := more) (h' := h3) (g' := s2.gens) (d' := s2.drawn) (t' := tk) I2 hP keep3 (by rw [← em]; exact hP3) I2.bare
    generalize hH4 : upd H2 P (.tbl (ps ++ more)) = H4 at I4
    have tb : GxR.Tabbed P H2 H4 := by
      rw [← hH4]
      exact ⟨⟨ps ++ more, upd_same, by rw [← em]; exact ht3⟩, fun b hb => upd_ne hb⟩
    obtain ⟨W, ⟨m0, w0⟩, turn⟩ := q2 H4 tb
    have f4 : ∀ b ∈ fp, FpOk X pins H4 b ∧ b < h3.objs.size := fun b hb => by
      obtain ⟨o, eo, _⟩ := T.obj _ _ st2 b hb
      refine ⟨⟨?_, (f2 b hb).2⟩, Nat.lt_of_lt_of_le (Heap.lt_size eo) hsz⟩
      rw [← hH4, upd_ne (nP b hb)]
      exact (f2 b hb).1
    have st3 : tn 0 h3 := T.keep _ _ _ st2 fun b hb o e => keep3 b o (nP b hb) e
    have hC : h'.objs.size = h3.objs.size + 1 := by rw [hs'.1, Heap.size_push]
    have kp' : ∀ b o, h3.get? b = some o → h'.get? b = some o := fun b o e => hs'.extBut b o (Nat.ne_of_lt (Heap.lt_size e)) (Heap.get?_push_of_some _ e)
    generalize hob : ({ cls := Value.type "generator", data := Data.fields #[Value.int (↑s2.gens.size) 0, Value.str (Str.ofString "<genexpr>") (tk + 1), Value.str (X.env.qual ++ Str.ofString "<genexpr>") (tk + 1 + 1)] } : Obj) = og
    have hbg : AllBare (s2.gens.push (GenState.fresh (Code.compStart (elt.GeneratorExp [⟨tg, iter, [], 0⟩] scope gpos) 0 (.ref it) Value.none (genEnv scope (cloFrom X.env.cells scope.names []) h3.objs.size code builtinsNs X.env)))) := AllBare.push I2.bare rfl
    generalize hcenv : genEnv scope (cloFrom X.env.cells scope.names []) h3.objs.size code builtinsNs X.env = cenv at hbg
    have goal := hQ h'.objs.size s2.gens.size (m0 + 1) { s2 with heap := h3, toks := tk }
      { heap := h'.push og, gens := s2.gens.push (GenState.fresh (Code.compStart (elt.GeneratorExp [⟨tg, iter, [], 0⟩] scope gpos) 0 (.ref it) Value.none cenv)), drawn := s2.drawn, toks := tk + 1 + 1 + 1, os := s2.os } H4 cenv fp og I4 (fun b hb => (f4 b hb).1)
      (fun h e => by subst hob; exact ⟨_, _, _, e, rfl, rfl, rfl⟩)
    show Q' (Value.ref h'.objs.size) _
    have hget : (h'.push og).get? h'.objs.size = some og := Heap.get?_push_size _ (by subst hob; rfl)
    have kp5 : ∀ b o, h3.get? b = some o → (h'.push og).get? b = some o := fun b o e => Heap.get?_push_of_some _ (kp' b o e)
    have I5 : Inv (gCx X { s2 with heap := h3, toks := tk } H4 cenv fp [(h'.objs.size, og)]) [] (wipe σ (own.map (·.2))) H4 { heap := h'.push og, gens := s2.gens.push (GenState.fresh (Code.compStart (elt.GeneratorExp [⟨tg, iter, [], 0⟩] scope gpos) 0 (.ref it) Value.none cenv)), drawn := s2.drawn, toks := tk + 1 + 1 + 1, os := s2.os } :=
      gen_begin (code := code) I4 ok hN gk.cell f4 hcenv.symm kp5 rfl hbg (hn'.push _) (by show h3.objs.size < h'.objs.size; omega) hget (fun v z => by subst hob; cases z)
    have hgoal := goal ⟨⟨og, _, _, hget, by subst hob; rfl, by subst hob; rfl, by subst hob; rfl⟩, I5.nolimit, hbg, _, Array.getElem?_push_size .., fun s'' wk => ⟨rfl, ?_⟩⟩
    · exact hgoal
    · have I6 := wk.inv I5
      have st6 : tn 0 s''.heap := by
        rw [wk.heap]
        exact T.keep _ _ _ st3 fun b _ o e => kp5 b o e
      have pg := hg { s2 with heap := h3, toks := tk } H4 (cloFrom X.env.cells scope.names []) h3.objs.size code fp [(h'.objs.size, og)]
      have pe := he { s2 with heap := h3, toks := tk } H4 (cloFrom X.env.cells scope.names []) h3.objs.size code fp [(h'.objs.size, og)]
      rw [hcenv] at pg pe
      refine seg_start T st6 (seg_loop (G0 := s2.gens.size + 1) hc (by rw [← hcenv]; exact gk.co) T pg pe (fun b hb p hp => ?_) turn m0 0 m0 H4 s'' s'' (Nat.le_refl _) w0 I6 st6 (fun b hb => (f4 b hb).1.1) ?_)
      · have hp : p = (h'.objs.size, og) := by simpa using hp
        subst hp
        show h'.objs.size ≠ b
        have h1 : b < h3.objs.size := (f4 b hb).2
        have h2 : h'.objs.size = h3.objs.size + 1 := hC
        exact Nat.ne_of_gt (by rw [h2]; exact Nat.lt_succ_of_lt h1)
      · have := wk.size
        simp only [Array.size_push] at this
        exact this
  refine ⟨I2.nolimit, ?_⟩
  cases hf : codeAmong gpos ps.toList with
  | none =>
    refine wpAny_genexprCodeX hcode (cd.code hPs ht) (cd.tab hPs) hf fun c' h' tk hx hge hlt hco' _ htab' _ => ?_
    obtain ⟨o1, vs, f1, tf, fl, tgg, inF, tx, tt, op, _, _, _, _, _, _, _, _, _, htr, _⟩ := hco'
    exact cont _ h' tk _ hx (Nat.le_trans hge (Nat.le_of_lt hlt)) htab'.2 ⟨_, rfl⟩ htr
  | some cv =>
    refine wpAny_genexprCode_hit hcode (cd.code hPs ht) hf ?_
    exact cont cv s2.heap s2.toks ps (Heap.ExtBut.refl _ _) (Nat.le_refl _) hPs ⟨#[], by simp⟩ ht

theorem back_to {s4 s' : Shared} {H4 H' : Hp} {σ' : St} {cenv : Env} {fp : List Addr} {pn : List (Addr × Obj)} (I4 : Inv X pins σ H4 s4) (f4 : ∀ b ∈ fp, FpOk X pins H4 b) (I : Inv (gCx X s4 H4 cenv fp pn) [] σ' H' s') : Inv X pins σ H' s' :=
  I4.call' (ch := fp) I.os I.base I.hok I.bare fun b hb => ⟨(f4 b hb).2.2.2.1, (f4 b hb).2.1, (f4 b hb).2.2.2.2.1, (f4 b hb).2.2.2.2.2⟩

theorem pe_allG {c P : Addr} {elt tg iter : Expr} {scope : Scope} {own : List (Str × Nat)} {p pos gpos : Pos} {wi : TI} {g : TG} {te : TE} {k : Nat}
    (hr : Room k X.A) (hgl : Gl X "all") (hm : X.mg "all" = none) (hb : bootBuiltins "all" = some (.builtin "all")) (TB : LamX.TabB X.base X.mg c P) (hcode : X.env.code = .ref c) (hc : X.calm = true) (hN : X.N.Nodup) (hi : PI X tg iter wi) (ok : BlkOk X.N X.env.scope scope own) (gk : GenK scope)
    (hg : ∀ (s : Shared) (H : Hp) (cl : List (Str × Addr)) (C : Addr) (code : Value) (fp : List Addr) (pn : List (Addr × Obj)), PG (gCx X s H (genEnv scope cl C code builtinsNs X.env) fp pn) tg g)
    (he : ∀ (s : Shared) (H : Hp) (cl : List (Str × Addr)) (C : Addr) (code : Value) (fp : List Addr) (pn : List (Addr × Obj)), PE (gCx X s H (genEnv scope cl C code builtinsNs X.env) fp pn) elt te)
    (hs : ∀ v, genFold iter X.env v = pure v := by intro _; rfl)
    (hst : starEach [.GeneratorExp elt [⟨tg, iter, [], 0⟩] scope gpos] X.env = (false, eval (.GeneratorExp elt [⟨tg, iter, [], 0⟩] scope gpos) X.env) :: starEach [] X.env := by rfl) :
    PE X (.Call (.Name "all" p) [.GeneratorExp elt [⟨tg, iter, [], 0⟩] scope gpos] [] pos) (tGen true P wi g te (own.map (·.2))) := by
  refine ⟨fun pins s σ H Q I h => ?_⟩
  refine wpAny_Call_Name_kw (ld_blt I hgl hm hb ?_)
  refine PyProof.Rows.callWith_builtin1 ?_ hst (by rfl)
  rw [hst]
  show wpAny _ _ (spliced ((false, eval (.GeneratorExp elt [⟨tg, iter, [], 0⟩] scope gpos) X.env) :: backTo pos (starEach [] X.env))) _ _ s
  refine Calls.spliced_cons (gen_make (ev := true) hr TB hcode hc hN hi ok gk hg he hs I h fun a gn m s4 s5 H4 cenv fp o I4 f4 hgen S => ?_)
  refine Calls.spliced_nil ?_
  refine call_function_tree F.kind_all F.plain_all F.entry_all (F.args_all1 _) ?_
  unfold Builtin.«all»
  refine wpAny_bind (m := oneArg "all" _) (wpAny_pure ?_)
  refine wpAny_bind (wpAny_pyIter_gen S.1 ?_)
  refine wpAny_pure ⟨plainId_quiet F.plain_all_loop _, all_loop (St := Sleeps X s4 H4 cenv fp [(a, o)] true _ a gn) (fun m s S => ?_) m s5 S⟩
  refine wpAny_mono (sleeps_next hr.hd hr.depth rfl hgen S) (fun r s' hr => ?_) fun _ _ z => z
  cases r with
  | none =>
    obtain ⟨σ', H', J, q⟩ := hr
    exact ⟨.bl true, H', back_to I4 f4 J, rfl, q⟩
  | some v =>
    obtain ⟨b, hv, hb⟩ := hr
    refine ⟨b, hv, ?_⟩
    by_cases hbt : b = true
    · rw [if_pos hbt] at hb ⊢
      exact hb
    · rw [if_neg hbt] at hb ⊢
      obtain ⟨σ', H', J, q⟩ := hb
      exact ⟨.bl b, H', back_to I4 f4 J, rfl, q⟩
theorem pe_anyG {c P : Addr} {elt tg iter : Expr} {scope : Scope} {own : List (Str × Nat)} {p pos gpos : Pos} {wi : TI} {g : TG} {te : TE} {k : Nat}
    (hr : Room k X.A) (hgl : Gl X "any") (hm : X.mg "any" = none) (hb : bootBuiltins "any" = some (.builtin "any")) (TB : LamX.TabB X.base X.mg c P) (hcode : X.env.code = .ref c) (hc : X.calm = true) (hN : X.N.Nodup) (hi : PI X tg iter wi) (ok : BlkOk X.N X.env.scope scope own) (gk : GenK scope)
    (hg : ∀ (s : Shared) (H : Hp) (cl : List (Str × Addr)) (C : Addr) (code : Value) (fp : List Addr) (pn : List (Addr × Obj)), PG (gCx X s H (genEnv scope cl C code builtinsNs X.env) fp pn) tg g)
    (he : ∀ (s : Shared) (H : Hp) (cl : List (Str × Addr)) (C : Addr) (code : Value) (fp : List Addr) (pn : List (Addr × Obj)), PE (gCx X s H (genEnv scope cl C code builtinsNs X.env) fp pn) elt te)
    (hs : ∀ v, genFold iter X.env v = pure v := by intro _; rfl)
    (hst : starEach [.GeneratorExp elt [⟨tg, iter, [], 0⟩] scope gpos] X.env = (false, eval (.GeneratorExp elt [⟨tg, iter, [], 0⟩] scope gpos) X.env) :: starEach [] X.env := by rfl) :
    PE X (.Call (.Name "any" p) [.GeneratorExp elt [⟨tg, iter, [], 0⟩] scope gpos] [] pos) (tGen false P wi g te (own.map (·.2))) := by
  refine ⟨fun pins s σ H Q I h => ?_⟩
  refine wpAny_Call_Name_kw (ld_blt I hgl hm hb ?_)
  refine PyProof.Rows.callWith_builtin1 ?_ hst (by rfl)
  rw [hst]
  show wpAny _ _ (spliced ((false, eval (.GeneratorExp elt [⟨tg, iter, [], 0⟩] scope gpos) X.env) :: backTo pos (starEach [] X.env))) _ _ s
  refine Calls.spliced_cons (gen_make (ev := false) hr TB hcode hc hN hi ok gk hg he hs I h fun a gn m s4 s5 H4 cenv fp o I4 f4 hgen S => ?_)
  refine Calls.spliced_nil ?_
  refine call_function_tree F.kind_any F.plain_any F.entry_any (F.args_any1 _) ?_
  unfold Builtin.«any»
  refine wpAny_bind (m := oneArg "any" _) (wpAny_pure ?_)
  refine wpAny_bind (wpAny_pyIter_gen S.1 ?_)
  refine wpAny_pure ⟨plainId_quiet F.plain_any_loop _, any_loop (St := Sleeps X s4 H4 cenv fp [(a, o)] false _ a gn) (fun m s S => ?_) m s5 S⟩
  refine wpAny_mono (sleeps_next hr.hd hr.depth rfl hgen S) (fun r s' hr => ?_) fun _ _ z => z
  cases r with
  | none =>
    obtain ⟨σ', H', J, q⟩ := hr
    exact ⟨.bl false, H', back_to I4 f4 J, rfl, q⟩
  | some v =>
    obtain ⟨b, hv, hb⟩ := hr
    refine ⟨b, hv, ?_⟩
    by_cases hbt : b = false
    · rw [if_pos hbt] at hb ⊢
      exact hb
    · rw [if_neg hbt] at hb ⊢
      obtain ⟨σ', H', J, q⟩ := hb
      exact ⟨.bl b, H', back_to I4 f4 J, rfl, q⟩
end
end GA
set_option Elab.async false
set_option linter.all false
set_option maxRecDepth 100000
set_option maxHeartbeats 4000000
/-! Denotations: an expression means a function from the slots' data to a datum. -/
namespace DN
open PySem PySem.Spec PyProof.Rows L2
abbrev St := L2.St

/-! ### heaps -/
/-- the heap without some addresses -/
def hide (H : Hp) (O : List Addr) : Hp := fun b => if b ∈ O then none else H b
theorem hide_some {H : Hp} {O : List Addr} {b : Addr} {o : HO} (h : hide H O b = some o) : b ∉ O ∧ H b = some o := by
  unfold hide at h
  split at h
  · cases h
  · exact ⟨by assumption, h⟩
theorem hide_of {H : Hp} {O : List Addr} {b : Addr} {o : HO} (n : b ∉ O) (h : H b = some o) : hide H O b = some o := by
  unfold hide
  rw [if_neg n]
  exact h
/-- all stays, tables may grow -/
def Xt (H H' : Hp) : Prop := ∀ b o, H b = some o → H' b = some o ∨ ∃ ps qs, o = .tbl ps ∧ H' b = some (.tbl qs)
theorem Xt.get {H H' : Hp} (x : Xt H H') : ∀ b o, H b = some o → (∀ ps, o ≠ .tbl ps) → H' b = some o := fun b o h n => (x b o h).elim id fun ⟨ps, _, e, _⟩ => absurd e (n ps)
theorem Xt.refl (H : Hp) : Xt H H := fun _ _ h => .inl h
theorem Xt.trans {H H1 H2 : Hp} (a : Xt H H1) (b : Xt H1 H2) : Xt H H2 := fun c o h => by
  rcases a c o h with e | ⟨ps, qs, e, e1⟩
  · exact b c o e
  · rcases b c _ e1 with e2 | ⟨ps', qs', _, e2⟩
    · exact .inr ⟨ps, qs, e, e2⟩
    · exact .inr ⟨ps, qs', e, e2⟩
theorem Xt.upd {H : Hp} {p : Addr} {o : HO} (h : H p = none) : Xt H (upd H p o) := fun b u e => by
  rw [upd_ne (ne_of_none e h)]
  exact .inl e
theorem Xt.there {H H' : Hp} (x : Xt H H') {b : Addr} (h : H' b = none) : H b = none := by
  cases e : H b with
  | none => rfl
  | some o =>
    rcases x b o e with q | ⟨_, _, _, q⟩ <;> rw [h] at q <;> cases q
def Tb (Ts : List Addr) (H : Hp) : Prop := ∀ P ∈ Ts, GxR.TabG H P
theorem Tb.upd {Ts : List Addr} {H : Hp} {p : Addr} {o : HO} (t : Tb Ts H) (h : ∀ ps, H p ≠ some (.tbl ps)) : Tb Ts (upd H p o) := fun P hP => by
  obtain ⟨ps, e, q⟩ := t P hP
  refine ⟨ps, ?_, q⟩
  rw [upd_ne (fun z => h ps (by rw [← z]; exact e))]
  exact e
theorem Tb.new {Ts : List Addr} {H : Hp} {p : Addr} {o : HO} (t : Tb Ts H) (h : H p = none) : Tb Ts (L2.upd H p o) := t.upd fun ps z => by rw [h] at z; cases z
theorem sqL_mono {K : PySem.W.Frag} {H H' : Hp} {a : Addr} {xs : List V} (h : ∀ o, (∀ ps, o ≠ .tbl ps) → H a = some o → H' a = some o) (s : SqL K H a xs) : SqL K H' a xs := by
  rcases s with (e | ⟨o, e⟩) | e
  · exact .inl (.inl (h _ (fun _ z => nomatch z) e))
  · exact .inl (.inr ⟨o, h _ (fun _ z => nomatch z) e⟩)
  · exact .inr e
theorem sqT_mono {K : PySem.W.Frag} {H H' : Hp} {a : Addr} {xs : List V} (h : ∀ o, (∀ ps, o ≠ .tbl ps) → H a = some o → H' a = some o) (s : SqT K H a xs) : SqT K H' a xs := by
  rcases s with (e | ⟨o, e⟩) | e
  · exact .inl (.inl (h _ (fun _ z => nomatch z) e))
  · exact .inl (.inr ⟨o, h _ (fun _ z => nomatch z) e⟩)
  · exact .inr e
mutual
theorem Dp.mono {K : PySem.W.Frag} {H H' : Hp} (x : Xt H H') : ∀ {v : V} {d : PyData}, Dp K H v d → Dp K H' v d
  | _, _, .non => .non
  | _, _, .bl b => .bl b
  | _, _, .int i => .int i
  | _, _, .str s => .str s
  | _, _, .lst s a => .lst (sqL_mono (fun o n e => x.get _ o e n) s) (DpAll.mono x a)
  | _, _, .tup s a => .tup (sqT_mono (fun o n e => x.get _ o e n) s) (DpAll.mono x a)
theorem DpAll.mono {K : PySem.W.Frag} {H H' : Hp} (x : Xt H H') : ∀ {vs : List V} {ds : List PyData}, DpAll K H vs ds → DpAll K H' vs ds
  | _, _, .nil => .nil
  | _, _, .cons h t => .cons (Dp.mono x h) (DpAll.mono x t)
end
theorem hide_mono {H H' : Hp} {O : List Addr} (x : Xt H H') : Xt (hide H O) (hide H' O) := fun b o h => by
  obtain ⟨h1, h2⟩ := hide_some h
  rcases x b o h2 with e | ⟨ps, qs, e, e1⟩
  · exact .inl (hide_of h1 e)
  · exact .inr ⟨ps, qs, e, hide_of h1 e1⟩
theorem hide_sub {H : Hp} {O O' : List Addr} (s : ∀ b ∈ O', b ∈ O) : Xt (hide H O) (hide H O') := fun b o h => by
  obtain ⟨h1, h2⟩ := hide_some h
  exact .inl (hide_of (fun z => h1 (s b z)) h2)
theorem hide_out {H : Hp} {O : List Addr} : Xt (hide H O) H := fun b o h => .inl (hide_some h).2
/-- a hidden address may change -/
theorem hide_upd {H : Hp} {O : List Addr} {a : Addr} {o : HO} (h : a ∈ O) : Xt (hide H O) (hide (upd H a o) O) := fun b u e => by
  obtain ⟨h1, h2⟩ := hide_some e
  exact .inl <| hide_of h1 (by rw [upd_ne (fun z => h1 (by rw [z]; exact h))]; exact h2)
theorem DpAll.len {K : PySem.W.Frag} {H : Hp} : ∀ {vs : List V} {ds : List PyData}, DpAll K H vs ds → vs.length = ds.length
  | _, _, .nil => rfl
  | _, _, .cons _ t => by rw [List.length_cons, List.length_cons, DpAll.len t]
theorem DpAll.get {K : PySem.W.Frag} {H : Hp} : ∀ {vs : List V} {ds : List PyData} {i : Nat} {v : V}, DpAll K H vs ds → vs[i]? = some v → ∃ d, ds[i]? = some d ∧ Dp K H v d
  | _, _, _, _, .nil, e => by simp at e
  | _, _, 0, _, .cons h _, e => by simp at e; subst e; exact ⟨_, rfl, h⟩
  | _, _, i + 1, v, .cons _ t, e => by
    obtain ⟨d, h1, h2⟩ := DpAll.get (i := i) (v := v) t (by simpa using e)
    exact ⟨d, by simpa using h1, h2⟩
theorem DpAll.get' {K : PySem.W.Frag} {H : Hp} : ∀ {vs : List V} {ds : List PyData} {i : Nat} {d : PyData}, DpAll K H vs ds → ds[i]? = some d → ∃ v, vs[i]? = some v ∧ Dp K H v d
  | _, _, _, _, .nil, e => by simp at e
  | _, _, 0, _, .cons h _, e => by simp at e; subst e; exact ⟨_, rfl, h⟩
  | _, _, i + 1, v, .cons _ t, e => by
    obtain ⟨d, h1, h2⟩ := DpAll.get' (i := i) t (by simpa using e)
    exact ⟨d, by simpa using h1, h2⟩
theorem DpAll.app {K : PySem.W.Frag} {H : Hp} : ∀ {vs ws : List V} {ds es : List PyData}, DpAll K H vs ds → DpAll K H ws es → DpAll K H (vs ++ ws) (ds ++ es)
  | _, _, _, _, .nil, s => s
  | _, _, _, _, .cons h t, s => .cons h (DpAll.app t s)
theorem DpAll.drop {K : PySem.W.Frag} {H : Hp} : ∀ {vs : List V} {ds : List PyData} (n : Nat), DpAll K H vs ds → DpAll K H (vs.drop n) (ds.drop n)
  | _, _, 0, r => r
  | _, _, _ + 1, .nil => .nil
  | _, _, n + 1, .cons _ t => DpAll.drop n t
theorem DpAll.take {K : PySem.W.Frag} {H : Hp} : ∀ {vs : List V} {ds : List PyData} (n : Nat), DpAll K H vs ds → DpAll K H (vs.take n) (ds.take n)
  | _, _, 0, _ => .nil
  | _, _, _ + 1, .nil => .nil
  | _, _, n + 1, .cons h t => .cons h (DpAll.take n t)
theorem DpAll.ints {K : PySem.W.Frag} {H : Hp} : ∀ {vs : List V} {ns : List Int}, DpAll K H vs (ns.map .int) → vs = ns.map V.int
  | _, [], .nil => rfl
  | _, n :: ns, .cons h t => by
    cases h
    rw [DpAll.ints t]
    rfl
theorem DpAll.of_ints {K : PySem.W.Frag} {H : Hp} : ∀ (ns : List Int), DpAll K H (ns.map V.int) (ns.map .int)
  | [] => .nil
  | n :: ns => .cons (.int n) (DpAll.of_ints ns)

/-! ### the slots' data -/
inductive Slot where
  | no | dat (d : PyData) | own (ds : List PyData)
abbrev En := List Slot
structure Rep (K : PySem.W.Frag) (Ts : List Addr) (He : Hp) (O : List Addr) (σ : St) (H : Hp) (en : En) : Prop where
  len : en.length = σ.length
  dat : ∀ (i : Nat) (d : PyData), en[i]? = some (Slot.dat d) → ∃ v, σ[i]? = some (some v) ∧ Dp K (hide H O) v d
  own : ∀ (i : Nat) (ds : List PyData), en[i]? = some (Slot.own ds) → ∃ a vs, σ[i]? = some (some (V.ref a)) ∧ a ∈ O ∧ He a = none ∧ H a = some (.lst vs) ∧ DpAll K (hide H O) vs ds
  inj : ∀ (i j : Nat) (ds es : List PyData) (a : Addr), en[i]? = some (Slot.own ds) → en[j]? = some (Slot.own es) → σ[i]? = some (some (V.ref a)) → σ[j]? = some (some (V.ref a)) → i = j
  occ : ∀ b ∈ O, H b ≠ none ∧ ∀ ps, H b ≠ some (.tbl ps)
  ext : Xt He H
  tabs : Tb Ts H
section
variable {K : PySem.W.Frag} {Ts : List Addr} {He : Hp} {O : List Addr} {σ : St} {H H' : Hp} {en : En}
theorem Rep.go (r : Rep K Ts He O σ H en) (x : Xt H H') (t : Tb Ts H') : Rep K Ts He O σ H' en :=
  ⟨r.len, fun i d e => let ⟨v, a, b⟩ := r.dat i d e; ⟨v, a, Dp.mono (hide_mono x) b⟩,
    fun i ds e => let ⟨a, vs, h1, h2, h3, h4, h5⟩ := r.own i ds e; ⟨a, vs, h1, h2, h3, x.get a _ h4 (fun _ z => nomatch z), DpAll.mono (hide_mono x) h5⟩,
    r.inj, fun b hb => by
      obtain ⟨h1, h2⟩ := r.occ b hb
      cases e : H b with
      | none => exact absurd e h1
      | some o =>
        have q := x.get b o e fun ps z => h2 ps (by rw [e, z])
        rw [q]
        exact ⟨by simp, fun ps z => h2 ps (by rw [e]; exact z)⟩, r.ext.trans x, t⟩
/-- one more hidden address -/
theorem Rep.hid (r : Rep K Ts He O σ H en) {D : Addr} (hD : H D = none) {o : HO} (no : ∀ ps, o ≠ .tbl ps) : Rep K Ts He (D :: O) σ (upd H D o) en := by
  have x : Xt H (upd H D o) := Xt.upd hD
  have nD : ∀ b u, H b = some u → b ≠ D := fun b u e => ne_of_none e hD
  have hx : Xt (hide H O) (hide (upd H D o) (D :: O)) := fun b u e => by
    obtain ⟨h1, h2⟩ := hide_some e
    refine .inl (hide_of (fun z => ?_) (by rw [upd_ne (nD b u h2)]; exact h2))
    rcases List.mem_cons.mp z with z | z
    · exact nD b u h2 z
    · exact h1 z
  refine ⟨r.len, fun i d e => let ⟨v, a, b⟩ := r.dat i d e; ⟨v, a, Dp.mono hx b⟩,
    fun i ds e => let ⟨a, vs, h1, h2, h3, h4, h5⟩ := r.own i ds e; ⟨a, vs, h1, List.mem_cons_of_mem _ h2, h3, x.get a _ h4 (fun _ z => nomatch z), DpAll.mono hx h5⟩,
    r.inj, fun b hb => ?_, r.ext.trans x, r.tabs.new hD⟩
  rcases List.mem_cons.mp hb with z | z
  · subst z
    rw [upd_same]
    exact ⟨by simp, fun ps z => no ps (Option.some.inj z)⟩
  · have hne : b ≠ D := fun e => (r.occ b z).1 (by rw [e]; exact hD)
    rw [upd_ne hne]
    exact r.occ b z
end

/-! ### readings -/
/-- a value -/
def tD (K : PySem.W.Frag) (Ts : List Addr) (f : En → Option PyData) : TE := fun σ H Q => ∃ He O en d, Rep K Ts He O σ H en ∧ f en = some d ∧ ∀ v H', Xt H H' → Tb Ts H' → Dp K (hide H' O) v d → Q v H'
/-- a sequence that is read and not kept -/
def DpB (K : PySem.W.Frag) (H : Hp) (O : List Addr) (v : V) (d : PyData) : Prop := Dp K (hide H O) v d ∨ ∃ a vs ds, v = .ref a ∧ d = .list ds ∧ H a = some (.lst vs) ∧ DpAll K (hide H O) vs ds
def tB (K : PySem.W.Frag) (Ts : List Addr) (f : En → Option PyData) : TE := fun σ H Q => ∃ He O en d, Rep K Ts He O σ H en ∧ f en = some d ∧ ∀ v H', Xt H H' → Tb Ts H' → DpB K H' O v d → Q v H'
/-- arguments -/
def tDs (K : PySem.W.Frag) (Ts : List Addr) (f : En → Option (List PyData)) : TA := fun σ H Q => ∃ He O en ds, Rep K Ts He O σ H en ∧ f en = some ds ∧ ∀ vs H', Xt H H' → Tb Ts H' → DpAll K (hide H' O) vs ds → Q vs H'
/-- a test -/
def tT (K : PySem.W.Frag) (Ts : List Addr) (f : En → Option Bool) : TT := fun σ H Q => ∃ He O en b, Rep K Ts He O σ H en ∧ f en = some b ∧ ∀ H', Xt H H' → Tb Ts H' → Q b H'
abbrev DE (X : Cx) (Ts : List Addr) (e : Expr) (f : En → Option PyData) : Prop := PE X e (tD X.K Ts f)
abbrev DB (X : Cx) (Ts : List Addr) (e : Expr) (f : En → Option PyData) : Prop := PE X e (tB X.K Ts f)
abbrev DA (X : Cx) (Ts : List Addr) (es : List Expr) (f : En → Option (List PyData)) : Prop := PA X es (tDs X.K Ts f)
abbrev DT (X : Cx) (Ts : List Addr) (e : Expr) (f : En → Option Bool) : Prop := PT X e (tT X.K Ts f)
abbrev DW (X : Cx) (Ts : List Addr) (e : Expr) (f : En → Option Bool) : Prop := PW X e (tT X.K Ts f)
theorem PE.imp {X : Cx} {e : Expr} {t t' : TE} (h : PE X e t) (w : ∀ σ H Q, t' σ H Q → t σ H Q) : PE X e t' := ⟨fun pins s σ H Q I q => h.run pins s σ H Q I (w σ H Q q)⟩
theorem PT.imp {X : Cx} {e : Expr} {t t' : TT} (h : PT X e t) (w : ∀ σ H Q, t' σ H Q → t σ H Q) : PT X e t' := ⟨fun pins s σ H Q I q => h.run pins s σ H Q I (w σ H Q q)⟩
theorem PW.imp {X : Cx} {e : Expr} {t t' : TT} (h : PW X e t) (w : ∀ σ H Q, t' σ H Q → t σ H Q) : PW X e t' := ⟨fun wh pins s σ H Q I q => h.run wh pins s σ H Q I (w σ H Q q)⟩
theorem PA.imp {X : Cx} {es : List Expr} {t t' : TA} (h : PA X es t) (w : ∀ σ H Q, t' σ H Q → t σ H Q) : PA X es t' := ⟨fun pos pins s σ H Q I q => h.run pos pins s σ H Q I (w σ H Q q)⟩
theorem PS.imp {X : Cx} {st : Stmt} {t t' : TS} (h : PS X st t) (w : ∀ D σ H, t' D σ H → t D σ H) : PS X st t' := ⟨fun pins s σ H D I q => h.run pins s σ H D I (w D σ H q)⟩
theorem PSs.imp {X : Cx} {st : List Stmt} {t t' : TS} (h : PSs X st t) (w : ∀ D σ H, t' D σ H → t D σ H) : PSs X st t' := ⟨fun pins s σ H D I q => h.run pins s σ H D I (w D σ H q)⟩

section
variable {K : PySem.W.Frag} {Ts : List Addr} {He : Hp} {O : List Addr} {σ : St} {H : Hp} {en : En} {f : En → Option PyData} {d : PyData}
/-- how a reading is met by one who knows the slots -/
theorem tD.of (r : Rep K Ts He O σ H en) (hf : f en = some d) {Q : VK} (h : ∀ v H', Xt H H' → Rep K Ts He O σ H' en → Dp K (hide H' O) v d → Q v H') : tD K Ts f σ H Q :=
  ⟨He, O, en, d, r, hf, fun v H' x t q => h v H' x (r.go x t) q⟩
theorem tB.of (r : Rep K Ts He O σ H en) (hf : f en = some d) {Q : VK} (h : ∀ v H', Xt H H' → Rep K Ts He O σ H' en → DpB K H' O v d → Q v H') : tB K Ts f σ H Q :=
  ⟨He, O, en, d, r, hf, fun v H' x t q => h v H' x (r.go x t) q⟩
theorem tDs.of {f : En → Option (List PyData)} {ds : List PyData} (r : Rep K Ts He O σ H en) (hf : f en = some ds) {Q : List V → Hp → Prop} (h : ∀ v H', Xt H H' → Rep K Ts He O σ H' en → DpAll K (hide H' O) v ds → Q v H') : tDs K Ts f σ H Q :=
  ⟨He, O, en, ds, r, hf, fun v H' x t q => h v H' x (r.go x t) q⟩
theorem tT.of {f : En → Option Bool} {b : Bool} (r : Rep K Ts He O σ H en) (hf : f en = some b) {Q : Bool → Hp → Prop} (h : ∀ H', Xt H H' → Rep K Ts He O σ H' en → Q b H') : tT K Ts f σ H Q :=
  ⟨He, O, en, b, r, hf, fun H' x t => h H' x (r.go x t)⟩
end

/-! ### names, constants -/
def fVar (i : Nat) : En → Option PyData := fun en => match en[i]? with
  | some (Slot.dat d) => some d
  | _ => none
def fOwn (i : Nat) : En → Option PyData := fun en => match en[i]? with
  | some (Slot.own ds) => some (.list ds)
  | some (Slot.dat d) => some d
  | _ => none
def fLit (d : PyData) : En → Option PyData := fun _ => some d
section
variable {X : Cx} {Ts : List Addr} {pos : Pos}
theorem d_var (i : Nat) {x : Str} (hN : X.N[i]? = some x := by rfl) (hv : Vis X.env.scope x := by first | exact Or.inl rfl | exact Or.inr (Or.inl rfl) | exact Or.inr (Or.inr rfl)) (hd : (x == ("__debug__" : Str)) = false := by decide)
    (hcd : (x == ("__classdict__" : Str)) = false := by decide) : DE X Ts (.Name x pos) (fVar i) := PE.imp (pe_var hN hv hd hcd) fun σ H Q ⟨He, O, en, d, r, hf, k⟩ => by
  unfold fVar at hf
  split at hf
  · rename_i d' e
    cases hf
    obtain ⟨v, h1, h2⟩ := r.dat i _ e
    exact ⟨v, h1, k v H (Xt.refl H) r.tabs h2⟩
  · cases hf
/-- a list of the def's own that is read and not kept -/
theorem b_own (i : Nat) {x : Str} (hN : X.N[i]? = some x := by rfl) (hv : Vis X.env.scope x := by first | exact Or.inl rfl | exact Or.inr (Or.inl rfl) | exact Or.inr (Or.inr rfl)) (hd : (x == ("__debug__" : Str)) = false := by decide)
    (hcd : (x == ("__classdict__" : Str)) = false := by decide) : DB X Ts (.Name x pos) (fOwn i) := PE.imp (pe_var hN hv hd hcd) fun σ H Q ⟨He, O, en, d, r, hf, k⟩ => by
  unfold fOwn at hf
  split at hf
  · rename_i ds e
    cases hf
    obtain ⟨a, vs, h1, h2, h3, h4, h5⟩ := r.own i _ e
    exact ⟨.ref a, h1, k _ H (Xt.refl H) r.tabs (.inr ⟨a, vs, ds, rfl, rfl, h4, h5⟩)⟩
  · rename_i d' e
    cases hf
    obtain ⟨v, h1, h2⟩ := r.dat i _ e
    exact ⟨v, h1, k v H (Xt.refl H) r.tabs (.inl h2)⟩
  · cases hf
theorem d_b {e : Expr} {f : En → Option PyData} (h : DE X Ts e f) : DB X Ts e f := PE.imp h fun σ H Q ⟨He, O, en, d, r, hf, k⟩ => ⟨He, O, en, d, r, hf, fun v H' x t q => k v H' x t (.inl q)⟩
theorem d_int {i j} : DE X Ts (.Constant (.int i) j pos) (fLit (.int i)) := PE.imp pe_int fun σ H Q ⟨He, O, en, d, r, hf, k⟩ => by cases hf; exact k _ H (Xt.refl H) r.tabs (.int i)
theorem d_bl {b j} : DE X Ts (.Constant (.bool b) j pos) (fLit (.bool b)) := PE.imp pe_bl fun σ H Q ⟨He, O, en, d, r, hf, k⟩ => by cases hf; exact k _ H (Xt.refl H) r.tabs (.bl b)
theorem d_non {j} : DE X Ts (.Constant .none j pos) (fLit .none) := PE.imp pe_non fun σ H Q ⟨He, O, en, d, r, hf, k⟩ => by cases hf; exact k _ H (Xt.refl H) r.tabs .non
theorem d_str {x j} : DE X Ts (.Constant (.str x) j pos) (fLit (.str x)) := PE.imp pe_str fun σ H Q ⟨He, O, en, d, r, hf, k⟩ => by cases hf; exact k _ H (Xt.refl H) r.tabs (.str x)
/-- a module's constant -/
theorem d_glob {x : Str} {i : Int} {t : Tok} (hg : Gl X x) (hm : X.mg x = some (.int i t)) (hd : (x == ("__debug__" : Str)) = false := by decide) : DE X Ts (.Name x pos) (fLit (.int i)) :=
  PE.imp (pe_glob (v := .int i) hg hm ⟨t, rfl⟩ hd) fun σ H Q ⟨He, O, en, d, r, hf, k⟩ => by cases hf; exact k _ H (Xt.refl H) r.tabs (.int i)
end

/-! ### numbers -/
def f2 (g : PyData → PyData → Option PyData) (f1 f2 : En → Option PyData) : En → Option PyData := fun en => (f1 en).bind fun x => (f2 en).bind fun y => g x y
def f1 (g : PyData → Option PyData) (f : En → Option PyData) : En → Option PyData := fun en => (f en).bind g
def gI (g : Int → Int → PyData) : PyData → PyData → Option PyData
  | .int i, .int j => some (g i j)
  | _, _ => none
def gIc (c : Int → Int → Bool) (g : Int → Int → PyData) : PyData → PyData → Option PyData
  | .int i, .int j => if c i j = true then some (g i j) else none
  | _, _ => none
section
variable {X : Cx} {Ts : List Addr} {pos : Pos} {a b : Expr} {fa fb : En → Option PyData}
theorem f2_some {g : PyData → PyData → Option PyData} {p q : En → Option PyData} {en : En} {d : PyData} (h : f2 g p q en = some d) : ∃ x y, p en = some x ∧ q en = some y ∧ g x y = some d := by
  unfold f2 at h
  obtain ⟨x, h1, h⟩ := Option.bind_eq_some_iff.mp h
  obtain ⟨y, h2, h⟩ := Option.bind_eq_some_iff.mp h
  exact ⟨x, y, h1, h2, h⟩
theorem f1_some {g : PyData → Option PyData} {p : En → Option PyData} {en : En} {d : PyData} (h : f1 g p en = some d) : ∃ x, p en = some x ∧ g x = some d := Option.bind_eq_some_iff.mp h
/-- two values, by what is known of them -/
theorem w_2 {r : R2} {g : PyData → PyData → Option PyData} {K : PySem.W.Frag}
    (k : ∀ x y v w d H O Q, g x y = some d → Dp K (hide H O) v x → Dp K (hide H O) w y → Tb Ts H → (∀ b ∈ O, H b ≠ none) → (∀ u H', Xt H H' → Tb Ts H' → Dp K (hide H' O) u d → Q u H') → r v w H Q) :
    ∀ σ H Q, tD K Ts (f2 g fa fb) σ H Q → tOp r (tD K Ts fa) (tD K Ts fb) σ H Q :=
  fun σ H Q ⟨He, O, en, d, rp, hf, kk⟩ => by
    obtain ⟨x, y, h1, h2, hg⟩ := f2_some hf
    refine tD.of rp h1 fun v H1 x1 r1 q1 => tD.of r1 h2 fun w H2 x2 r2 q2 => ?_
    exact k x y v w d H2 O Q hg (Dp.mono (hide_mono x2) q1) q2 r2.tabs (fun b hb => (r2.occ b hb).1) fun u H' x3 t3 q3 => kk u H' (x1.trans (x2.trans x3)) t3 q3
theorem w_i {C : Int → Int → Prop} {c : Int → Int → Bool} {g : Int → Int → PyData} {gv : Int → Int → V} {K : PySem.W.Frag} (hC : ∀ i j, c i j = true → C i j) (hv : ∀ i j K H, Dp K H (gv i j) (g i j)) :
    ∀ σ H Q, tD K Ts (f2 (gIc c g) fa fb) σ H Q → tOp (rI C gv) (tD K Ts fa) (tD K Ts fb) σ H Q :=
  w_2 fun x y v w d H O Q hg q1 q2 ht _ kk => by
    cases q1 <;> cases q2 <;> simp only [gIc] at hg <;> try cases hg
    rename_i i j
    split at hg
    · rename_i hc
      cases hg
      exact ⟨i, j, rfl, rfl, hC i j hc, kk _ H (Xt.refl H) ht (hv ..)⟩
    · cases hg
theorem w_i0 {g : Int → Int → PyData} {gv : Int → Int → V} {K : PySem.W.Frag} (hv : ∀ i j K H, Dp K H (gv i j) (g i j)) :
    ∀ σ H Q, tD K Ts (f2 (gI g) fa fb) σ H Q → tOp (rI0 gv) (tD K Ts fa) (tD K Ts fb) σ H Q :=
  w_2 fun x y v w d H O Q hg q1 q2 ht _ kk => by
    cases q1 <;> cases q2 <;> simp only [gI] at hg <;> try cases hg
    rename_i i j
    exact ⟨i, j, rfl, rfl, kk _ H (Xt.refl H) ht (hv ..)⟩
theorem d_i {e : Expr} {C : Int → Int → Prop} {c : Int → Int → Bool} {g : Int → Int → PyData} {gv : Int → Int → V} (hC : ∀ i j, c i j = true → C i j) (hv : ∀ i j K H, Dp K H (gv i j) (g i j))
    (h : PE X e (tOp (rI C gv) (tD X.K Ts fa) (tD X.K Ts fb))) : DE X Ts e (f2 (gIc c g) fa fb) := PE.imp h (w_i hC hv)
theorem d_i0 {e : Expr} {g : Int → Int → PyData} {gv : Int → Int → V} (hv : ∀ i j K H, Dp K H (gv i j) (g i j)) (h : PE X e (tOp (rI0 gv) (tD X.K Ts fa) (tD X.K Ts fb))) : DE X Ts e (f2 (gI g) fa fb) := PE.imp h (w_i0 hv)
def fAdd := f2 (gI fun i j => .int (i + j))
def fSub := f2 (gI fun i j => .int (i - j))
theorem d_add (ha : DE X Ts a fa) (hb : DE X Ts b fb) : DE X Ts (.BinOp a .Add b pos) (fAdd fa fb) := d_i0 (fun _ _ _ _ => .int _) (pe_op op_add ha hb)
theorem d_sub (ha : DE X Ts a fa) (hb : DE X Ts b fb) : DE X Ts (.BinOp a .Sub b pos) (fSub fa fb) := d_i0 (fun _ _ _ _ => .int _) (pe_op op_sub ha hb)
/-- products: together below a million bits -/
def cMul (i j : Int) : Bool := decide (i.natAbs.log2 + j.natAbs.log2 < 1000000)
def fMul := f2 (gIc cMul fun i j => .int (i * j))
theorem d_mul (ha : DE X Ts a fa) (hb : DE X Ts b fb) : DE X Ts (.BinOp a .Mult b pos) (fMul fa fb) := d_i (fun i j h => show CMulW i j from @of_decide_eq_true (i.natAbs.log2 + j.natAbs.log2 < 1000000) _ h) (fun _ _ _ _ => .int _) (pe_op op_mulW ha hb)
def cDiv (_ j : Int) : Bool := decide (0 < j ∧ j.natAbs.log2 < 9000)
def fDiv := f2 (gIc cDiv fun i j => .int (i / j))
theorem d_div (ha : DE X Ts a fa) (hb : DE X Ts b fb) : DE X Ts (.BinOp a .FloorDiv b pos) (fDiv fa fb) := d_i (fun i j h => show CDivW i j from @of_decide_eq_true (0 < j ∧ j.natAbs.log2 < 9000) _ h) (fun _ _ _ _ => .int _) (pe_op op_fdivW ha hb)
def cMod (_ j : Int) : Bool := decide (j ≠ 0)
def fMod := f2 (gIc cMod fun i j => .int (i.fmod j))
theorem d_mod (ha : DE X Ts a fa) (hb : DE X Ts b fb) : DE X Ts (.BinOp a .Mod b pos) (fMod fa fb) := d_i (fun i j h => of_decide_eq_true (show decide (j ≠ 0) = true from h)) (fun _ _ _ _ => .int _) (pe_op op_modN ha hb)
def gNeg : PyData → Option PyData
  | .int i => some (.int (-i))
  | _ => none
def fNeg := f1 gNeg
theorem d_neg (ha : DE X Ts a fa) : DE X Ts (.UnaryOp .USub a pos) (fNeg fa) := PE.imp (pe_un un_neg ha) fun σ H Q ⟨He, O, en, d, r, hf, k⟩ => by
  obtain ⟨x, h1, h2⟩ := f1_some hf
  refine tD.of r h1 fun v H1 x1 r1 q1 => ?_
  cases q1 <;> simp only [gNeg] at h2 <;> try cases h2
  exact ⟨_, rfl, k _ H1 x1 r1.tabs (.int _)⟩
/-! comparisons -/
def fLt := f2 (gI fun i j => .bool (decide (i < j)))
def fLe := f2 (gI fun i j => .bool (decide (i ≤ j)))
def fGt := f2 (gI fun i j => .bool (decide (j < i)))
def fGe := f2 (gI fun i j => .bool (decide (j ≤ i)))
theorem d_lt (ha : DE X Ts a fa) (hb : DE X Ts b fb) : DE X Ts (.Compare a [.Lt] [b] pos) (fLt fa fb) := d_i0 (fun _ _ _ _ => .bl _) (pe_cmpR op_lt ha hb (nomark _))
theorem d_le (ha : DE X Ts a fa) (hb : DE X Ts b fb) : DE X Ts (.Compare a [.LtE] [b] pos) (fLe fa fb) := d_i0 (fun _ _ _ _ => .bl _) (pe_cmpR op_le ha hb (nomark _))
theorem d_gt (ha : DE X Ts a fa) (hb : DE X Ts b fb) : DE X Ts (.Compare a [.Gt] [b] pos) (fGt fa fb) := d_i0 (fun _ _ _ _ => .bl _) (pe_cmpR op_gt ha hb (nomark _))
theorem d_ge (ha : DE X Ts a fa) (hb : DE X Ts b fb) : DE X Ts (.Compare a [.GtE] [b] pos) (fGe fa fb) := d_i0 (fun _ _ _ _ => .bl _) (pe_cmpR op_ge ha hb (nomark _))
/-! equality, None -/
def gEq : PyData → PyData → Option PyData := fun x y => if (SeqAt.shaped x && SeqAt.shaped y) = true then some (.bool (PyData.eqv x y)) else none
def gNe : PyData → PyData → Option PyData := fun x y => if (SeqAt.shaped x && SeqAt.shaped y) = true then some (.bool (!PyData.eqv x y)) else none
def fEq := f2 gEq
def fNe := f2 gNe
theorem w_eq {K : PySem.W.Frag} : ∀ σ H Q, tD K Ts (fEq fa fb) σ H Q → tOp (rEqD K) (tD K Ts fa) (tD K Ts fb) σ H Q :=
  w_2 fun x y v w d H O Q hg q1 q2 ht _ kk => by
    unfold gEq at hg
    split at hg
    · rename_i hs
      rw [Bool.and_eq_true] at hs
      cases hg
      exact ⟨x, y, Dp.mono hide_out q1, Dp.mono hide_out q2, hs.1, hs.2, kk _ H (Xt.refl H) ht (.bl _)⟩
    · cases hg
theorem w_ne {K : PySem.W.Frag} : ∀ σ H Q, tD K Ts (fNe fa fb) σ H Q → tOp (rNeD K) (tD K Ts fa) (tD K Ts fb) σ H Q :=
  w_2 fun x y v w d H O Q hg q1 q2 ht _ kk => by
    unfold gNe at hg
    split at hg
    · rename_i hs
      rw [Bool.and_eq_true] at hs
      cases hg
      exact ⟨x, y, Dp.mono hide_out q1, Dp.mono hide_out q2, hs.1, hs.2, kk _ H (Xt.refl H) ht (.bl _)⟩
    · cases hg
theorem d_eq {k : Nat} (hr : Room k X.A) (ha : DE X Ts a fa) (hb : DE X Ts b fb) : DE X Ts (.Compare a [.Eq] [b] pos) (fEq fa fb) := PE.imp (pe_cmpR (op_eqD hr.units) ha hb (nomark _)) w_eq
theorem d_ne {k : Nat} (hr : Room k X.A) (ha : DE X Ts a fa) (hb : DE X Ts b fb) : DE X Ts (.Compare a [.NotEq] [b] pos) (fNe fa fb) := PE.imp (pe_cmpR (op_neD hr.units) ha hb (nomark _)) w_ne
def isNone : PyData → Bool
  | .none => true
  | _ => false
theorem isNone_of {K : PySem.W.Frag} {H : Hp} {v : V} {d : PyData} (h : Dp K H v d) : decide (v = .non) = isNone d := by
  cases h <;> rfl
def gIsN : PyData → PyData → Option PyData := fun x y => if isNone y = true then some (.bool (isNone x)) else none
def gNotN : PyData → PyData → Option PyData := fun x y => if isNone y = true then some (.bool (!isNone x)) else none
def fIsN := f2 gIsN
def fNotN := f2 gNotN
theorem non_of {K : PySem.W.Frag} {H : Hp} {v : V} {d : PyData} (h : Dp K H v d) (e : isNone d = true) : v = .non := by
  cases h <;> first | rfl | cases e
theorem w_isN {K : PySem.W.Frag} : ∀ σ H Q, tD K Ts (fIsN fa fb) σ H Q → tOp (fun x y H Q => y = .non ∧ Q (.bl (decide (x = .non))) H) (tD K Ts fa) (tD K Ts fb) σ H Q :=
  w_2 fun x y v w d H O Q hg q1 q2 ht _ kk => by
    unfold gIsN at hg
    split at hg
    · rename_i hs
      cases hg
      refine ⟨non_of q2 hs, ?_⟩
      rw [isNone_of q1]
      exact kk _ H (Xt.refl H) ht (.bl _)
    · cases hg
theorem w_notN {K : PySem.W.Frag} : ∀ σ H Q, tD K Ts (fNotN fa fb) σ H Q → tOp (fun x y H Q => y = .non ∧ Q (.bl (!decide (x = .non))) H) (tD K Ts fa) (tD K Ts fb) σ H Q :=
  w_2 fun x y v w d H O Q hg q1 q2 ht _ kk => by
    unfold gNotN at hg
    split at hg
    · rename_i hs
      cases hg
      refine ⟨non_of q2 hs, ?_⟩
      rw [isNone_of q1]
      exact kk _ H (Xt.refl H) ht (.bl _)
    · cases hg
theorem d_isN (ha : DE X Ts a fa) (hb : DE X Ts b fb) : DE X Ts (.Compare a [.Is] [b] pos) (fIsN fa fb) := PE.imp (pe_cmpR op_isN ha hb (nomark _)) w_isN
theorem d_notN (ha : DE X Ts a fa) (hb : DE X Ts b fb) : DE X Ts (.Compare a [.IsNot] [b] pos) (fNotN fa fb) := PE.imp (pe_cmpR op_notN ha hb (nomark _)) w_notN

/-! ### tests -/
def fT (f : En → Option PyData) : En → Option Bool := fun en => match f en with
  | some (.bool b) => some b
  | _ => none
theorem fT_some {f : En → Option PyData} {en : En} {b : Bool} (h : fT f en = some b) : f en = some (.bool b) := by
  unfold fT at h
  split at h
  · rename_i e
    cases h
    exact e
  · cases h
theorem dt_of {e : Expr} {t : TE} {f : En → Option PyData} (h : PT X e (tTest t)) (w : ∀ σ H Q, tD X.K Ts f σ H Q → t σ H Q) : DT X Ts e (fT f) := PT.imp h fun σ H Q ⟨He, O, en, b, r, hf, k⟩ =>
  w σ H _ ⟨He, O, en, .bool b, r, fT_some hf, fun v H' x t q => by cases q; exact ⟨b, rfl, k H' x t⟩⟩
theorem dt_val {e : Expr} {f : En → Option PyData} (h : DE X Ts e f) (he : ∀ whole, isTrue e X.env whole = (do let v ← whole; standAt e.pos; holding [v] (truthy v)) := by intro _; rfl) : DT X Ts e (fT f) :=
  PT.imp (pt_val h he) fun σ H Q ⟨He, O, en, b, r, hf, k⟩ => ⟨He, O, en, .bool b, r, fT_some hf, fun v H' x t q => by cases q; exact ⟨b, rfl, k H' x t⟩⟩
theorem dt_lt (ha : DE X Ts a fa) (hb : DE X Ts b fb) : DT X Ts (.Compare a [.Lt] [b] pos) (fT (fLt fa fb)) := dt_of (pt_cmpR op_lt ha hb (nomark _)) (w_i0 fun _ _ _ _ => .bl _)
theorem dt_le (ha : DE X Ts a fa) (hb : DE X Ts b fb) : DT X Ts (.Compare a [.LtE] [b] pos) (fT (fLe fa fb)) := dt_of (pt_cmpR op_le ha hb (nomark _)) (w_i0 fun _ _ _ _ => .bl _)
theorem dt_gt (ha : DE X Ts a fa) (hb : DE X Ts b fb) : DT X Ts (.Compare a [.Gt] [b] pos) (fT (fGt fa fb)) := dt_of (pt_cmpR op_gt ha hb (nomark _)) (w_i0 fun _ _ _ _ => .bl _)
theorem dt_ge (ha : DE X Ts a fa) (hb : DE X Ts b fb) : DT X Ts (.Compare a [.GtE] [b] pos) (fT (fGe fa fb)) := dt_of (pt_cmpR op_ge ha hb (nomark _)) (w_i0 fun _ _ _ _ => .bl _)
theorem dt_eq {k : Nat} (hr : Room k X.A) (ha : DE X Ts a fa) (hb : DE X Ts b fb) : DT X Ts (.Compare a [.Eq] [b] pos) (fT (fEq fa fb)) := dt_of (pt_cmpR (op_eqD hr.units) ha hb (nomark _)) w_eq
theorem dt_ne {k : Nat} (hr : Room k X.A) (ha : DE X Ts a fa) (hb : DE X Ts b fb) : DT X Ts (.Compare a [.NotEq] [b] pos) (fT (fNe fa fb)) := dt_of (pt_cmpR (op_neD hr.units) ha hb (nomark _)) w_ne
theorem dt_isN (ha : DE X Ts a fa) (hb : DE X Ts b fb) : DT X Ts (.Compare a [.Is] [b] pos) (fT (fIsN fa fb)) := dt_of (pt_cmpR op_isN ha hb (nomark _)) w_isN
theorem dt_notN (ha : DE X Ts a fa) (hb : DE X Ts b fb) : DT X Ts (.Compare a [.IsNot] [b] pos) (fT (fNotN fa fb)) := dt_of (pt_cmpR op_notN ha hb (nomark _)) w_notN
/-! a <= b <= c -/
def fChain (g1 g2 : PyData → PyData → Option PyData) (fa fb fc : En → Option PyData) : En → Option PyData := fun en => (fa en).bind fun x => (fb en).bind fun y => (g1 x y).bind fun z => match z with
  | .bool true => (fc en).bind fun w => g2 y w
  | .bool false => some (.bool false)
  | _ => none
def gLe := gI fun i j => .bool (decide (i ≤ j))
def gLt := gI fun i j => .bool (decide (i < j))
theorem w_chain {g1 g2 : Int → Int → Bool} {c : Expr} {fc : En → Option PyData} {K : PySem.W.Frag} : ∀ σ H Q, tD K Ts (fChain (gI fun i j => .bool (g1 i j)) (gI fun i j => .bool (g2 i j)) fa fb fc) σ H Q →
    tChain (rI0 fun i j => .bl (g1 i j)) (rI0 fun i j => .bl (g2 i j)) (tD K Ts fa) (tD K Ts fb) (tD K Ts fc) σ H Q := fun σ H Q ⟨He, O, en, d, rp, hf, kk⟩ => by
  unfold fChain at hf
  obtain ⟨x, h1, hf1⟩ := Option.bind_eq_some_iff.mp hf
  obtain ⟨y, h2, hf2⟩ := Option.bind_eq_some_iff.mp hf1
  obtain ⟨z, h3, hf3⟩ := Option.bind_eq_some_iff.mp hf2
  clear hf hf1 hf2
  refine tD.of rp h1 fun v H1 x1 r1 q1 => tD.of r1 h2 fun w H2 x2 r2 q2 => ?_
  obtain ⟨i, j, rfl, rfl, rfl⟩ : ∃ i j, x = .int i ∧ y = .int j ∧ z = .bool (g1 i j) := by
    cases x <;> cases y <;> simp only [gI] at h3 <;> first | (cases h3; exact ⟨_, _, rfl, rfl, rfl⟩) | cases h3
  cases q1
  cases q2
  have hf := hf3
  refine ⟨i, j, rfl, rfl, g1 i j, rfl, ?_⟩
  cases hg : g1 i j with
  | true =>
    rw [hg] at hf
    obtain ⟨u, h4, hf⟩ := Option.bind_eq_some_iff.mp hf
    refine iteT (tD.of r2 h4 fun w' H3 x3 r3 q3 => ?_)
    cases q3 <;> simp only [gI] at hf <;> try cases hf
    exact ⟨_, _, rfl, rfl, kk _ H3 (x1.trans (x2.trans x3)) r3.tabs (.bl _)⟩
  | false =>
    rw [hg] at hf
    cases hf
    exact iteF (kk _ H2 (x1.trans x2) r2.tabs (.bl _))
theorem d_lele {c : Expr} {fc : En → Option PyData} (ha : DE X Ts a fa) (hb : DE X Ts b fb) (hc : DE X Ts c fc) (hm : lastMarks [.LtE, .LtE] [b, c] = false := by with_unfolding_all rfl) :
    DE X Ts (.Compare a [.LtE, .LtE] [b, c] pos) (fChain gLe gLe fa fb fc) := PE.imp (pe_chain op_le op_le ha hb hc hm) (w_chain (c := c))
theorem dt_lele {c : Expr} {fc : En → Option PyData} (ha : DE X Ts a fa) (hb : DE X Ts b fb) (hc : DE X Ts c fc) (hm : lastMarks [.LtE, .LtE] [b, c] = false := by with_unfolding_all rfl) :
    DT X Ts (.Compare a [.LtE, .LtE] [b, c] pos) (fT (fChain gLe gLe fa fb fc)) := dt_of (pt_chain op_le op_le ha hb hc hm) (w_chain (c := c))
/-! and, or, not; a if t else b -/
def fAnd (f g : En → Option PyData) : En → Option PyData := fun en => match f en with
  | some (.bool true) => g en
  | some (.bool false) => some (.bool false)
  | _ => none
def fOr (f g : En → Option PyData) : En → Option PyData := fun en => match f en with
  | some (.bool true) => some (.bool true)
  | some (.bool false) => g en
  | _ => none
def fNot (f : En → Option PyData) : En → Option PyData := fun en => match f en with
  | some (.bool b) => some (.bool (!b))
  | _ => none
variable {rest : List Expr}
theorem d_one {op} {f : En → Option PyData} (h : DE X Ts a f) : DE X Ts (.BoolOp op [a] pos) f := pe_one h
theorem d_and {ga : En → Option PyData} (ha : DE X Ts a fa) (hb : DE X Ts (.BoolOp .And (b :: rest) pos) ga) : DE X Ts (.BoolOp .And (a :: b :: rest) pos) (fAnd fa ga) := PE.imp (pe_and ha hb) fun σ H Q ⟨He, O, en, d, rp, hf, kk⟩ => by
  unfold fAnd at hf
  split at hf
  · rename_i e
    exact tD.of rp e fun v H1 x1 r1 q1 => by cases q1; exact ⟨true, rfl, iteT (tD.of r1 hf fun w H2 x2 r2 q2 => kk w H2 (x1.trans x2) r2.tabs q2)⟩
  · rename_i e
    cases hf
    exact tD.of rp e fun v H1 x1 r1 q1 => by cases q1; exact ⟨false, rfl, iteF (kk _ H1 x1 r1.tabs (.bl _))⟩
  · cases hf
theorem d_or {ga : En → Option PyData} (ha : DE X Ts a fa) (hb : DE X Ts (.BoolOp .Or (b :: rest) pos) ga) : DE X Ts (.BoolOp .Or (a :: b :: rest) pos) (fOr fa ga) := PE.imp (pe_or ha hb) fun σ H Q ⟨He, O, en, d, rp, hf, kk⟩ => by
  unfold fOr at hf
  split at hf
  · rename_i e
    cases hf
    exact tD.of rp e fun v H1 x1 r1 q1 => by cases q1; exact ⟨true, rfl, iteT (kk _ H1 x1 r1.tabs (.bl _))⟩
  · rename_i e
    exact tD.of rp e fun v H1 x1 r1 q1 => by cases q1; exact ⟨false, rfl, iteF (tD.of r1 hf fun w H2 x2 r2 q2 => kk w H2 (x1.trans x2) r2.tabs q2)⟩
  · cases hf
theorem d_not (ha : DE X Ts a fa) : DE X Ts (.UnaryOp .Not a pos) (fNot fa) := PE.imp (pe_not ha) fun σ H Q ⟨He, O, en, d, rp, hf, kk⟩ => by
  unfold fNot at hf
  split at hf
  · rename_i b e
    cases hf
    exact tD.of rp e fun v H1 x1 r1 q1 => by cases q1; exact ⟨b, rfl, kk _ H1 x1 r1.tabs (.bl _)⟩
  · cases hf
def kAnd (f g : En → Option Bool) : En → Option Bool := fun en => match f en with
  | some true => g en
  | some false => some false
  | none => none
def kOr (f g : En → Option Bool) : En → Option Bool := fun en => match f en with
  | some true => some true
  | some false => g en
  | none => none
def kNot (f : En → Option Bool) : En → Option Bool := fun en => (f en).map (!·)
variable {ta tb : En → Option Bool}
theorem dw_and1 (ha : DT X Ts a ta) : DW X Ts (.BoolOp .And [a] pos) ta := pw_and1 ha
theorem dw_or1 (ha : DT X Ts a ta) : DW X Ts (.BoolOp .Or [a] pos) ta := pw_or1 ha
theorem dw_and (ha : DT X Ts a ta) (hb : DW X Ts (.BoolOp .And (b :: rest) pos) tb) : DW X Ts (.BoolOp .And (a :: b :: rest) pos) (kAnd ta tb) := PW.imp (pw_and ha hb) fun σ H Q ⟨He, O, en, d, rp, hf, kk⟩ => by
  unfold kAnd at hf
  split at hf
  · rename_i e
    exact tT.of rp e fun H1 x1 r1 => iteT (tT.of r1 hf fun H2 x2 r2 => kk H2 (x1.trans x2) r2.tabs)
  · rename_i e
    cases hf
    exact tT.of rp e fun H1 x1 r1 => iteF (kk H1 x1 r1.tabs)
  · cases hf
theorem dw_or (ha : DT X Ts a ta) (hb : DW X Ts (.BoolOp .Or (b :: rest) pos) tb) : DW X Ts (.BoolOp .Or (a :: b :: rest) pos) (kOr ta tb) := PW.imp (pw_or ha hb) fun σ H Q ⟨He, O, en, d, rp, hf, kk⟩ => by
  unfold kOr at hf
  split at hf
  · rename_i e
    cases hf
    exact tT.of rp e fun H1 x1 r1 => iteT (kk H1 x1 r1.tabs)
  · rename_i e
    exact tT.of rp e fun H1 x1 r1 => iteF (tT.of r1 hf fun H2 x2 r2 => kk H2 (x1.trans x2) r2.tabs)
  · cases hf
theorem dt_w {e : Expr} (h : DW X Ts e ta) : DT X Ts e ta := h.pt
theorem dt_not (ha : DT X Ts a ta) : DT X Ts (.UnaryOp .Not a pos) (kNot ta) := PT.imp (pt_not ha) fun σ H Q ⟨He, O, en, d, rp, hf, kk⟩ => by
  unfold kNot at hf
  obtain ⟨b, h1, h2⟩ := Option.map_eq_some_iff.mp hf
  subst h2
  exact tT.of rp h1 fun H1 x1 r1 => kk H1 x1 r1.tabs
def fIf (t : En → Option Bool) (f g : En → Option PyData) : En → Option PyData := fun en => match t en with
  | some true => f en
  | some false => g en
  | none => none
theorem d_if {c : Expr} (hc : DT X Ts c ta) (ha : DE X Ts a fa) (hb : DE X Ts b fb) : DE X Ts (.IfExp c a b pos) (fIf ta fa fb) := PE.imp (pe_ifExp hc ha hb) fun σ H Q ⟨He, O, en, d, rp, hf, kk⟩ => by
  unfold fIf at hf
  split at hf
  · rename_i e
    exact tT.of rp e fun H1 x1 r1 => iteT (tD.of r1 hf fun w H2 x2 r2 q2 => kk w H2 (x1.trans x2) r2.tabs q2)
  · rename_i e
    exact tT.of rp e fun H1 x1 r1 => iteF (tD.of r1 hf fun w H2 x2 r2 q2 => kk w H2 (x1.trans x2) r2.tabs q2)
  · cases hf
end
end DN
set_option Elab.async false
set_option linter.all false
set_option maxRecDepth 100000
set_option maxHeartbeats 4000000
namespace DN
open PySem PySem.Spec PyProof.Rows L2

/-! ### argument lists, displays -/
def fNil : En → Option (List PyData) := fun _ => some []
def fCons (f : En → Option PyData) (g : En → Option (List PyData)) : En → Option (List PyData) := fun en => (f en).bind fun x => (g en).bind fun xs => some (x :: xs)
section
variable {X : Cx} {Ts : List Addr} {pos : Pos} {e : Expr} {es : List Expr} {f : En → Option PyData} {g : En → Option (List PyData)}
theorem da_nil : DA X Ts [] fNil := PA.imp pa_nil fun σ H Q ⟨He, O, en, ds, rp, hf, kk⟩ => by
  cases hf
  exact kk [] H (Xt.refl H) rp.tabs .nil
theorem fCons_some {en : En} {ds : List PyData} (h : fCons f g en = some ds) : ∃ x xs, f en = some x ∧ g en = some xs ∧ ds = x :: xs := by
  unfold fCons at h
  obtain ⟨x, h1, h⟩ := Option.bind_eq_some_iff.mp h
  obtain ⟨y, h2, h⟩ := Option.bind_eq_some_iff.mp h
  cases h
  exact ⟨x, y, h1, h2, rfl⟩
theorem da_cons (ha : DE X Ts e f) (hr : DA X Ts es g) (hs : starEach (e :: es) X.env = (false, eval e X.env) :: starEach es X.env := by rfl) : DA X Ts (e :: es) (fCons f g) := PA.imp (pa_cons ha hr hs) fun σ H Q ⟨He, O, en, ds, rp, hf, kk⟩ => by
  obtain ⟨x, xs, h1, h2, rfl⟩ := fCons_some hf
  exact tD.of rp h1 fun v H1 x1 r1 q1 => tDs.of r1 h2 fun vs H2 x2 r2 q2 => kk _ H2 (x1.trans x2) r2.tabs (.cons (Dp.mono (hide_mono x2) q1) q2)
theorem new_out {O : List Addr} {H : Hp} {p : Addr} (occ : ∀ b ∈ O, H b ≠ none ∧ ∀ ps, H b ≠ some (.tbl ps)) (h : H p = none) : p ∉ O := fun z => (occ p z).1 h
theorem small64 {n : Nat} (h : n ≤ 64) : n ≤ sizeLine := Nat.le_of_lt (small1000 (by omega))
/-- a new tuple is told -/
theorem tup_new {K : PySem.W.Frag} {H : Hp} {O : List Addr} {p : Addr} {xs : List V} {ds : List PyData} (hp : H p = none) (np : p ∉ O) (q : DpAll K (hide H O) xs ds) : Dp K (hide (upd H p (.tup xs)) O) (.ref p) (.tuple ds) :=
  .tup (.inl (.inl (hide_of np upd_same))) (DpAll.mono (hide_mono (Xt.upd hp)) q)
theorem lst_new {K : PySem.W.Frag} {H : Hp} {O : List Addr} {p : Addr} {xs : List V} {ds : List PyData} (hp : H p = none) (np : p ∉ O) (q : DpAll K (hide H O) xs ds) : Dp K (hide (upd H p (.lst xs)) O) (.ref p) (.list ds) :=
  .lst (.inl (.inl (hide_of np upd_same))) (DpAll.mono (hide_mono (Xt.upd hp)) q)
def fTup (g : En → Option (List PyData)) : En → Option PyData := fun en => (g en).bind fun ds => if ds.length ≤ 64 then some (.tuple ds) else none
def fLst (g : En → Option (List PyData)) : En → Option PyData := fun en => (g en).bind fun ds => if ds.length ≤ 64 then some (.list ds) else none
theorem fTup_some {en : En} {d : PyData} (h : fTup g en = some d) : ∃ ds, g en = some ds ∧ ds.length ≤ 64 ∧ d = .tuple ds := by
  unfold fTup at h
  obtain ⟨x, h1, h⟩ := Option.bind_eq_some_iff.mp h
  split at h
  · cases h; exact ⟨x, h1, by assumption, rfl⟩
  · cases h
theorem fLst_some {en : En} {d : PyData} (h : fLst g en = some d) : ∃ ds, g en = some ds ∧ ds.length ≤ 64 ∧ d = .list ds := by
  unfold fLst at h
  obtain ⟨x, h1, h⟩ := Option.bind_eq_some_iff.mp h
  split at h
  · cases h; exact ⟨x, h1, by assumption, rfl⟩
  · cases h
theorem d_tup {x1} (h : DA X Ts es g) : DE X Ts (.Tuple es x1 pos) (fTup g) := PE.imp (pe_tup h) fun σ H Q ⟨He, O, en, d, rp, hf, kk⟩ => by
  obtain ⟨ds, h1, hl, rfl⟩ := fTup_some hf
  exact tDs.of rp h1 fun vs H1 x1 r1 q1 => ⟨by rw [DpAll.len q1]; exact small64 hl, fun p np => kk _ _ (x1.trans (Xt.upd np)) (r1.tabs.new np) (tup_new np (new_out r1.occ np) q1)⟩
theorem d_lst (h : DA X Ts es g) : DE X Ts (.List es pos) (fLst g) := PE.imp (pe_lst h) fun σ H Q ⟨He, O, en, d, rp, hf, kk⟩ => by
  obtain ⟨ds, h1, hl, rfl⟩ := fLst_some hf
  exact tDs.of rp h1 fun vs H1 x1 r1 q1 => ⟨by rw [DpAll.len q1]; exact small64 hl, fun p np => kk _ _ (x1.trans (Xt.upd np)) (r1.tabs.new np) (lst_new np (new_out r1.occ np) q1)⟩

/-! ### own defs -/
/-- a def without effect: it makes of its arguments' data the datum that F tells -/
def spD (K : PySem.W.Frag) (Ts : List Addr) (n : Nat) (F : List PyData → Option PyData) : Sp := fun vs H Q _ => vs.length = n ∧ ∃ O ds d, DpAll K (hide H O) vs ds ∧ Tb Ts H ∧ (∀ b ∈ O, H b ≠ none ∧ ∀ ps, H b ≠ some (.tbl ps)) ∧ F ds = some d ∧
  ∀ v H', Xt H H' → Tb Ts H' → Dp K (hide H' O) v d → Q v H'
theorem spD.imp {K : PySem.W.Frag} {Ts : List Addr} {n : Nat} {F G : List PyData → Option PyData} (h : ∀ ds d, G ds = some d → F ds = some d) : ∀ vs H Q E, spD K Ts n G vs H Q E → spD K Ts n F vs H Q E :=
  fun vs H Q E ⟨h1, O, ds, d, a, b, c, e, k⟩ => ⟨h1, O, ds, d, a, b, c, h ds d e, k⟩
def fCall (n : Nat) (F : List PyData → Option PyData) (g : En → Option (List PyData)) : En → Option PyData := fun en => (g en).bind fun ds => if ds.length = n then F ds else none
/-- a def of the program where it stands -/
structure DFn (X : Cx) (Ts : List Addr) (k : Nat) (x : Str) (n : Nat) (F : List PyData → Option PyData) : Prop where
  ex : ∃ f fd ps, X.mg x = some (.ref f) ∧ PySem.W.keepIn X.K (.ref f) = true ∧ Binds X.K fd ps [] ∧ FnOk X.prog X.w X.K X.mg X.base CX0 k f fd ps (spD X.K Ts n F)
theorem d_call {k j n : Nat} {x : Str} {p : Pos} {F : List PyData → Option PyData} (hr : Room j X.A) (hF : DFn X Ts k x n F) (hk : k ≤ j) (hg : Gl X x) (ha : DA X Ts (e :: es) g) (hdb : (x == ("__debug__" : Str)) = false := by decide)
    (he : starEach (e :: es) X.env = (false, eval e X.env) :: starEach es X.env := by rfl) (hpl : (backTo pos (starEach es X.env)).any (·.1) = false := by rfl) : DE X Ts (.Call (.Name x p) (e :: es) [] pos) (fCall n F g) := by
  obtain ⟨f, fd, ps, h1, h2, h3, h4⟩ := hF.ex
  refine PE.imp (pe_call h4 (hr.mono hk) hg h1 h2 h3 .nil pass0 ha hdb he hpl) fun σ H Q ⟨He, O, en, d, rp, hf, kk⟩ => ?_
  unfold fCall at hf
  obtain ⟨ds, q1, hf⟩ := Option.bind_eq_some_iff.mp hf
  split at hf
  · rename_i hl
    refine tDs.of rp q1 fun vs H1 x1 r1 qs => ?_
    rw [List.append_nil]
    exact ⟨by rw [DpAll.len qs]; exact hl, O, ds, d, qs, r1.tabs, r1.occ, hf, fun v H' x t q => kk v H' (x1.trans x) t q⟩
  · cases hf
end

/-! ### built-ins -/
/-- the sequence behind a borrowed value -/
theorem DpB.seq {K : PySem.W.Frag} {H : Hp} {O : List Addr} {v : V} {d : PyData} (h : DpB K H O v d) :
    (∃ b, v = .bl b ∧ d = .bool b) ∨ (v = .non ∧ d = .none) ∨ (∃ i, v = .int i ∧ d = .int i) ∨ (∃ s, v = .str s ∧ d = .str s) ∨
    (∃ a vs ds, v = .ref a ∧ d = .list ds ∧ SqL K H a vs ∧ DpAll K (hide H O) vs ds) ∨ (∃ a vs ds, v = .ref a ∧ d = .tuple ds ∧ SqT K H a vs ∧ DpAll K (hide H O) vs ds) := by
  rcases h with h | ⟨a, vs, ds, rfl, rfl, h1, h2⟩
  · cases h with
    | non => exact .inr (.inl ⟨rfl, rfl⟩)
    | bl b => exact .inl ⟨b, rfl, rfl⟩
    | int i => exact .inr (.inr (.inl ⟨i, rfl, rfl⟩))
    | str s => exact .inr (.inr (.inr (.inl ⟨s, rfl, rfl⟩)))
    | lst s a => exact .inr (.inr (.inr (.inr (.inl ⟨_, _, _, rfl, rfl, sqL_mono (fun o n e => (hide_some e).2) s, a⟩))))
    | tup s a => exact .inr (.inr (.inr (.inr (.inr ⟨_, _, _, rfl, rfl, sqT_mono (fun o n e => (hide_some e).2) s, a⟩))))
  · exact .inr (.inr (.inr (.inr (.inl ⟨_, _, _, rfl, rfl, .inl (.inl h1), h2⟩))))
theorem DpB.lst {K : PySem.W.Frag} {H : Hp} {O : List Addr} {v : V} {ds : List PyData} (h : DpB K H O v (.list ds)) : ∃ a vs, v = .ref a ∧ SqL K H a vs ∧ DpAll K (hide H O) vs ds := by
  rcases h.seq with ⟨_, _, e⟩ | ⟨_, e⟩ | ⟨_, _, e⟩ | ⟨_, _, e⟩ | ⟨a, vs, es, rfl, e, h1, h2⟩ | ⟨a, vs, es, rfl, e, h1, h2⟩ <;> cases e
  exact ⟨a, vs, rfl, h1, h2⟩
theorem DpB.tup {K : PySem.W.Frag} {H : Hp} {O : List Addr} {v : V} {ds : List PyData} (h : DpB K H O v (.tuple ds)) : ∃ a vs, v = .ref a ∧ SqT K H a vs ∧ DpAll K (hide H O) vs ds := by
  rcases h.seq with ⟨_, _, e⟩ | ⟨_, e⟩ | ⟨_, _, e⟩ | ⟨_, _, e⟩ | ⟨a, vs, es, rfl, e, h1, h2⟩ | ⟨a, vs, es, rfl, e, h1, h2⟩ <;> cases e
  exact ⟨a, vs, rfl, h1, h2⟩
/-- the items of a list or a tuple -/
def items : PyData → Option (List PyData)
  | .list ds => some ds
  | .tuple ds => some ds
  | _ => none
def intsOf : List PyData → Option (List Int)
  | [] => some []
  | .int i :: r => (intsOf r).map (i :: ·)
  | _ :: _ => none
theorem intsOf_some : ∀ {ds : List PyData} {ns : List Int}, intsOf ds = some ns → ds = ns.map .int
  | [], ns, h => by cases h; rfl
  | .int i :: r, ns, h => by
    obtain ⟨m, h1, rfl⟩ := Option.map_eq_some_iff.mp h
    rw [intsOf_some h1]
    rfl
  | .none :: r, ns, h => by cases h
  | .bool _ :: r, ns, h => by cases h
  | .str _ :: r, ns, h => by cases h
  | .list _ :: r, ns, h => by cases h
  | .tuple _ :: r, ns, h => by cases h
  | .dict _ :: r, ns, h => by cases h
theorem intsOf_map (ns : List Int) : intsOf (ns.map .int) = some ns := by
  induction ns with
  | nil => rfl
  | cons n r ih => simp [intsOf, ih]
section
variable {X : Cx} {Ts : List Addr} {pos p : Pos} {e e2 : Expr} {f g : En → Option PyData}
/-- one argument, read and not kept -/
theorem b_arg1 {id : String} {r : List V → Hp → VK → Prop} {x : Str} {gg : PyData → Option PyData} (hc : CallR X (.builtin id) r) (hg : Gl X x) (hm : X.mg x = none) (hv : bootBuiltins x = some (.builtin id)) (ha : DB X Ts e f)
    (k : ∀ d z v H O Q, gg d = some z → DpB X.K H O v d → Tb Ts H → (∀ b ∈ O, H b ≠ none ∧ ∀ ps, H b ≠ some (.tbl ps)) → (∀ u H', Xt H H' → Tb Ts H' → Dp X.K (hide H' O) u z → Q u H') → r [v] H Q)
    (hn : x ≠ "__name__" := by decide) (hdb : (x == ("__debug__" : Str)) = false := by decide) (he : starEach [e] X.env = (false, eval e X.env) :: starEach [] X.env := by rfl) :
    DE X Ts (.Call (.Name x p) [e] [] pos) (f1 gg f) := PE.imp (pe_callB (t := tCons (tB X.K Ts f) tNil) hc hg hm hv (pa_cons ha pa_nil he) hn hdb he (by rfl)) fun σ H Q ⟨He, O, en, d, rp, hf, kk⟩ => by
  obtain ⟨x, h1, h2⟩ := f1_some hf
  exact tB.of rp h1 fun v H1 x1 r1 q1 => k x d v H1 O Q h2 q1 r1.tabs r1.occ fun u H' x t q => kk u H' (x1.trans x) t q
theorem b_argT {T : String} {r : List V → Hp → VK → Prop} {x : Str} {gg : PyData → Option PyData} (hc : CallR X (.type T) r) (hg : Gl X x) (hm : X.mg x = none) (hv : bootBuiltins x = some (.type T)) (ha : DB X Ts e f)
    (k : ∀ d z v H O Q, gg d = some z → DpB X.K H O v d → Tb Ts H → (∀ b ∈ O, H b ≠ none ∧ ∀ ps, H b ≠ some (.tbl ps)) → (∀ u H', Xt H H' → Tb Ts H' → Dp X.K (hide H' O) u z → Q u H') → r [v] H Q)
    (hn : x ≠ "__name__" := by decide) (hdb : (x == ("__debug__" : Str)) = false := by decide) (he : starEach [e] X.env = (false, eval e X.env) :: starEach [] X.env := by rfl) :
    DE X Ts (.Call (.Name x p) [e] [] pos) (f1 gg f) := PE.imp (pe_callTy (t := tCons (tB X.K Ts f) tNil) hc hg hm hv (pa_cons ha pa_nil he) hn hdb he (by rfl)) fun σ H Q ⟨He, O, en, d, rp, hf, kk⟩ => by
  obtain ⟨x, h1, h2⟩ := f1_some hf
  exact tB.of rp h1 fun v H1 x1 r1 q1 => k x d v H1 O Q h2 q1 r1.tabs r1.occ fun u H' x t q => kk u H' (x1.trans x) t q
def gLen : PyData → Option PyData
  | .list ds => some (.int ds.length)
  | .tuple ds => some (.int ds.length)
  | _ => none
def fLen := f1 gLen
theorem d_len (hg : Gl X "len") (hm : X.mg "len" = none) (ha : DB X Ts e f) (he : starEach [e] X.env = (false, eval e X.env) :: starEach [] X.env := by rfl) : DE X Ts (.Call (.Name "len" p) [e] [] pos) (fLen f) :=
  b_arg1 call_len hg hm PySem.boot_len ha (he := he) fun d z v H O Q hz q t occ kk => by
    cases d with
    | list ds =>
      cases hz
      obtain ⟨a, vs, rfl, h1, h2⟩ := q.lst
      exact ⟨_, ds.length, rfl, .inl ⟨vs, h1, (DpAll.len h2).symm⟩, kk _ H (Xt.refl H) t (.int _)⟩
    | tuple ds =>
      cases hz
      obtain ⟨a, vs, rfl, h1, h2⟩ := q.tup
      exact ⟨_, ds.length, rfl, .inr ⟨vs, h1, (DpAll.len h2).symm⟩, kk _ H (Xt.refl H) t (.int _)⟩
    | _ => cases hz

/-! sums and extremes of ints -/
def rSumT (K : PySem.W.Frag) : List V → Hp → VK → Prop := fun vs H Q => ∃ (a : Addr) (ns : List Int), vs = [V.ref a] ∧ (SqL K H a (ns.map V.int) ∨ SqT K H a (ns.map V.int)) ∧ Q (.int ns.sum) H
theorem cr_sumT (hc : X.calm = true) : CallR X (.builtin "sum") (rSumT X.K) := by
  intro pins s σ H vs us Q I r h
  obtain ⟨a, ns, rfl, hs | hs, q⟩ := h
  · exact cr_sum hc pins s σ H _ us Q I r ⟨a, ns, rfl, hs, q⟩
  · obtain ⟨its, rv, ⟨o, ho, hcl, n, hd⟩, _⟩ := I.tuple hs
    rw [Vals.ref1 r]
    have hi : IntsAre its ns := rv.ints
    obtain ⟨xs, hx⟩ := hi.allInts.items
    have hn : numsOf its.toArray.toList = ns := by rw [show its.toArray.toList = its from rfl, hi.numsOf]
    rw [hx] at hd hn
    rw [nums_intItems] at hn
    refine PySem.W.ktm_sumG (I.ok.hd hc) ⟨o, ho, hcl, n, hd⟩ fun h' tk t' hk => ?_
    refine ⟨.int ns.sum, H, I.kept hk, ⟨t', ?_⟩, q⟩
    rw [preSum_eq, List.take_of_length_le (by simp), hn]
def gSum : PyData → Option PyData := fun d => (items d).bind fun ds => (intsOf ds).map fun ns => .int ns.sum
def fSum := f1 gSum
theorem gSum_some {d z : PyData} (h : gSum d = some z) : ∃ ns : List Int, (d = .list (ns.map .int) ∨ d = .tuple (ns.map .int)) ∧ z = .int ns.sum := by
  unfold gSum at h
  obtain ⟨ds, h1, h2⟩ := Option.bind_eq_some_iff.mp h
  obtain ⟨ns, h3, rfl⟩ := Option.map_eq_some_iff.mp h2
  have e := intsOf_some h3
  subst e
  cases d <;> simp only [items] at h1 <;> cases h1
  · exact ⟨ns, .inl rfl, rfl⟩
  · exact ⟨ns, .inr rfl, rfl⟩
theorem d_sum (hc : X.calm = true) (hg : Gl X "sum") (hm : X.mg "sum" = none) (hb : bootBuiltins "sum" = some (.builtin "sum")) (ha : DB X Ts e f) (he : starEach [e] X.env = (false, eval e X.env) :: starEach [] X.env := by rfl) : DE X Ts (.Call (.Name "sum" p) [e] [] pos) (fSum f) :=
  b_arg1 (cr_sumT hc) hg hm hb ha (he := he) fun d z v H O Q hz q t occ kk => by
    obtain ⟨ns, rfl | rfl, rfl⟩ := gSum_some hz
    · obtain ⟨a, vs, rfl, h1, h2⟩ := q.lst
      obtain rfl := DpAll.ints h2
      exact ⟨a, ns, rfl, .inl h1, kk _ H (Xt.refl H) t (.int _)⟩
    · obtain ⟨a, vs, rfl, h1, h2⟩ := q.tup
      obtain rfl := DpAll.ints h2
      exact ⟨a, ns, rfl, .inr h1, kk _ H (Xt.refl H) t (.int _)⟩
def maxL : List Int → Int
  | [] => 0
  | x :: r => r.foldl max x
theorem foldl_max : ∀ (r : List Int) (x : Int), (r.foldl max x ∈ x :: r) ∧ ∀ y ∈ x :: r, y ≤ r.foldl max x
  | [], x => ⟨by simp, fun y h => by simp at h; simp; omega⟩
  | z :: r, x => by
    obtain ⟨h1, h2⟩ := foldl_max r (max x z)
    refine ⟨?_, fun y hy => ?_⟩
    · show r.foldl max (max x z) ∈ _
      rcases List.mem_cons.mp h1 with e | e
      · rw [e]
        rcases Int.le_total x z with k | k
        · rw [Int.max_eq_right k]; simp
        · rw [Int.max_eq_left k]; simp
      · exact List.mem_cons_of_mem _ (List.mem_cons_of_mem _ e)
    · have h3 := h2 (max x z) List.mem_cons_self
      show y ≤ r.foldl max (max x z)
      rcases List.mem_cons.mp hy with e | e
      · subst e; have := Int.le_max_left y z; omega
      · rcases List.mem_cons.mp e with e | e
        · subst e; have := Int.le_max_right x y; omega
        · exact h2 y (List.mem_cons_of_mem _ e)
theorem maxL_spec {ns : List Int} (h : ns ≠ []) : maxL ns ∈ ns ∧ ∀ y ∈ ns, y ≤ maxL ns := by
  cases ns with
  | nil => exact absurd rfl h
  | cons x r => exact foldl_max r x
theorem maxL_eq {ns : List Int} {m : Int} (h1 : m ∈ ns) (h2 : ∀ y ∈ ns, y ≤ m) : m = maxL ns := by
  have hn : ns ≠ [] := fun e => by rw [e] at h1; cases h1
  obtain ⟨a, b⟩ := maxL_spec hn
  have := h2 _ a
  have := b _ h1
  omega
def gMaxL : PyData → Option PyData
  | .list ds => (intsOf ds).bind fun ns => if ns.isEmpty = true then none else some (.int (maxL ns))
  | _ => none
def fMaxL := f1 gMaxL
theorem d_maxL (hc : X.calm = true) (hg : Gl X "max") (hm : X.mg "max" = none) (hb : bootBuiltins "max" = some (.builtin "max")) (ha : DB X Ts e f) (he : starEach [e] X.env = (false, eval e X.env) :: starEach [] X.env := by rfl) : DE X Ts (.Call (.Name "max" p) [e] [] pos) (fMaxL f) :=
  b_arg1 (cr_max hc) hg hm hb ha (he := he) fun d z v H O Q hz q t occ kk => by
    cases d <;> simp only [gMaxL] at hz <;> try cases hz
    rename_i ds
    obtain ⟨ns, h1, h2⟩ := Option.bind_eq_some_iff.mp hz
    have e := intsOf_some h1
    subst e
    split at h2
    · cases h2
    · rename_i hn
      cases h2
      obtain ⟨a, vs, rfl, h1, h2⟩ := q.lst
      obtain rfl := DpAll.ints h2
      refine ⟨a, ns, rfl, h1, ?_, fun m hm1 hm2 => ?_⟩
      · cases ns with
        | nil => exact absurd rfl hn
        | cons x r => simp
      · rw [maxL_eq hm1 hm2]
        exact kk _ H (Xt.refl H) t (.int _)
/-- two arguments -/
theorem d_args2 {id : String} {r : List V → Hp → VK → Prop} {x : Str} {gg : PyData → PyData → Option PyData} (hc : CallR X (.builtin id) r) (hg : Gl X x) (hm : X.mg x = none) (hv : bootBuiltins x = some (.builtin id)) (ha : DE X Ts e f) (hb : DE X Ts e2 g)
    (k : ∀ d d' z v w H O Q, gg d d' = some z → Dp X.K (hide H O) v d → Dp X.K (hide H O) w d' → Tb Ts H → (∀ u H', Xt H H' → Tb Ts H' → Dp X.K (hide H' O) u z → Q u H') → r [v, w] H Q)
    (hn : x ≠ "__name__" := by decide) (hdb : (x == ("__debug__" : Str)) = false := by decide) (he : starEach [e, e2] X.env = (false, eval e X.env) :: starEach [e2] X.env := by rfl) (he2 : starEach [e2] X.env = (false, eval e2 X.env) :: starEach [] X.env := by rfl) (hpl : (backTo pos (starEach [e2] X.env)).any (·.1) = false := by rfl) :
    DE X Ts (.Call (.Name x p) [e, e2] [] pos) (f2 gg f g) := PE.imp (pe_callB (t := tCons (tD X.K Ts f) (tCons (tD X.K Ts g) tNil)) hc hg hm hv (pa_cons ha (pa_cons hb pa_nil he2) he) hn hdb he hpl) fun σ H Q ⟨He, O, en, d, rp, hf, kk⟩ => by
  obtain ⟨x, y, h1, h2, h3⟩ := f2_some hf
  exact tD.of rp h1 fun v H1 x1 r1 q1 => tD.of r1 h2 fun w H2 x2 r2 q2 => k x y d v w H2 O Q h3 (Dp.mono (hide_mono x2) q1) q2 r2.tabs fun u H' x3 t q => kk u H' (x1.trans (x2.trans x3)) t q
def fMax2 := f2 (gI fun i j => .int (if j > i then j else i))
def fMin2 := f2 (gI fun i j => .int (if j < i then j else i))
theorem d_max2 (hc : X.calm = true) (hg : Gl X "max") (hm : X.mg "max" = none) (hv : bootBuiltins "max" = some (.builtin "max")) (ha : DE X Ts e f) (hb : DE X Ts e2 g)
    (he : starEach [e, e2] X.env = (false, eval e X.env) :: starEach [e2] X.env := by rfl) (he2 : starEach [e2] X.env = (false, eval e2 X.env) :: starEach [] X.env := by rfl) (hpl : (backTo pos (starEach [e2] X.env)).any (·.1) = false := by rfl) :
    DE X Ts (.Call (.Name "max" p) [e, e2] [] pos) (fMax2 f g) := d_args2 (call_max2 hc) hg hm hv ha hb (he := he) (he2 := he2) (hpl := hpl) fun d d' z v w H O Q hz q1 q2 t kk => by
  cases q1 <;> cases q2 <;> simp only [gI] at hz <;> try cases hz
  exact ⟨_, _, rfl, kk _ H (Xt.refl H) t (.int _)⟩
theorem d_min2 (hc : X.calm = true) (hg : Gl X "min") (hm : X.mg "min" = none) (hv : bootBuiltins "min" = some (.builtin "min")) (ha : DE X Ts e f) (hb : DE X Ts e2 g)
    (he : starEach [e, e2] X.env = (false, eval e X.env) :: starEach [e2] X.env := by rfl) (he2 : starEach [e2] X.env = (false, eval e2 X.env) :: starEach [] X.env := by rfl) (hpl : (backTo pos (starEach [e2] X.env)).any (·.1) = false := by rfl) :
    DE X Ts (.Call (.Name "min" p) [e, e2] [] pos) (fMin2 f g) := d_args2 (call_min2 hc) hg hm hv ha hb (he := he) (he2 := he2) (hpl := hpl) fun d d' z v w H O Q hz q1 q2 t kk => by
  cases q1 <;> cases q2 <;> simp only [gI] at hz <;> try cases hz
  exact ⟨_, _, rfl, kk _ H (Xt.refl H) t (.int _)⟩
/-! tuple(x), abs, int -/
def gTuple : PyData → Option PyData := fun d => (items d).map .tuple
def fTuple := f1 gTuple
theorem d_tuple (hg : Gl X "tuple") (hm : X.mg "tuple" = none) (hv : bootBuiltins "tuple" = some (.type "tuple")) (ha : DB X Ts e f) (he : starEach [e] X.env = (false, eval e X.env) :: starEach [] X.env := by rfl) : DE X Ts (.Call (.Name "tuple" p) [e] [] pos) (fTuple f) :=
  b_argT call_tuple_of hg hm hv ha (he := he) fun d z v H O Q hz q t occ kk => by
    cases d <;> simp only [gTuple, items, Option.map_some, Option.map_none] at hz <;> try cases hz
    · obtain ⟨a, vs, rfl, h1, h2⟩ := q.lst
      exact ⟨a, vs, rfl, .inl ⟨h1, fun l nl => kk _ _ (Xt.upd nl) (t.new nl) (tup_new nl (new_out occ nl) h2)⟩⟩
    · rcases q with q | ⟨_, _, _, _, e, _⟩
      · cases q with
        | tup s a => exact ⟨_, _, rfl, .inr ⟨sqT_mono (fun o n e => (hide_some e).2) s, kk _ H (Xt.refl H) t (.tup s a)⟩⟩
      · cases e
def gAbs : PyData → Option PyData
  | .int i => some (.int (if i < 0 then -i else i))
  | _ => none
def fAbs := f1 gAbs
theorem d_abs (hg : Gl X "abs") (hm : X.mg "abs" = none) (hv : bootBuiltins "abs" = some (.builtin "abs")) (ha : DE X Ts e f) (he : starEach [e] X.env = (false, eval e X.env) :: starEach [] X.env := by rfl) : DE X Ts (.Call (.Name "abs" p) [e] [] pos) (fAbs f) :=
  b_arg1 call_abs hg hm hv (d_b ha) (he := he) fun d z v H O Q hz q t occ kk => by
    cases d <;> simp only [gAbs] at hz <;> try cases hz
    rcases q with q | ⟨_, _, _, _, e, _⟩
    · cases q
      exact ⟨_, rfl, kk _ H (Xt.refl H) t (.int _)⟩
    · cases e
def gInt : PyData → Option PyData
  | .int i => some (.int i)
  | _ => none
def fInt := f1 gInt
theorem d_toInt (hg : Gl X "int") (hm : X.mg "int" = none) (hv : bootBuiltins "int" = some (.type "int")) (ha : DE X Ts e f) (he : starEach [e] X.env = (false, eval e X.env) :: starEach [] X.env := by rfl) : DE X Ts (.Call (.Name "int" p) [e] [] pos) (fInt f) :=
  b_argT call_int1 hg hm hv (d_b ha) (he := he) fun d z v H O Q hz q t occ kk => by
    cases d <;> simp only [gInt] at hz <;> try cases hz
    rcases q with q | ⟨_, _, _, _, e, _⟩
    · cases q
      exact .inl ⟨_, rfl, kk _ H (Xt.refl H) t (.int _)⟩
    · cases e
/-! isinstance(x, T) -/
def pyTy : PyData → String
  | .none => "NoneType"
  | .bool _ => "bool"
  | .int _ => "int"
  | .str _ => "str"
  | .list _ => "list"
  | .tuple _ => "tuple"
  | .dict _ => "dict"
theorem tyX_of {K : PySem.W.Frag} {H : Hp} {v : V} {d : PyData} (h : Dp K H v d) : TyX K H v (.type (pyTy d)) := by
  cases h with
  | non => exact .base .non
  | bl b => exact .base (.bl b)
  | int i => exact .base (.int i)
  | str s => exact .base (.str s)
  | lst s a =>
    rcases s with (s | ⟨o, s⟩) | ⟨o, its, n, h1, h2, _⟩
    · exact .base (.lst s)
    · exact .base (.frz s)
    · exact .kList h1 h2
  | tup s a =>
    rcases s with (s | ⟨o, s⟩) | ⟨o, its, n, h1, h2, _⟩
    · exact .base (.tup s)
    · exact .fTuple s
    · exact .kTuple h1 h2
def fIsi (q : PyData → Bool) := f1 (fun d => some (.bool (q d)))
def isInt : PyData → Bool
  | .int _ => true
  | .bool _ => true
  | _ => false
def isBool : PyData → Bool
  | .bool _ => true
  | _ => false
def isTup : PyData → Bool
  | .tuple _ => true
  | _ => false
def isLst : PyData → Bool
  | .list _ => true
  | _ => false
def isStr : PyData → Bool
  | .str _ => true
  | _ => false
theorem isi_int : ∀ d, kitB (pyTy d) "int" = some (isInt d) := fun d => by cases d <;> (simp only [pyTy, isInt]; decide +kernel)
theorem isi_bool : ∀ d, kitB (pyTy d) "bool" = some (isBool d) := fun d => by cases d <;> (simp only [pyTy, isBool]; decide +kernel)
theorem isi_tuple : ∀ d, kitB (pyTy d) "tuple" = some (isTup d) := fun d => by cases d <;> (simp only [pyTy, isTup]; decide +kernel)
theorem isi_list : ∀ d, kitB (pyTy d) "list" = some (isLst d) := fun d => by cases d <;> (simp only [pyTy, isLst]; decide +kernel)
theorem isi_str : ∀ d, kitB (pyTy d) "str" = some (isStr d) := fun d => by cases d <;> (simp only [pyTy, isStr]; decide +kernel)
theorem d_isi {T : String} {x : Str} {q : PyData → Bool} {px : Pos} (hq : ∀ d, kitB (pyTy d) T = some (q d)) (hg : Gl X "isinstance") (hm : X.mg "isinstance" = none) (hv : bootBuiltins "isinstance" = some (.builtin "isinstance"))
    (hgT : Gl X x) (hmT : X.mg x = none) (hvT : bootBuiltins x = some (.type T)) (ha : DE X Ts e f) (hnT : x ≠ "__name__" := by decide) (hdT : (x == ("__debug__" : Str)) = false := by decide)
    (he : starEach [e, .Name x px] X.env = (false, eval e X.env) :: starEach [.Name x px] X.env := by rfl) (he2 : starEach [.Name x px] X.env = (false, eval (.Name x px) X.env) :: starEach [] X.env := by rfl) (hpl : (backTo pos (starEach [.Name x px] X.env)).any (·.1) = false := by rfl) :
    DE X Ts (.Call (.Name "isinstance" p) [e, .Name x px] [] pos) (fIsi q f) :=
  PE.imp (pe_callB (t := tCons (tD X.K Ts f) (tCons (tC (.ty T)) tNil)) call_isi hg hm hv (pa_cons ha (pa_cons (pe_bltn (v := .ty T) hgT hmT hvT rfl hnT hdT) pa_nil he2) he) (by decide) (by decide) he hpl) fun σ H Q ⟨He, O, en, d, rp, hf, kk⟩ => by
    obtain ⟨x, h1, h2⟩ := f1_some hf
    cases h2
    exact tD.of rp h1 fun v H1 x1 r1 q1 => ⟨v, .ty T, _, _, q x, rfl, .ty T, tyX_of (Dp.mono hide_out q1), kit_ty (hq x), kk _ H1 x1 r1.tabs (.bl _)⟩
/-! items and slices -/
def gIx : PyData → PyData → Option PyData := fun d i => match i with
  | .int i => (items d).bind fun ds => atI ds i
  | _ => none
def fIx := f2 gIx
theorem atI_dp {K : PySem.W.Frag} {H : Hp} {vs : List V} {ds : List PyData} {i : Int} {d : PyData} (h : DpAll K H vs ds) (e : atI ds i = some d) : ∃ v, atI vs i = some v ∧ Dp K H v d := by
  unfold atI at e ⊢
  rw [DpAll.len h]
  obtain ⟨j, h1, h2⟩ := Option.bind_eq_some_iff.mp e
  obtain ⟨v, h3, h4⟩ := DpAll.get' h h2
  exact ⟨v, by rw [h1]; exact h3, h4⟩
theorem b_ix (ha : DB X Ts e f) (hb : DE X Ts e2 g) (hs : PlainIx e2 := by exact fun _ _ => rfl) : DE X Ts (.Subscript e e2 pos) (fIx f g) := PE.imp (pe_ix ix_seq ha hb hs) fun σ H Q ⟨He, O, en, d, rp, hf, kk⟩ => by
  obtain ⟨x, y, h1, h2, h3⟩ := f2_some hf
  refine tB.of rp h1 fun v H1 x1 r1 q1 => tD.of r1 h2 fun w H2 x2 r2 q2 => ?_
  unfold gIx at h3
  cases q2 <;> try cases h3
  rename_i i
  obtain ⟨ds, h4, h5⟩ := Option.bind_eq_some_iff.mp h3
  cases x <;> simp only [items] at h4 <;> cases h4
  · obtain ⟨a, vs, rfl, s, qs⟩ := q1.lst
    obtain ⟨u, h6, h7⟩ := atI_dp qs h5
    exact .inl ⟨a, vs, i, u, rfl, rfl, sqL_mono (fun o n e => x2.get _ o e n) s, h6, kk u H2 (x1.trans x2) r2.tabs (Dp.mono (hide_mono x2) h7)⟩
  · obtain ⟨a, vs, rfl, s, qs⟩ := q1.tup
    obtain ⟨u, h6, h7⟩ := atI_dp qs h5
    exact .inr (.inl ⟨a, vs, i, u, rfl, rfl, sqT_mono (fun o n e => x2.get _ o e n) s, h6, kk u H2 (x1.trans x2) r2.tabs (Dp.mono (hide_mono x2) h7)⟩)
def cutD (ds : List PyData) (lo hi : Option Int) : List PyData := (ds.drop (HT.sIx ds.length 0 lo)).take (HT.sIx ds.length ds.length hi - HT.sIx ds.length 0 lo)
theorem cut_dp {K : PySem.W.Frag} {H : Hp} {vs : List V} {ds : List PyData} (h : DpAll K H vs ds) (lo hi : Option Int) : DpAll K H (cutV vs lo hi) (cutD ds lo hi) := by
  unfold cutV cutD
  rw [DpAll.len h]
  exact DpAll.take _ (DpAll.drop _ h)
theorem sl_seq : SlR X (fun x lo hi H Q => rSlA X.K x lo hi H Q ∨ rSlL X.K x lo hi H Q) := by
  intro pins s σ H x v vl vu lo hi sl Q I rx hs pl pu h
  rcases h with h | h
  · exact sl_tupA pins s σ H x v vl vu lo hi sl Q I rx hs pl pu h
  · exact sl_list pins s σ H x v vl vu lo hi sl Q I rx hs pl pu h
/-- a part of a slice -/
def fNoPart : En → Option (Option Int) := fun _ => some none
def fPart (f : En → Option PyData) : En → Option (Option Int) := fun en => match f en with
  | some (.int i) => some (some i)
  | _ => none
def tPO (K : PySem.W.Frag) (Ts : List Addr) (f : En → Option (Option Int)) : TO := fun σ H Q => ∃ He O en o, Rep K Ts He O σ H en ∧ f en = some o ∧ ∀ H', Xt H H' → Tb Ts H' → Q o H'
abbrev DP (X : Cx) (Ts : List Addr) (e : Option Expr) (f : En → Option (Option Int)) : Prop := PO X e (tPO X.K Ts f)
theorem dp_none : DP X Ts none fNoPart := ⟨fun pins s σ H Q I ⟨He, O, en, o, rp, hf, kk⟩ => by
  cases hf
  exact po_none.run pins s σ H Q I (kk H (Xt.refl H) rp.tabs)⟩
theorem dp_some (h : DE X Ts e f) : DP X Ts (some e) (fPart f) := ⟨fun pins s σ H Q I ⟨He, O, en, o, rp, hf, kk⟩ => by
  unfold fPart at hf
  split at hf
  · rename_i i e
    cases hf
    exact (po_some h).run pins s σ H Q I (tD.of rp e fun v H1 x1 r1 q1 => by cases q1; exact ⟨i, rfl, kk H1 x1 r1.tabs⟩)
  · cases hf⟩
def gCut : PyData → Option Int → Option Int → Option PyData
  | .list ds, lo, hi => some (.list (cutD ds lo hi))
  | .tuple ds, lo, hi => some (.tuple (cutD ds lo hi))
  | _, _, _ => none
def fCut (f : En → Option PyData) (l h : En → Option (Option Int)) : En → Option PyData := fun en => (f en).bind fun d => (l en).bind fun lo => (h en).bind fun hi => gCut d lo hi
theorem cutD_whole {ds : List PyData} {lo hi : Option Int} (h : HT.sIx ds.length 0 lo = 0 ∧ HT.sIx ds.length ds.length hi = ds.length) : cutD ds lo hi = ds := by
  unfold cutD
  rw [h.1, h.2]
  simp
theorem b_cut {lo hi : Option Expr} {fl fh : En → Option (Option Int)} {p2 : Pos} (ha : DB X Ts e f) (hl : DP X Ts lo fl) (hh : DP X Ts hi fh) : DE X Ts (.Subscript e (.Slice lo hi none p2) pos) (fCut f fl fh) := PE.imp (pe_slice sl_seq ha hl hh) fun σ H Q ⟨He, O, en, d, rp, hf, kk⟩ => by
  unfold fCut at hf
  obtain ⟨x, h1, hf1⟩ := Option.bind_eq_some_iff.mp hf
  obtain ⟨l, h2, hf2⟩ := Option.bind_eq_some_iff.mp hf1
  obtain ⟨u, h3, h4⟩ := Option.bind_eq_some_iff.mp hf2
  clear hf hf1 hf2
  refine tB.of rp h1 fun v H1 x1 r1 q1 => ⟨He, O, en, l, r1, h2, fun H2 x2 t2 => ⟨He, O, en, u, r1.go x2 t2, h3, fun H3 x3 t3 => ?_⟩⟩
  have r3 := (r1.go x2 t2).go x3 t3
  have x13 : Xt H1 H3 := x2.trans x3
  cases x <;> simp only [gCut] at h4 <;> cases h4
  · obtain ⟨a, vs, rfl, s, qs⟩ := q1.lst
    have qs3 := DpAll.mono (hide_mono (O := O) x13) qs
    exact .inr ⟨a, vs, rfl, sqL_mono (fun o n e => x13.get _ o e n) s, fun p np => kk _ _ (x1.trans (x13.trans (Xt.upd np))) (t3.new np) (lst_new np (new_out r3.occ np) (cut_dp qs3 l u))⟩
  · rename_i ds
    rcases q1 with q1 | ⟨_, _, _, _, e, _⟩
    · cases q1 with
      | tup s0 qs =>
        rename_i a vs
        have s := sqT_mono (H' := H1) (fun o n e => (hide_some e).2) s0
        have qs3 := DpAll.mono (hide_mono (O := O) x13) qs
        refine .inl ⟨a, vs, rfl, sqT_mono (fun o n e => x13.get _ o e n) s, fun hw => ?_, fun hw p np => kk _ _ (x1.trans (x13.trans (Xt.upd np))) (t3.new np) (tup_new np (new_out r3.occ np) (cut_dp qs3 l u))⟩
        rw [DpAll.len qs] at hw
        rw [cutD_whole hw] at kk
        exact kk _ H3 (x1.trans x13) t3 (Dp.mono (hide_mono x13) (.tup s0 qs))
    · cases e
/-! tuple + tuple -/
def gCat : PyData → PyData → Option PyData
  | .tuple xs, .tuple ys => if xs.length + ys.length ≤ 1000000 then some (.tuple (xs ++ ys)) else none
  | _, _ => none
def fCat := f2 gCat
theorem d_cat (ha : DE X Ts e f) (hb : DE X Ts e2 g) : DE X Ts (.BinOp e .Add e2 pos) (fCat f g) := PE.imp (pe_op op_catA ha hb) fun σ H Q ⟨He, O, en, d, rp, hf, kk⟩ => by
  obtain ⟨x, y, h1, h2, h3⟩ := f2_some hf
  refine tD.of rp h1 fun v H1 x1 r1 q1 => tD.of r1 h2 fun w H2 x2 r2 q2 => ?_
  have q1 := Dp.mono (hide_mono x2) q1
  cases x <;> cases y <;> simp only [gCat] at h3 <;> try cases h3
  split at h3
  · rename_i hl
    cases h3
    cases q1 with
    | tup s1 a1 =>
      cases q2 with
      | tup s2 a2 =>
        have l1 := DpAll.len a1
        have l2 := DpAll.len a2
        refine ⟨_, _, _, _, rfl, rfl, sqT_mono (fun o n e => (hide_some e).2) s1, sqT_mono (fun o n e => (hide_some e).2) s2, by rw [l1, l2, sizeLine_eq]; omega, fun e0 => ?_, fun _ e0 => ?_, fun _ _ p np => kk _ _ (x1.trans (x2.trans (Xt.upd np))) (r2.tabs.new np) (tup_new np (new_out r2.occ np) (DpAll.app a1 a2))⟩
        · subst e0
          cases a1
          exact kk _ H2 (x1.trans x2) r2.tabs (.tup s2 a2)
        · subst e0
          cases a2
          rw [List.append_nil] at kk
          exact kk _ H2 (x1.trans x2) r2.tabs (.tup s1 a1)
  · cases h3
/-! in a list of data -/
def gIn : PyData → PyData → Option PyData
  | x, .list ds => if (SeqAt.shaped x && SeqAt.shaped (.list ds)) = true then some (.bool (ds.any fun z => PyData.eqv z x)) else none
  | _, _ => none
def fIn := f2 gIn
theorem w_in {K : PySem.W.Frag} {fa fb : En → Option PyData} : ∀ σ H Q, tD K Ts (fIn fa fb) σ H Q → tOp (rInD K) (tD K Ts fa) (tD K Ts fb) σ H Q :=
  w_2 fun x y v w d H O Q hg q1 q2 ht _ kk => by
    cases y <;> simp only [gIn] at hg <;> try cases hg
    split at hg
    · rename_i hs
      rw [Bool.and_eq_true] at hs
      cases hg
      exact ⟨x, _, Dp.mono hide_out q1, Dp.mono hide_out q2, hs.1, hs.2, kk _ H (Xt.refl H) ht (.bl _)⟩
    · cases hg
theorem d_in {k : Nat} (hr : Room k X.A) (ha : DE X Ts e f) (hb : DE X Ts e2 g) (hm : behindInMarks .In e2 = false := by rfl) : DE X Ts (.Compare e [.In] [e2] pos) (fIn f g) := PE.imp (pe_cmpR (op_inD (by have := hr.units; have := hr.un; omega)) ha hb hm) w_in
theorem dt_in {k : Nat} (hr : Room k X.A) (ha : DE X Ts e f) (hb : DE X Ts e2 g) (hm : behindInMarks .In e2 = false := by rfl) : DT X Ts (.Compare e [.In] [e2] pos) (fT (fIn f g)) := dt_of (pt_cmpR (op_inD (by have := hr.units; have := hr.un; omega)) ha hb hm) w_in
/-! gcd -/
def fGcd := f2 (gI fun i j => .int ((Nat.gcd i.natAbs j.natAbs : Nat) : Int))
end
end DN
set_option Elab.async false
set_option linter.all false
set_option maxRecDepth 100000
set_option maxHeartbeats 4000000
namespace DN
open PySem PySem.Spec PyProof.Rows L2

/-! ### targets -/
/-- what a target makes of the slots; vs: the slots that it writes -/
def gD (K : PySem.W.Frag) (Ts : List Addr) (vs : List Nat) (b : PyData → En → Option En) : TG := fun x σ H Q => ∃ He O en d en', Rep K Ts He O σ H en ∧ Dp K (hide H O) x d ∧ b d en = some en' ∧ ∀ σ', Rep K Ts He O σ' H en' → wipe σ' vs = wipe σ vs → Q σ' H
abbrev DG (X : Cx) (Ts : List Addr) (tg : Expr) (vs : List Nat) (b : PyData → En → Option En) : Prop := PG X tg (gD X.K Ts vs b)
theorem PG.imp {X : Cx} {tg : Expr} {g g' : TG} (h : PG X tg g) (w : ∀ x σ H Q, g' x σ H Q → g x σ H Q) : PG X tg g' := ⟨fun pins s σ H v u Q I r q => h.run pins s σ H v u Q I r (w v σ H Q q)⟩
def bName (i : Nat) : PyData → En → Option En := fun d en => if i < en.length then some (en.set i (.dat d)) else none
theorem Rep.setD {K : PySem.W.Frag} {Ts : List Addr} {He : Hp} {O : List Addr} {σ : St} {H : Hp} {en : En} (r : Rep K Ts He O σ H en) {i : Nat} {x : V} {d : PyData} (hi : i < en.length) (q : Dp K (hide H O) x d) : Rep K Ts He O (σ.set i (some x)) H (en.set i (.dat d)) := by
  have hs : i < σ.length := by rw [← r.len]; exact hi
  refine ⟨by simp [r.len], fun j e h => ?_, fun j ds h => ?_, fun j k ds es a h1 h2 h3 h4 => ?_, r.occ, r.ext, r.tabs⟩
  · by_cases hj : i = j
    · subst hj
      rw [List.getElem?_set_self hi] at h
      cases h
      exact ⟨x, by rw [List.getElem?_set_self hs], q⟩
    · rw [List.getElem?_set_ne hj] at h
      obtain ⟨v, a, b⟩ := r.dat j e h
      exact ⟨v, by rw [List.getElem?_set_ne hj]; exact a, b⟩
  · by_cases hj : i = j
    · subst hj
      rw [List.getElem?_set_self hi] at h
      cases h
    · rw [List.getElem?_set_ne hj] at h
      obtain ⟨a, vs, h1, h2⟩ := r.own j ds h
      exact ⟨a, vs, by rw [List.getElem?_set_ne hj]; exact h1, h2⟩
  · have hj : i ≠ j := fun e => by subst e; rw [List.getElem?_set_self hi] at h1; cases h1
    have hk : i ≠ k := fun e => by subst e; rw [List.getElem?_set_self hi] at h2; cases h2
    rw [List.getElem?_set_ne hj] at h1 h3
    rw [List.getElem?_set_ne hk] at h2 h4
    exact r.inj j k ds es a h1 h2 h3 h4
theorem wipe_comm (σ : St) (i : Nat) (y : Option V) : ∀ vs : List Nat, i ∈ vs → wipe (σ.set i y) vs = wipe σ vs
  | [], h => by cases h
  | v :: vs, h => by
    unfold wipe
    by_cases hv : i ∈ vs
    · rw [wipe_comm σ i y vs hv]
    · have hvi : i = v := by
        rcases List.mem_cons.mp h with e | e
        · exact e
        · exact absurd e hv
      subst hvi
      have key : ∀ us : List Nat, i ∉ us → wipe (σ.set i y) us = (wipe σ us).set i y := by
        intro us
        induction us with
        | nil => intro _; rfl
        | cons u us ih =>
          intro hn
          have h1 : i ≠ u := fun e => hn (by rw [e]; exact List.mem_cons_self)
          have h2 : i ∉ us := fun e => hn (List.mem_cons_of_mem _ e)
          show (wipe (σ.set i y) us).set u none = ((wipe σ us).set u none).set i y
          rw [ih h2, List.set_comm _ _ h1]
      rw [key vs hv, List.set_set]
theorem wipe_in {σ : St} {i : Nat} : ∀ {vs : List Nat}, i ∈ vs → i < σ.length → (wipe σ vs)[i]? = some none
  | v :: vs, h, hl => by
    unfold wipe
    by_cases hv : v = i
    · subst hv
      rw [List.getElem?_set_self (by rw [wipe_length]; exact hl)]
    · rw [List.getElem?_set_ne hv]
      rcases List.mem_cons.mp h with e | e
      · exact absurd e.symm hv
      · exact wipe_in e hl
theorem wipe_wipe (σ : St) (vs : List Nat) : wipe (wipe σ vs) vs = wipe σ vs := by
  apply List.ext_getElem?
  intro i
  by_cases h : i ∈ vs
  · by_cases hl : i < σ.length
    · rw [wipe_in h (by rw [wipe_length]; exact hl), wipe_in h hl]
    · rw [List.getElem?_eq_none (by rw [wipe_length, wipe_length]; omega), List.getElem?_eq_none (by rw [wipe_length]; omega)]
  · rw [wipe_out h]
section
variable {X : Cx} {Ts : List Addr} {pos : Pos}
theorem dg_name (i : Nat) {x : Str} {vs : List Nat} (hN : X.N.Nodup) (hi : X.N[i]? = some x) (hx : Loc X.env.scope x) (hv : i ∈ vs) (hf : X.fn x = true ∨ X.env.scope.names.lookup x = some .local := by first | exact .inl rfl | exact .inr rfl | assumption) : DG X Ts (.Name x pos) vs (bName i) :=
  PG.imp (pg_name hN hi hx hf) fun v σ H Q ⟨He, O, en, d, en', r, q, hb, kk⟩ => by
    unfold bName at hb
    split at hb
    · rename_i hl
      cases hb
      exact kk _ (r.setD hl q) (wipe_comm σ i _ vs hv)
    · cases hb
/-- several names -/
def bNames : List Nat → List PyData → En → Option En
  | [], [], en => some en
  | i :: is, d :: ds, en => (bName i d en).bind fun e => bNames is ds e
  | _, _, _ => none
def gDs (K : PySem.W.Frag) (Ts : List Addr) (vs : List Nat) (is : List Nat) : TGs := fun xs σ H Q => ∃ He O en ds en', Rep K Ts He O σ H en ∧ DpAll K (hide H O) xs ds ∧ bNames is ds en = some en' ∧ ∀ σ', Rep K Ts He O σ' H en' → wipe σ' vs = wipe σ vs → Q σ' H
theorem dgs_nil {vs : List Nat} : PGs X [] (gDs X.K Ts vs []) := ⟨fun pins s σ H xs us Q I r ⟨He, O, en, ds, en', rp, q, hb, kk⟩ => by
  cases q with
  | nil =>
    cases hb
    exact pgs_nil.run pins s σ H _ us Q I r ⟨rfl, kk σ rp rfl⟩
  | cons _ _ => cases hb⟩
theorem dgs_cons {e : Expr} {es : List Expr} {vs is : List Nat} {i : Nat} (h1 : DG X Ts e vs (bName i)) (h2 : PGs X es (gDs X.K Ts vs is)) (hs : (assignEach (e :: es) X.env).map (·.2) = assign e X.env :: (assignEach es X.env).map (·.2) := by rfl) : PGs X (e :: es) (gDs X.K Ts vs (i :: is)) :=
  ⟨fun pins s σ H xs us Q I r ⟨He, O, en, ds, en', rp, q, hb, kk⟩ => by
    cases q with
    | nil => cases hb
    | cons qd qt =>
      obtain ⟨e1, hb1, hb2⟩ := Option.bind_eq_some_iff.mp hb
      exact (pgs_cons h1 h2 hs).run pins s σ H _ us Q I r ⟨_, _, rfl, He, O, en, _, e1, rp, qd, hb1, fun σ' r' w' => ⟨He, O, e1, _, en', r', qt, hb2, fun σ2 r2 w2 => kk σ2 r2 (w2.trans w')⟩⟩⟩
def bTup (is : List Nat) : PyData → En → Option En := fun d en => match d with
  | .tuple ds => bNames is ds en
  | _ => none
theorem bNames_len : ∀ {is : List Nat} {ds : List PyData} {en en' : En}, bNames is ds en = some en' → ds.length = is.length
  | [], [], _, _, _ => rfl
  | i :: is, d :: ds, en, en', h => by
    obtain ⟨e1, _, h2⟩ := Option.bind_eq_some_iff.mp h
    rw [List.length_cons, List.length_cons, bNames_len h2]
  | [], _ :: _, _, _, h => by cases h
  | _ :: _, [], _, _, h => by cases h
theorem dg_tup {es : List Expr} {k : Nat} {vs is : List Nat} (hc : X.calm = true) (h : PGs X es (gDs X.K Ts vs is)) (hn : (assignEach es X.env).length = is.length := by rfl) (hst : (assignEach es X.env).findIdx? (·.1) = none := by rfl) : DG X Ts (.Tuple es k pos) vs (bTup is) :=
  PG.imp (pg_tup hc h hn hst) fun v σ H Q ⟨He, O, en, d, en', r, q, hb, kk⟩ => by
    cases d <;> try cases hb
    rename_i ds
    cases q with
    | tup s a =>
      exact ⟨_, _, rfl, sqT_mono (fun o n e => (hide_some e).2) s, by rw [DpAll.len a]; exact bNames_len hb, He, O, en, ds, en', r, a, hb, kk⟩

/-! ### what is walked -/
/-- J gives the data ds, whatever else happens to the hidden part of the heap -/
def Gives (K : PySem.W.Frag) (Ts : List Addr) (J : It) (ds : List PyData) (H1 : Hp) (O : List Addr) : Prop :=
  ∀ O' H2, Xt (hide H1 O) (hide H2 O') → Xt (hide H1 O) H2 → (∀ b ∈ O', H2 b ≠ none ∧ ∀ ps, H2 b ≠ some (.tbl ps)) → (∀ i, i < ds.length → J.go i H2) ∧ J.stop ds.length H2 ∧
    ∀ i x H3, i < ds.length → J.yld i H2 x H3 → ∃ d, ds[i]? = some d ∧ Xt H2 H3 ∧ (Tb Ts H2 → Tb Ts H3) ∧ Dp K (hide H3 O') x d
def tI (K : PySem.W.Frag) (Ts : List Addr) (f : En → Option (List PyData)) : TI := fun σ H R => ∃ He O en ds, Rep K Ts He O σ H en ∧ f en = some ds ∧ ∀ J H1, Xt H H1 → Tb Ts H1 → Gives K Ts J ds H1 O → R J H1
abbrev DI (X : Cx) (Ts : List Addr) (tg iter : Expr) (f : En → Option (List PyData)) : Prop := PI X tg iter (tI X.K Ts f)
theorem PI.imp {X : Cx} {tg iter : Expr} {t t' : TI} (h : PI X tg iter t) (w : ∀ σ H R, t' σ H R → t σ H R) : PI X tg iter t' := ⟨fun pins s σ H R I q => h.run pins s σ H R I (w σ H R q)⟩
def iList (f : En → Option PyData) : En → Option (List PyData) := fun en => match f en with
  | some (.list ds) => some ds
  | _ => none
def iTup (f : En → Option PyData) : En → Option (List PyData) := fun en => match f en with
  | some (.tuple ds) => some ds
  | _ => none
variable {tg e e2 : Expr} {f f2 : En → Option PyData}
theorem di_list (h : DE X Ts e f) : DI X Ts tg e (iList f) := PI.imp (pi_list h) fun σ H R ⟨He, O, en, ds, rp, hf, kk⟩ => by
  unfold iList at hf
  split at hf
  · rename_i es e
    cases hf
    refine tD.of rp e fun v H1 x1 r1 q1 => ?_
    cases q1 with
    | lst s a =>
      rename_i l vs
      refine ⟨l, rfl, ⟨vs, sqL_mono (fun o n e => (hide_some e).2) s⟩, kk _ H1 x1 r1.tabs fun O' H2 h1 h2 occ => ?_⟩
      have s2 : SqL X.K H2 l vs := sqL_mono (fun o n e => h2.get _ o e n) s
      have a2 := DpAll.mono h1 a
      have hl := DpAll.len a
      refine ⟨fun i hi => ⟨vs, vs[i]'(by omega), s2, by simp [hl, hi]⟩, ⟨vs, s2, by omega⟩, fun i x H3 hi hy => ?_⟩
      obtain ⟨rfl, hx⟩ := hy
      obtain ⟨d, hd1, hd2⟩ := DpAll.get a2 (hx vs s2)
      exact ⟨d, hd1, Xt.refl _, id, hd2⟩
  · cases hf
theorem di_tup (h : DE X Ts e f) : DI X Ts tg e (iTup f) := PI.imp (pi_tup h) fun σ H R ⟨He, O, en, ds, rp, hf, kk⟩ => by
  unfold iTup at hf
  split at hf
  · rename_i es e
    cases hf
    refine tD.of rp e fun v H1 x1 r1 q1 => ?_
    cases q1 with
    | tup s a =>
      rename_i l vs
      refine ⟨l, rfl, ⟨vs, sqT_mono (fun o n e => (hide_some e).2) s⟩, kk _ H1 x1 r1.tabs fun O' H2 h1 h2 occ => ?_⟩
      have s2 : SqT X.K H2 l vs := sqT_mono (fun o n e => h2.get _ o e n) s
      have a2 := DpAll.mono h1 a
      have hl := DpAll.len a
      refine ⟨fun i hi => ⟨vs, vs[i]'(by omega), s2, by simp [hl, hi]⟩, ⟨vs, s2, by omega⟩, fun i x H3 hi hy => ?_⟩
      obtain ⟨rfl, hx⟩ := hy
      obtain ⟨d, hd1, hd2⟩ := DpAll.get a2 (hx vs s2)
      exact ⟨d, hd1, Xt.refl _, id, hd2⟩
  · cases hf
def rangeD (lo : Int) (n : Nat) : List PyData := (List.range n).map fun (i : Nat) => PyData.int (lo + (i : Int))
def iRange1 (f : En → Option PyData) : En → Option (List PyData) := fun en => match f en with
  | some (.int j) => if -1000000 ≤ j ∧ j ≤ 1000000 then some (rangeD 0 j.toNat) else none
  | _ => none
def iRange2 (f g : En → Option PyData) : En → Option (List PyData) := fun en => (f en).bind fun x => (g en).bind fun y => match x, y with
  | .int i, .int j => if -1000000 ≤ i ∧ i ≤ 1000000 ∧ -1000000 ≤ j ∧ j ≤ 1000000 then some (rangeD i (j - i).toNat) else none
  | _, _ => none
theorem gives_range {K : PySem.W.Frag} {lo : Int} {n : Nat} {H1 : Hp} {O : List Addr} : Gives K Ts (Itr lo n) (rangeD lo n) H1 O := fun O' H2 _ _ _ => by
  have hl : (rangeD lo n).length = n := by simp [rangeD]
  refine ⟨fun i hi => by rw [hl] at hi; exact hi, by rw [hl]; exact Nat.le_refl _, fun i x H3 hi hy => ?_⟩
  obtain ⟨rfl, rfl⟩ := hy
  rw [hl] at hi
  exact ⟨.int (lo + i), by simp [rangeD, hi], Xt.refl _, id, .int _⟩
theorem di_range1 {p pos : Pos} (hg : Gl X "range") (hm : X.mg "range" = none) (ha : DE X Ts e f) (hs : starEach [e] X.env = [(false, eval e X.env)] := by rfl) : DI X Ts tg (.Call (.Name "range" p) [e] [] pos) (iRange1 f) :=
  PI.imp (pi_range1 (ta := tCons (tD X.K Ts f) tNil) hg hm (pa_cons ha pa_nil hs) hs) fun σ H R ⟨He, O, en, ds, rp, hf, kk⟩ => by
    unfold iRange1 at hf
    split at hf
    · rename_i j e
      split at hf
      · rename_i hj
        cases hf
        refine tD.of rp e fun v H1 x1 r1 q1 => ?_
        cases q1
        exact ⟨j, rfl, by omega, by omega, kk _ H1 x1 r1.tabs gives_range⟩
      · cases hf
    · cases hf
theorem di_range2 {p pos : Pos} (hg : Gl X "range") (hm : X.mg "range" = none) (ha : DE X Ts e f) (hb : DE X Ts e2 f2) (hs : starEach [e, e2] X.env = [(false, eval e X.env), (false, eval e2 X.env)] := by rfl) (hs2 : starEach [e2] X.env = [(false, eval e2 X.env)] := by rfl) : DI X Ts tg (.Call (.Name "range" p) [e, e2] [] pos) (iRange2 f f2) :=
  PI.imp (pi_range2 (ta := tCons (tD X.K Ts f) (tCons (tD X.K Ts f2) tNil)) hg hm (pa_cons ha (pa_cons hb pa_nil hs2) (by rw [hs, hs2])) hs hs2) fun σ H R ⟨He, O, en, ds, rp, hf, kk⟩ => by
    unfold iRange2 at hf
    obtain ⟨x, h1, hf1⟩ := Option.bind_eq_some_iff.mp hf
    obtain ⟨y, h2, hf2⟩ := Option.bind_eq_some_iff.mp hf1
    clear hf hf1
    split at hf2
    · rename_i i j
      split at hf2
      · rename_i hj
        cases hf2
        refine tD.of rp h1 fun v H1 x1 r1 q1 => tD.of r1 h2 fun w H2 x2 r2 q2 => ?_
        cases q1
        cases q2
        exact ⟨i, j, rfl, ⟨by omega, by omega, by omega, by omega⟩, kk _ H2 (x1.trans x2) r2.tabs gives_range⟩
      · cases hf2
    · cases hf2

/-! ### comprehensions -/
/-- the slots of the block's own names forgotten -/
def wipeE (en : En) : List Nat → En
  | [] => en
  | v :: vs => (wipeE en vs).set v .no
theorem Rep.wipe {K : PySem.W.Frag} {He : Hp} {O : List Addr} {σ : St} {H : Hp} {en : En} (r : Rep K Ts He O σ H en) : ∀ vs : List Nat, Rep K Ts He O (L2.wipe σ vs) H (wipeE en vs)
  | [] => r
  | v :: vs => by
    have ih := Rep.wipe r vs
    show Rep K Ts He O ((L2.wipe σ vs).set v none) H ((wipeE en vs).set v .no)
    refine ⟨by simp [ih.len], fun j e h => ?_, fun j ds h => ?_, fun j k ds es a h1 h2 h3 h4 => ?_, ih.occ, ih.ext, ih.tabs⟩
    · have hj : v ≠ j := fun z => by
        subst z
        by_cases hl : v < (wipeE en vs).length
        · rw [List.getElem?_set_self hl] at h; cases h
        · rw [List.getElem?_eq_none (by simpa using hl)] at h; cases h
      rw [List.getElem?_set_ne hj] at h ⊢
      exact ih.dat j e h
    · have hj : v ≠ j := fun z => by
        subst z
        by_cases hl : v < (wipeE en vs).length
        · rw [List.getElem?_set_self hl] at h; cases h
        · rw [List.getElem?_eq_none (by simpa using hl)] at h; cases h
      rw [List.getElem?_set_ne hj] at h ⊢
      exact ih.own j ds h
    · have hno : ∀ i ds, ((wipeE en vs).set v Slot.no)[i]? = some (Slot.own ds) → v ≠ i := fun i ds h z => by
        subst z
        by_cases hl : v < (wipeE en vs).length
        · rw [List.getElem?_set_self hl] at h; cases h
        · rw [List.getElem?_eq_none (by simpa using hl)] at h; cases h
      have hj := hno j ds h1
      have hk := hno k es h2
      rw [List.getElem?_set_ne hj] at h1 h3
      rw [List.getElem?_set_ne hk] at h2 h4
      exact ih.inj j k ds es a h1 h2 h3 h4
/-- the turns of a comprehension -/
def lcGo (b : PyData → En → Option En) (t : En → Option Bool) (f : En → Option PyData) (en : En) : List PyData → Option (List PyData)
  | [] => some []
  | d :: r => (b d en).bind fun e1 => (t e1).bind fun k => if k = true then (f e1).bind fun y => (lcGo b t f en r).map (y :: ·) else lcGo b t f en r
def fLc (it : En → Option (List PyData)) (b : PyData → En → Option En) (t : En → Option Bool) (f : En → Option PyData) (vs : List Nat) : En → Option PyData := fun en => (it en).bind fun ds =>
  if ds.length ≤ 1000000 then (lcGo b t f (wipeE en vs) ds).map .list else none
def kYes : En → Option Bool := fun _ => some true
theorem dts_nil : PTs X [] (tT X.K Ts kYes) := ⟨fun pins s σ H Q I ⟨He, O, en, b, rp, hf, kk⟩ => by
  cases hf
  exact pts_nil.run pins s σ H Q I (kk H (Xt.refl H) rp.tabs)⟩
theorem dts_one {c : Expr} {t : En → Option Bool} (h : DT X Ts c t) : PTs X [c] (tT X.K Ts t) := pts_one h
/-- a new list: at a place that was free -/
def tNew (K : PySem.W.Frag) (Ts : List Addr) (f : En → Option PyData) : TE := fun σ H Q => ∃ He O en ds, Rep K Ts He O σ H en ∧ f en = some (.list ds) ∧ ∀ a vs H', Xt H H' → Tb Ts H' → H a = none → H' a = some (.lst vs) → DpAll K (hide H' (a :: O)) vs ds → Q (.ref a) H'
abbrev DNew (X : Cx) (Ts : List Addr) (e : Expr) (f : En → Option PyData) : Prop := PE X e (tNew X.K Ts f)
theorem Rep.free {K : PySem.W.Frag} {He : Hp} {O : List Addr} {σ : St} {H : Hp} {en : En} (r : Rep K Ts He O σ H en) {a : Addr} (h : H a = none) : a ∉ O := fun z => (r.occ a z).1 h
theorem new_w {K : PySem.W.Frag} {f : En → Option PyData} {σ : St} {H : Hp} {Q : VK} (h : tD K Ts f σ H Q) (hl : ∀ en d, f en = some d → ∃ ds, d = .list ds) : tNew K Ts f σ H Q := by
  obtain ⟨He, O, en, d, rp, hf, kk⟩ := h
  obtain ⟨ds, rfl⟩ := hl en d hf
  exact ⟨He, O, en, ds, rp, hf, fun a vs H' x t na ha q => kk _ H' x t (.lst (.inl (.inl (hide_of (rp.free na) ha))) (DpAll.mono (hide_sub fun b hb => List.mem_cons_of_mem _ hb) q))⟩
theorem fLc_list {it : En → Option (List PyData)} {b : PyData → En → Option En} {t : En → Option Bool} {f : En → Option PyData} {vs : List Nat} : ∀ en d, fLc it b t f vs en = some d → ∃ ds, d = .list ds := fun en d h => by
  unfold fLc at h
  obtain ⟨ds, _, h⟩ := Option.bind_eq_some_iff.mp h
  split at h
  · obtain ⟨out, _, rfl⟩ := Option.map_eq_some_iff.mp h
    exact ⟨out, rfl⟩
  · cases h
/-- from the turns' data to HandS's reading -/
theorem lc_w {K : PySem.W.Frag} {it : En → Option (List PyData)} {b : PyData → En → Option En} {t : En → Option Bool} {f : En → Option PyData} {vs : List Nat} {σ : St} {H : Hp} {Q : VK} (h : tNew K Ts (fLc it b t f vs) σ H Q) :
    tLc (tI K Ts it) (gD K Ts vs b) (tT K Ts t) (tD K Ts f) vs σ H Q := by
  obtain ⟨He, O, en, out, rp, hf, kk⟩ := h
  unfold fLc at hf
  obtain ⟨ds, h1, hf1⟩ := Option.bind_eq_some_iff.mp hf
  clear hf
  split at hf1
  · rename_i hlen
    obtain ⟨out', h2, h3⟩ := Option.map_eq_some_iff.mp hf1
    cases h3
    refine ⟨He, O, en, ds, rp, h1, fun J H1 x1 t1 gv D nD => ?_⟩
    have nDH : H D = none := x1.there nD
    have r1 := rp.go x1 t1
    have rD : Rep K Ts He (D :: O) σ (upd H1 D (.lst [])) en := r1.hid nD (fun _ z => nomatch z)
    -- the state of the block between two turns
    refine ⟨fun i m H2 => m = ds.length - i ∧ i ≤ ds.length ∧ Xt H1 H2 ∧ Rep K Ts He (D :: O) (L2.wipe σ vs) H2 (wipeE en vs) ∧ ∃ acc done rest, H2 D = some (.lst acc) ∧ DpAll K (hide H2 (D :: O)) acc done ∧ acc.length ≤ i ∧ lcGo b t f (wipeE en vs) (ds.drop i) = some rest ∧ out = done ++ rest,
      ⟨ds.length, by simp, Nat.zero_le _, Xt.upd nD, rD.wipe vs, [], [], out, upd_same, .nil, Nat.zero_le _, by simpa using h2, rfl⟩, fun i m H2 hW => ?_⟩
    obtain ⟨rfl, hi, x12, r2, acc, done, rest, hD, ha, hal, hgo, hout⟩ := hW
    have xh : Xt (hide H1 O) (hide H2 (D :: O)) := fun b o e => by
      obtain ⟨e1, e2⟩ := hide_some e
      have nb : b ∉ D :: O := fun z => by
        rcases List.mem_cons.mp z with z | z
        · rw [z, nD] at e2; cases e2
        · exact e1 z
      rcases x12 b o e2 with q | ⟨ps, qs, e3, q⟩
      · exact .inl (hide_of nb q)
      · exact .inr ⟨ps, qs, e3, hide_of nb q⟩
    obtain ⟨g1, g2, g3⟩ := gv (D :: O) H2 xh (hide_out.trans x12) r2.occ
    by_cases hlt : i < ds.length
    · refine .inr ⟨g1 i hlt, fun H' => Xt H1 H' ∧ Rep K Ts He (D :: O) (L2.wipe σ vs) H' (wipeE en vs) ∧ ∃ acc done rest, H' D = some (.lst acc) ∧ DpAll K (hide H' (D :: O)) acc done ∧ acc.length ≤ i + 1 ∧ lcGo b t f (wipeE en vs) (ds.drop (i + 1)) = some rest ∧ out = done ++ rest,
        fun H' ⟨a, c⟩ => ⟨ds.length - (i + 1), by omega, rfl, hlt, a, c⟩, fun x H3 hy => ?_⟩
      obtain ⟨d, hd, x23, t23, qd⟩ := g3 i x H3 hlt hy
      have r3 := r2.go x23 (t23 r2.tabs)
      rw [List.drop_eq_getElem_cons hlt] at hgo
      have hd' : ds[i] = d := by rw [List.getElem?_eq_getElem hlt] at hd; exact Option.some.inj hd
      rw [hd'] at hgo
      unfold lcGo at hgo
      obtain ⟨e1, hb, hgo1⟩ := Option.bind_eq_some_iff.mp hgo
      obtain ⟨k, ht, hgo2⟩ := Option.bind_eq_some_iff.mp hgo1
      clear hgo hgo1
      refine ⟨He, D :: O, _, d, e1, r3, qd, hb, fun σ2 r4 hw => ⟨hw.trans (wipe_wipe _ _), ?_⟩⟩
      refine tT.of r4 ht fun H4 x34 r5 => ?_
      have x14 : Xt H2 H4 := x23.trans x34
      have hD4 : H4 D = some (.lst acc) := x14.get D _ hD (fun _ z => nomatch z)
      have ha4 := DpAll.mono (hide_mono (O := D :: O) x14) ha
      have rw4 : Rep K Ts He (D :: O) (L2.wipe σ vs) H4 (wipeE en vs) := r2.go x14 r5.tabs
      cases k with
      | false =>
        simp only [Bool.false_eq_true, if_false] at hgo2 ⊢
        exact ⟨x12.trans x14, rw4, acc, done, rest, hD4, ha4, by omega, hgo2, hout⟩
      | true =>
        simp only [if_true] at hgo2 ⊢
        obtain ⟨y, hy1, hgo3⟩ := Option.bind_eq_some_iff.mp hgo2
        obtain ⟨rest', hr1, hr2⟩ := Option.map_eq_some_iff.mp hgo3
        subst hr2
        refine tD.of r5 hy1 fun v H5 x45 r6 q6 => ?_
        have x25 : Xt H2 H5 := x14.trans x45
        have hD5 : H5 D = some (.lst acc) := x25.get D _ hD (fun _ z => nomatch z)
        have ha5 := DpAll.mono (hide_mono (O := D :: O) x25) ha
        have hDm : D ∈ D :: O := List.mem_cons_self
        have hu : Xt (hide H5 (D :: O)) (hide (upd H5 D (.lst (acc ++ [v]))) (D :: O)) := hide_upd hDm
        refine ⟨acc, hD5, by rw [sizeLine_eq]; omega, ?_, ?_, acc ++ [v], done ++ [y], rest', upd_same, DpAll.app (DpAll.mono hu ha5) (.cons (Dp.mono hu q6) .nil), by rw [List.length_append]; simp; omega, hr1, by rw [hout]; simp⟩
        · intro b o e
          have hne : b ≠ D := ne_of_none e nD
          rw [upd_ne hne]
          exact (x12.trans x25) b o e
        · have rw5 : Rep K Ts He (D :: O) (L2.wipe σ vs) H5 (wipeE en vs) := r2.go x25 r6.tabs
          have nown : ∀ j es a, (wipeE en vs)[j]? = some (Slot.own es) → (L2.wipe σ vs)[j]? = some (some (V.ref a)) → a ≠ D := fun j es a h1 h2 z => by
            obtain ⟨a', vs', g1, g2, g3, g4, _⟩ := (r1.wipe vs).own j es h1
            rw [h2] at g1
            cases g1
            rw [z, nD] at g4
            cases g4
          refine ⟨rw5.len, fun j dd h => let ⟨u, p, q⟩ := rw5.dat j dd h; ⟨u, p, Dp.mono hu q⟩, fun j es h => ?_, rw5.inj, fun bb hb => ?_, ?_, rw5.tabs.upd fun ps z => by rw [hD5] at z; cases z⟩
          · obtain ⟨a, ws, p1, p2, p3, p4, p5⟩ := rw5.own j es h
            exact ⟨a, ws, p1, p2, p3, by rw [upd_ne (nown j es a h p1)]; exact p4, DpAll.mono hu p5⟩
          · by_cases z : bb = D
            · rw [z, upd_same]
              exact ⟨by simp, fun ps q => nomatch q⟩
            · rw [upd_ne z]
              exact rw5.occ bb hb
          · intro bb o e
            have e1 := rw5.ext bb o e
            have hne : bb ≠ D := fun z => by
              have := (rp.ext.trans x1).there (b := bb) (by rw [z]; exact nD)
              rw [this] at e
              cases e
            rw [upd_ne hne]
            exact e1
    · have hie : i = ds.length := by omega
      subst hie
      rw [List.drop_of_length_le (Nat.le_refl _)] at hgo
      cases hgo
      rw [List.append_nil] at hout
      subst hout
      exact .inl ⟨g2, kk D acc H2 (x1.trans x12) r2.tabs nDH hD ha⟩
  · cases hf1
end
end DN
set_option Elab.async false
set_option linter.all false
set_option maxRecDepth 100000
set_option maxHeartbeats 4000000
namespace DN
open PySem PySem.Spec PyProof.Rows L2
abbrev BX (X : Cx) (scope : Scope) (s : Shared) (H : Hp) (C : Addr) (cl : List (Str × Addr)) (fp : List Addr) : Cx := X.blk s H scope (compEnvC scope cl C X.env) fp
section
variable {X : Cx} {Ts : List Addr} {pos : Pos} {elt tg iter : Expr} {ifs : List Expr} {scope : Scope} {own : List (Str × Nat)} {it : En → Option (List PyData)} {b : PyData → En → Option En} {t : En → Option Bool} {f : En → Option PyData}
theorem tD_of_new {K : PySem.W.Frag} {f : En → Option PyData} {σ : St} {H : Hp} {Q : VK} (hl : ∀ en d, f en = some d → ∃ ds, d = .list ds) (h : tD K Ts f σ H Q) : tNew K Ts f σ H Q := new_w h hl
/-- [elt for tg in iter if ..], as a value; as a new list -/
theorem n_lc (hc : X.calm = true) (hN : X.N.Nodup) (hi : DI X Ts tg iter it) (ok : BlkOk X.N X.env.scope scope own)
    (hg : ∀ s H C cl fp, DG (BX X scope s H C cl fp) Ts tg (own.map (·.2)) b) (ht : ∀ s H C cl fp, PTs (BX X scope s H C cl fp) ifs (tT X.K Ts t))
    (he : ∀ s H C cl fp, DE (BX X scope s H C cl fp) Ts elt f) (hs : ∀ x, foldedSetIterable iter X.env x = pure x := by intro _; rfl) : DNew X Ts (.ListComp elt [⟨tg, iter, ifs, 0⟩] scope pos) (fLc it b t f (own.map (·.2))) :=
  PE.imp (pe_lc hc hN hi ok (fun s H C cl fp => hg s H C cl fp) (fun s H C cl fp => ht s H C cl fp) (fun s H C cl fp => he s H C cl fp) hs) fun σ H Q h => lc_w h
theorem d_lc (hc : X.calm = true) (hN : X.N.Nodup) (hi : DI X Ts tg iter it) (ok : BlkOk X.N X.env.scope scope own)
    (hg : ∀ s H C cl fp, DG (BX X scope s H C cl fp) Ts tg (own.map (·.2)) b) (ht : ∀ s H C cl fp, PTs (BX X scope s H C cl fp) ifs (tT X.K Ts t))
    (he : ∀ s H C cl fp, DE (BX X scope s H C cl fp) Ts elt f) (hs : ∀ x, foldedSetIterable iter X.env x = pure x := by intro _; rfl) : DE X Ts (.ListComp elt [⟨tg, iter, ifs, 0⟩] scope pos) (fLc it b t f (own.map (·.2))) :=
  PE.imp (n_lc hc hN hi ok hg ht he hs) fun σ H Q h => new_w h fLc_list

/-! two clauses -/
def lc2Go (b : PyData → En → Option En) (t : En → Option Bool) (it2 : En → Option (List PyData)) (b2 : PyData → En → Option En) (t2 : En → Option Bool) (f : En → Option PyData) (vs2 : List Nat) (en : En) : List PyData → Option (List PyData)
  | [] => some []
  | d :: r => (b d en).bind fun e1 => (t e1).bind fun k => if k = true then (it2 e1).bind fun ds2 => (lcGo b2 t2 f (wipeE e1 vs2) ds2).bind fun o1 => (lc2Go b t it2 b2 t2 f vs2 en r).map (o1 ++ ·) else lc2Go b t it2 b2 t2 f vs2 en r
def fLc2 (it : En → Option (List PyData)) (b : PyData → En → Option En) (t : En → Option Bool) (it2 : En → Option (List PyData)) (b2 : PyData → En → Option En) (t2 : En → Option Bool) (f : En → Option PyData) (vs vs2 : List Nat) : En → Option PyData := fun en => (it en).bind fun ds =>
  (lc2Go b t it2 b2 t2 f vs2 (wipeE en vs) ds).bind fun out => if out.length ≤ 1000000 then some (.list out) else none
theorem fLc2_list {it2 : En → Option (List PyData)} {b2 : PyData → En → Option En} {t2 : En → Option Bool} {vs vs2 : List Nat} : ∀ en d, fLc2 it b t it2 b2 t2 f vs vs2 en = some d → ∃ ds, d = .list ds := fun en d h => by
  unfold fLc2 at h
  obtain ⟨ds, _, h⟩ := Option.bind_eq_some_iff.mp h
  obtain ⟨o, _, h⟩ := Option.bind_eq_some_iff.mp h
  split at h
  · cases h; exact ⟨o, rfl⟩
  · cases h
/-- the list under construction has one item more -/
theorem Rep.appD {K : PySem.W.Frag} {He : Hp} {O : List Addr} {D : Addr} {τ : St} {H5 : Hp} {en : En} {acc ws : List V} (r : Rep K Ts He O τ H5 en) (hm : D ∈ O) (hD5 : H5 D = some (.lst acc)) (nown : ∀ (j : Nat) (es : List PyData) (a : Addr), en[j]? = some (Slot.own es) → τ[j]? = some (some (V.ref a)) → a ≠ D) (hHe : He D = none) :
    Rep K Ts He O τ (upd H5 D (.lst ws)) en := by
  have hu : Xt (hide H5 O) (hide (upd H5 D (.lst ws)) O) := hide_upd hm
  refine ⟨r.len, fun j dd h => let ⟨u, p, q⟩ := r.dat j dd h; ⟨u, p, Dp.mono hu q⟩, fun j es h => ?_, r.inj, fun bb hb => ?_, fun bb o e => ?_, r.tabs.upd fun ps z => by rw [hD5] at z; cases z⟩
  · obtain ⟨a, vs, p1, p2, p3, p4, p5⟩ := r.own j es h
    exact ⟨a, vs, p1, p2, p3, by rw [upd_ne (nown j es a h p1)]; exact p4, DpAll.mono hu p5⟩
  · by_cases z : bb = D
    · rw [z, upd_same]
      exact ⟨by simp, fun ps q => nomatch q⟩
    · rw [upd_ne z]
      exact r.occ bb hb
  · have e1 := r.ext bb o e
    have hne : bb ≠ D := fun z => by rw [z, hHe] at e; cases e
    rw [upd_ne hne]
    exact e1
/-- no list of the def's own stands at D -/
def NoOwn (D : Addr) (τ : St) (en : En) : Prop := ∀ (j : Nat) (es : List PyData) (a : Addr), en[j]? = some (Slot.own es) → τ[j]? = some (some (V.ref a)) → a ≠ D
theorem Rep.noOwn {K : PySem.W.Frag} {He : Hp} {O : List Addr} {D : Addr} {τ : St} {H : Hp} {en : En} (r : Rep K Ts He O τ H en) (h : D ∉ O) : NoOwn D τ en := fun j es a h1 h2 z => by
  obtain ⟨a', vs', g1, g2, _⟩ := r.own j es h1
  rw [h2] at g1
  cases g1
  exact h (z ▸ g2)
theorem wipeE_own {en : En} {vs : List Nat} {j : Nat} {es : List PyData} (h : (wipeE en vs)[j]? = some (Slot.own es)) : en[j]? = some (Slot.own es) ∧ j ∉ vs := by
  induction vs with
  | nil => exact ⟨h, by simp⟩
  | cons v vs ih =>
    have h : ((wipeE en vs).set v .no)[j]? = some (Slot.own es) := h
    have hj : v ≠ j := fun z => by
      subst z
      by_cases hl : v < (wipeE en vs).length
      · rw [List.getElem?_set_self hl] at h; cases h
      · rw [List.getElem?_eq_none (by simpa using hl)] at h; cases h
    rw [List.getElem?_set_ne hj] at h
    obtain ⟨h1, h2⟩ := ih h
    exact ⟨h1, by simp only [List.mem_cons, not_or]; exact ⟨fun e => hj e.symm, h2⟩⟩
theorem NoOwn.wipe {D : Addr} {τ : St} {en : En} (h : NoOwn D τ en) (vs : List Nat) : NoOwn D (L2.wipe τ vs) (wipeE en vs) := fun j es a h1 h2 => by
  obtain ⟨h3, h4⟩ := wipeE_own h1
  rw [wipe_out h4] at h2
  exact h j es a h3 h2
theorem lc2_w {K : PySem.W.Frag} {it2 : En → Option (List PyData)} {b2 : PyData → En → Option En} {t2 : En → Option Bool} {vs vs2 : List Nat} {σ : St} {H : Hp} {Q : VK} (hbo : ∀ (d : PyData) (e e1 : En) (j : Nat) (es : List PyData), b d (wipeE e vs) = some e1 → e1[j]? = some (Slot.own es) → (wipeE e vs)[j]? = some (Slot.own es) ∧ j ∉ vs) (h : tNew K Ts (fLc2 it b t it2 b2 t2 f vs vs2) σ H Q) :
    tLc2 (tI K Ts it) (gD K Ts vs b) (tT K Ts t) (tI K Ts it2) (gD K Ts vs2 b2) (tT K Ts t2) (tD K Ts f) vs vs2 σ H Q := by
  obtain ⟨He, O, en, out, rp, hf, kk⟩ := h
  unfold fLc2 at hf
  obtain ⟨ds, h1, hf1⟩ := Option.bind_eq_some_iff.mp hf
  obtain ⟨out', h2, hf2⟩ := Option.bind_eq_some_iff.mp hf1
  clear hf hf1
  split at hf2
  · rename_i hlen
    cases hf2
    refine ⟨He, O, en, ds, rp, h1, fun J H1 x1 t1 gv D nD => ?_⟩
    have nDH : H D = none := x1.there nD
    have hHe : He D = none := rp.ext.there nDH
    have r1 := rp.go x1 t1
    have no0 : NoOwn D (L2.wipe σ vs) (wipeE en vs) := (r1.noOwn (r1.free nD)).wipe vs
    have rD : Rep K Ts He (D :: O) σ (upd H1 D (.lst [])) en := r1.hid nD (fun _ z => nomatch z)
    have hDm : D ∈ D :: O := List.mem_cons_self
    have xhid : ∀ {Ha Hb : Hp}, (∀ o, hide Ha O D ≠ some o) → Xt Ha Hb → Xt (hide Ha O) (hide Hb (D :: O)) := fun {Ha Hb} hn x bb o e => by
      obtain ⟨e1, e2⟩ := hide_some e
      have nb : bb ∉ D :: O := fun z => by
        rcases List.mem_cons.mp z with z | z
        · rw [z] at e; exact hn o e
        · exact e1 z
      rcases x bb o e2 with q | ⟨ps, qs, e3, q⟩
      · exact .inl (hide_of nb q)
      · exact .inr ⟨ps, qs, e3, hide_of nb q⟩
    refine ⟨fun i m H2 => m = ds.length - i ∧ i ≤ ds.length ∧ Xt H1 H2 ∧ Rep K Ts He (D :: O) (L2.wipe σ vs) H2 (wipeE en vs) ∧ ∃ acc done rest, H2 D = some (.lst acc) ∧ DpAll K (hide H2 (D :: O)) acc done ∧ lc2Go b t it2 b2 t2 f vs2 (wipeE en vs) (ds.drop i) = some rest ∧ out = done ++ rest,
      ⟨ds.length, by simp, Nat.zero_le _, Xt.upd nD, rD.wipe vs, [], [], out, upd_same, .nil, by simpa using h2, rfl⟩, fun i m H2 hW => ?_⟩
    obtain ⟨rfl, hi, x12, r2, acc, done, rest, hD, ha, hgo, hout⟩ := hW
    obtain ⟨g1, g2, g3⟩ := gv (D :: O) H2 (xhid (fun o e => by rw [(hide_some e).2] at nD; cases nD) x12) (hide_out.trans x12) r2.occ
    by_cases hlt : i < ds.length
    · refine .inr ⟨g1 i hlt, fun H' => Xt H1 H' ∧ Rep K Ts He (D :: O) (L2.wipe σ vs) H' (wipeE en vs) ∧ ∃ acc done rest, H' D = some (.lst acc) ∧ DpAll K (hide H' (D :: O)) acc done ∧ lc2Go b t it2 b2 t2 f vs2 (wipeE en vs) (ds.drop (i + 1)) = some rest ∧ out = done ++ rest,
        fun H' ⟨a, c⟩ => ⟨ds.length - (i + 1), by omega, rfl, hlt, a, c⟩, fun x H3 hy => ?_⟩
      obtain ⟨d, hd, x23, t23, qd⟩ := g3 i x H3 hlt hy
      have r3 := r2.go x23 (t23 r2.tabs)
      rw [List.drop_eq_getElem_cons hlt] at hgo
      have hd' : ds[i] = d := by rw [List.getElem?_eq_getElem hlt] at hd; exact Option.some.inj hd
      rw [hd'] at hgo
      unfold lc2Go at hgo
      obtain ⟨e1, hb, hgo1⟩ := Option.bind_eq_some_iff.mp hgo
      obtain ⟨k, ht, hgo2⟩ := Option.bind_eq_some_iff.mp hgo1
      clear hgo hgo1
      refine ⟨He, D :: O, _, d, e1, r3, qd, hb, fun σ2 r4 hw => ⟨hw.trans (wipe_wipe _ _), ?_⟩⟩
      have no1 : NoOwn D σ2 e1 := fun j es a q1 q2 => by
        obtain ⟨q3, q4⟩ := hbo _ _ _ j es hb q1
        have e3 : σ2[j]? = (L2.wipe σ vs)[j]? := by rw [← wipe_out q4, hw, wipe_wipe]
        rw [e3] at q2
        exact no0 j es a q3 q2
      refine tT.of r4 ht fun H4 x34 r5 => ?_
      have x14 : Xt H2 H4 := x23.trans x34
      have hD4 : H4 D = some (.lst acc) := x14.get D _ hD (fun _ z => nomatch z)
      have ha4 := DpAll.mono (hide_mono (O := D :: O) x14) ha
      have rw4 : Rep K Ts He (D :: O) (L2.wipe σ vs) H4 (wipeE en vs) := r2.go x14 r5.tabs
      cases k with
      | false =>
        simp only [Bool.false_eq_true, if_false] at hgo2 ⊢
        exact ⟨x12.trans x14, rw4, acc, done, rest, hD4, ha4, hgo2, hout⟩
      | true =>
        simp only [if_true] at hgo2 ⊢
        obtain ⟨ds2, hi2, hgo3⟩ := Option.bind_eq_some_iff.mp hgo2
        obtain ⟨o1, hl1, hgo4⟩ := Option.bind_eq_some_iff.mp hgo3
        obtain ⟨rest', hr1, hr2⟩ := Option.map_eq_some_iff.mp hgo4
        clear hgo2 hgo3 hgo4
        subst hr2
        refine ⟨He, D :: O, e1, ds2, r5, hi2, fun J1 H6 x46 t6 gv1 => ?_⟩
        have x26 : Xt H2 H6 := x14.trans x46
        have hD6 : H6 D = some (.lst acc) := x26.get D _ hD (fun _ z => nomatch z)
        have ha6 := DpAll.mono (hide_mono (O := D :: O) x26) ha
        -- the inner turns
        refine ⟨fun j k H7 => k = ds2.length - j ∧ j ≤ ds2.length ∧ (∀ bb o, bb ≠ D → H6 bb = some o → H7 bb = some o ∨ ∃ ps qs, o = .tbl ps ∧ H7 bb = some (.tbl qs)) ∧ Rep K Ts He (D :: O) (L2.wipe σ2 vs2) H7 (wipeE e1 vs2) ∧ Rep K Ts He (D :: O) (L2.wipe σ vs) H7 (wipeE en vs) ∧ ∃ acc1 done1 rest1, H7 D = some (.lst acc1) ∧ DpAll K (hide H7 (D :: O)) acc1 done1 ∧ lcGo b2 t2 f (wipeE e1 vs2) (ds2.drop j) = some rest1 ∧ out = done1 ++ (rest1 ++ rest'),
          ⟨ds2.length, by simp, Nat.zero_le _, fun bb o _ e => .inl e, (r5.go x46 t6).wipe vs2, r2.go x26 t6, acc, done, o1, hD6, ha6, by simpa using hl1, hout⟩, fun j k H7 hW => ?_⟩
        obtain ⟨rfl, hj, x67, r7, r7o, acc1, done1, rest1, hD7, ha7, hgo7, hout7⟩ := hW
        have xh7 : Xt (hide H6 (D :: O)) (hide H7 (D :: O)) := fun bb o e => by
          obtain ⟨q1, q2⟩ := hide_some e
          have hne : bb ≠ D := fun z => q1 (z ▸ hDm)
          rcases x67 bb o hne q2 with q | ⟨ps, qs, e3, q⟩
          · exact .inl (hide_of q1 q)
          · exact .inr ⟨ps, qs, e3, hide_of q1 q⟩
        obtain ⟨m1, m2, m3⟩ := gv1 (D :: O) H7 xh7 (xh7.trans hide_out) r7.occ
        have x17 : Xt H1 H7 := fun bb o e => by
          have hne : bb ≠ D := ne_of_none e nD
          rcases (x12.trans x26) bb o e with q | ⟨ps, qs, e3, q⟩
          · exact x67 bb o hne q
          · rcases x67 bb _ hne q with q' | ⟨_, qs', _, q'⟩
            · exact .inr ⟨ps, qs, e3, q'⟩
            · exact .inr ⟨ps, qs', e3, q'⟩
        by_cases hlt2 : j < ds2.length
        · refine .inr ⟨m1 j hlt2, fun H' => (∀ bb o, bb ≠ D → H6 bb = some o → H' bb = some o ∨ ∃ ps qs, o = .tbl ps ∧ H' bb = some (.tbl qs)) ∧ Rep K Ts He (D :: O) (L2.wipe σ2 vs2) H' (wipeE e1 vs2) ∧ Rep K Ts He (D :: O) (L2.wipe σ vs) H' (wipeE en vs) ∧ ∃ acc1 done1 rest1, H' D = some (.lst acc1) ∧ DpAll K (hide H' (D :: O)) acc1 done1 ∧ lcGo b2 t2 f (wipeE e1 vs2) (ds2.drop (j + 1)) = some rest1 ∧ out = done1 ++ (rest1 ++ rest'),
            fun H' ⟨a, c⟩ => ⟨ds2.length - (j + 1), by omega, rfl, hlt2, a, c⟩, fun x' H8 hy' => ?_⟩
          obtain ⟨d', hd2, x78, t78, qd'⟩ := m3 j x' H8 hlt2 hy'
          have r8 := r7.go x78 (t78 r7.tabs)
          rw [List.drop_eq_getElem_cons hlt2] at hgo7
          have hd2' : ds2[j] = d' := by rw [List.getElem?_eq_getElem hlt2] at hd2; exact Option.some.inj hd2
          rw [hd2'] at hgo7
          unfold lcGo at hgo7
          obtain ⟨e2, hb2, hgo8⟩ := Option.bind_eq_some_iff.mp hgo7
          obtain ⟨k2, ht2, hgo9⟩ := Option.bind_eq_some_iff.mp hgo8
          clear hgo7 hgo8
          refine ⟨He, D :: O, _, d', e2, r8, qd', hb2, fun σ3 r9 hw2 => ⟨hw2.trans (wipe_wipe _ _), ?_⟩⟩
          refine tT.of r9 ht2 fun H9 x89 r10 => ?_
          have x79 : Xt H7 H9 := x78.trans x89
          have step : ∀ {Ha : Hp}, Xt H7 Ha → ∀ bb o, bb ≠ D → H6 bb = some o → Ha bb = some o ∨ ∃ ps qs, o = .tbl ps ∧ Ha bb = some (.tbl qs) := fun {Ha} xa bb o hne e => by
            rcases x67 bb o hne e with q | ⟨ps, qs, e3, q⟩
            · exact xa bb o q
            · rcases xa bb _ q with q' | ⟨_, qs', _, q'⟩
              · exact .inr ⟨ps, qs, e3, q'⟩
              · exact .inr ⟨ps, qs', e3, q'⟩
          cases k2 with
          | false =>
            simp only [Bool.false_eq_true, if_false] at hgo9 ⊢
            exact ⟨step x79, r7.go x79 r10.tabs, r7o.go x79 r10.tabs, acc1, done1, rest1, x79.get D _ hD7 (fun _ z => nomatch z), DpAll.mono (hide_mono x79) ha7, hgo9, hout7⟩
          | true =>
            simp only [if_true] at hgo9 ⊢
            obtain ⟨y, hy1, hgo10⟩ := Option.bind_eq_some_iff.mp hgo9
            obtain ⟨rest2, hr3, hr4⟩ := Option.map_eq_some_iff.mp hgo10
            subst hr4
            refine tD.of r10 hy1 fun v H10 x910 r11 q11 => ?_
            have x710 : Xt H7 H10 := x79.trans x910
            have hD10 : H10 D = some (.lst acc1) := x710.get D _ hD7 (fun _ z => nomatch z)
            have ha10 := DpAll.mono (hide_mono (O := D :: O) x710) ha7
            have hu : Xt (hide H10 (D :: O)) (hide (upd H10 D (.lst (acc1 ++ [v]))) (D :: O)) := hide_upd hDm
            have hlen1 : acc1.length ≤ out.length := by rw [DpAll.len ha7, hout7, List.length_append]; omega
            refine ⟨acc1, hD10, by rw [sizeLine_eq]; omega, fun bb o hne e => ?_, (r7.go x710 r11.tabs).appD hDm hD10 (no1.wipe vs2) hHe, (r7o.go x710 r11.tabs).appD hDm hD10 no0 hHe, acc1 ++ [v], done1 ++ [y], rest2, upd_same, DpAll.app (DpAll.mono hu ha10) (.cons (Dp.mono hu q11) .nil), hr3, by rw [hout7]; simp⟩
            rw [upd_ne hne]
            exact step x710 bb o hne e
        · have hje : j = ds2.length := by omega
          subst hje
          rw [List.drop_of_length_le (Nat.le_refl _)] at hgo7
          cases hgo7
          exact .inl ⟨m2, x17, r7o, acc1, done1, rest', hD7, ha7, hr1, by rw [hout7]; simp⟩
    · have hie : i = ds.length := by omega
      subst hie
      rw [List.drop_of_length_le (Nat.le_refl _)] at hgo
      cases hgo
      rw [List.append_nil] at hout
      subst hout
      exact .inl ⟨g2, kk D acc H2 (x1.trans x12) r2.tabs nDH hD ha⟩
  · cases hf2
/-- what a target writes is data at its own slots -/
theorem bName_own {i : Nat} {vs : List Nat} : ∀ (d : PyData) (e e1 : En) (j : Nat) (es : List PyData), bName i d (wipeE e vs) = some e1 → e1[j]? = some (Slot.own es) → (wipeE e vs)[j]? = some (Slot.own es) ∧ j ∉ vs := fun d e e1 j es h h1 => by
  unfold bName at h
  split at h
  · cases h
    have hj : i ≠ j := fun z => by
      subst z
      rename_i hl
      rw [List.getElem?_set_self hl] at h1
      cases h1
    rw [List.getElem?_set_ne hj] at h1
    exact ⟨h1, (wipeE_own h1).2⟩
  · cases h
theorem n_lc2 {i : Nat} {tg1 iter1 : Expr} {ifs1 : List Expr} {vs1 : List Nat} {it2 : En → Option (List PyData)} {b2 : PyData → En → Option En} {t2 : En → Option Bool} (hc : X.calm = true) (hN : X.N.Nodup) (hi : DI X Ts tg iter it) (ok : BlkOk X.N X.env.scope scope own) (hv : ∀ i ∈ vs1, i ∈ own.map (·.2))
    (hg : ∀ s H C cl fp, DG (BX X scope s H C cl fp) Ts tg (own.map (·.2)) (bName i)) (ht : ∀ s H C cl fp, PTs (BX X scope s H C cl fp) ifs (tT X.K Ts t))
    (hi1 : ∀ s H C cl fp, DI (BX X scope s H C cl fp) Ts tg1 iter1 it2) (hg1 : ∀ s H C cl fp, DG (BX X scope s H C cl fp) Ts tg1 vs1 b2) (ht1 : ∀ s H C cl fp, PTs (BX X scope s H C cl fp) ifs1 (tT X.K Ts t2))
    (he : ∀ s H C cl fp, DE (BX X scope s H C cl fp) Ts elt f) (hs : ∀ x, foldedSetIterable iter X.env x = pure x := by intro _; rfl) (hs1 : ∀ env x, foldedSetIterable iter1 env x = pure x := by intro _ _; rfl) :
    DNew X Ts (.ListComp elt [⟨tg, iter, ifs, 0⟩, ⟨tg1, iter1, ifs1, 0⟩] scope pos) (fLc2 it (bName i) t it2 b2 t2 f (own.map (·.2)) vs1) :=
  PE.imp (pe_lc2 hc hN hi ok hv (fun s H C cl fp => hg s H C cl fp) (fun s H C cl fp => ht s H C cl fp) (fun s H C cl fp => hi1 s H C cl fp) (fun s H C cl fp => hg1 s H C cl fp) (fun s H C cl fp => ht1 s H C cl fp) (fun s H C cl fp => he s H C cl fp) hs hs1) fun σ H Q h => lc2_w bName_own h
theorem d_lc2 {i : Nat} {tg1 iter1 : Expr} {ifs1 : List Expr} {vs1 : List Nat} {it2 : En → Option (List PyData)} {b2 : PyData → En → Option En} {t2 : En → Option Bool} (hc : X.calm = true) (hN : X.N.Nodup) (hi : DI X Ts tg iter it) (ok : BlkOk X.N X.env.scope scope own) (hv : ∀ i ∈ vs1, i ∈ own.map (·.2))
    (hg : ∀ s H C cl fp, DG (BX X scope s H C cl fp) Ts tg (own.map (·.2)) (bName i)) (ht : ∀ s H C cl fp, PTs (BX X scope s H C cl fp) ifs (tT X.K Ts t))
    (hi1 : ∀ s H C cl fp, DI (BX X scope s H C cl fp) Ts tg1 iter1 it2) (hg1 : ∀ s H C cl fp, DG (BX X scope s H C cl fp) Ts tg1 vs1 b2) (ht1 : ∀ s H C cl fp, PTs (BX X scope s H C cl fp) ifs1 (tT X.K Ts t2))
    (he : ∀ s H C cl fp, DE (BX X scope s H C cl fp) Ts elt f) (hs : ∀ x, foldedSetIterable iter X.env x = pure x := by intro _; rfl) (hs1 : ∀ env x, foldedSetIterable iter1 env x = pure x := by intro _ _; rfl) :
    DE X Ts (.ListComp elt [⟨tg, iter, ifs, 0⟩, ⟨tg1, iter1, ifs1, 0⟩] scope pos) (fLc2 it (bName i) t it2 b2 t2 f (own.map (·.2)) vs1) :=
  PE.imp (n_lc2 hc hN hi ok hv hg ht hi1 hg1 ht1 he hs hs1) fun σ H Q h => new_w h fLc2_list

/-! ### all, any of a generator expression -/
def allGo (ev : Bool) (b : PyData → En → Option En) (f : En → Option PyData) (en : En) : List PyData → Option PyData
  | [] => some (.bool ev)
  | d :: r => (b d en).bind fun e1 => match f e1 with
    | some (.bool k) => if k = ev then allGo ev b f en r else some (.bool k)
    | _ => none
def fAll (ev : Bool) (it : En → Option (List PyData)) (b : PyData → En → Option En) (f : En → Option PyData) (vs : List Nat) : En → Option PyData := fun en => (it en).bind fun ds => allGo ev b f (wipeE en vs) ds
theorem all_w {K : PySem.W.Frag} {ev : Bool} {P : Addr} {vs : List Nat} {σ : St} {H : Hp} {Q : VK} (hP : P ∈ Ts) (h : tD K Ts (fAll ev it b f vs) σ H Q) : GA.tGen ev P (tI K Ts it) (gD K Ts vs b) (tD K Ts f) vs σ H Q := by
  obtain ⟨He, O, en, d0, rp, hf, kk⟩ := h
  unfold fAll at hf
  obtain ⟨ds, h1, h2⟩ := Option.bind_eq_some_iff.mp hf
  clear hf
  refine ⟨He, O, en, ds, rp, h1, fun J H1 x1 t1 gv => ⟨t1 P hP, fun Hn tb => ?_⟩⟩
  have xn : Xt H1 Hn := fun bb o e => by
    by_cases z : bb = P
    · obtain ⟨ps, e1, _⟩ := t1 P hP
      obtain ⟨qs, e2, _⟩ := tb.1
      rw [z] at e ⊢
      rw [e1] at e
      cases e
      exact .inr ⟨ps, qs, rfl, e2⟩
    · rw [tb.2 bb z]
      exact .inl e
  have tn : Tb Ts Hn := fun P' hP' => by
    by_cases z : P' = P
    · rw [z]; exact tb.1
    · obtain ⟨ps, e1, e2⟩ := t1 P' hP'
      exact ⟨ps, by rw [tb.2 P' z]; exact e1, e2⟩
  refine ⟨fun i m H2 => m = ds.length - i ∧ i ≤ ds.length ∧ Xt H1 H2 ∧ Rep K Ts He O (L2.wipe σ vs) H2 (wipeE en vs) ∧ allGo ev b f (wipeE en vs) (ds.drop i) = some d0,
    ⟨ds.length, by simp, Nat.zero_le _, xn, ((rp.go x1 t1).go xn tn).wipe vs, by simpa using h2⟩, fun i m H2 hW => ?_⟩
  obtain ⟨rfl, hi, x12, r2, hgo⟩ := hW
  obtain ⟨g1, g2, g3⟩ := gv O H2 (hide_mono x12) (hide_out.trans x12) r2.occ
  by_cases hlt : i < ds.length
  · refine .inr ⟨g1 i hlt, fun H' => Xt H1 H' ∧ Rep K Ts He O (L2.wipe σ vs) H' (wipeE en vs) ∧ allGo ev b f (wipeE en vs) (ds.drop (i + 1)) = some d0, fun H' ⟨a, c⟩ => ⟨ds.length - (i + 1), by omega, rfl, hlt, a, c⟩, fun x H3 hy => ?_⟩
    obtain ⟨d, hd, x23, t23, qd⟩ := g3 i x H3 hlt hy
    have r3 := r2.go x23 (t23 r2.tabs)
    rw [List.drop_eq_getElem_cons hlt] at hgo
    have hd' : ds[i] = d := by rw [List.getElem?_eq_getElem hlt] at hd; exact Option.some.inj hd
    rw [hd'] at hgo
    unfold allGo at hgo
    obtain ⟨e1, hb, hgo1⟩ := Option.bind_eq_some_iff.mp hgo
    clear hgo
    refine ⟨He, O, _, d, e1, r3, qd, hb, fun σ2 r4 hw => ⟨hw.trans (wipe_wipe _ _), ?_⟩⟩
    split at hgo1
    · rename_i k hk
      refine tD.of r4 hk fun v H4 x34 r5 q5 => ?_
      cases q5
      refine ⟨k, rfl, ?_⟩
      by_cases hke : k = ev
      · rw [if_pos hke] at hgo1 ⊢
        exact ⟨x12.trans (x23.trans x34), r2.go (x23.trans x34) r5.tabs, hgo1⟩
      · rw [if_neg hke] at hgo1 ⊢
        cases hgo1
        exact kk _ H4 (x1.trans (x12.trans (x23.trans x34))) r5.tabs (.bl _)
    · cases hgo1
  · have hie : i = ds.length := by omega
    subst hie
    rw [List.drop_of_length_le (Nat.le_refl _)] at hgo
    cases hgo
    exact .inl ⟨g2, kk _ H2 (x1.trans x12) r2.tabs (.bl _)⟩
abbrev GX (X : Cx) (scope : Scope) (s : Shared) (H : Hp) (cl : List (Str × Addr)) (C : Addr) (code : Value) (fp : List Addr) (pn : List (Addr × Obj)) : Cx := GA.gCx X s H (genEnv scope cl C code builtinsNs X.env) fp pn
theorem d_all {c P : Addr} {p gpos : Pos} {k : Nat} (hr : Room k X.A) (hgl : Gl X "all") (hm : X.mg "all" = none) (hb : bootBuiltins "all" = some (.builtin "all")) (TB : LamX.TabB X.base X.mg c P) (hP : P ∈ Ts) (hcode : X.env.code = .ref c) (hc : X.calm = true) (hN : X.N.Nodup)
    (hi : DI X Ts tg iter it) (ok : BlkOk X.N X.env.scope scope own) (gk : GA.GenK scope) (hg : ∀ s H cl C code fp pn, DG (GX X scope s H cl C code fp pn) Ts tg (own.map (·.2)) b) (he : ∀ s H cl C code fp pn, DE (GX X scope s H cl C code fp pn) Ts elt f)
    (hs : ∀ v, genFold iter X.env v = pure v := by intro _; rfl) (hst : starEach [.GeneratorExp elt [⟨tg, iter, [], 0⟩] scope gpos] X.env = (false, eval (.GeneratorExp elt [⟨tg, iter, [], 0⟩] scope gpos) X.env) :: starEach [] X.env := by rfl) :
    DE X Ts (.Call (.Name "all" p) [.GeneratorExp elt [⟨tg, iter, [], 0⟩] scope gpos] [] pos) (fAll true it b f (own.map (·.2))) :=
  PE.imp (GA.pe_allG hr hgl hm hb TB hcode hc hN hi ok gk (fun s H cl C code fp pn => hg s H cl C code fp pn) (fun s H cl C code fp pn => he s H cl C code fp pn) hs hst) fun σ H Q h => all_w hP h
theorem d_any {c P : Addr} {p gpos : Pos} {k : Nat} (hr : Room k X.A) (hgl : Gl X "any") (hm : X.mg "any" = none) (hb : bootBuiltins "any" = some (.builtin "any")) (TB : LamX.TabB X.base X.mg c P) (hP : P ∈ Ts) (hcode : X.env.code = .ref c) (hc : X.calm = true) (hN : X.N.Nodup)
    (hi : DI X Ts tg iter it) (ok : BlkOk X.N X.env.scope scope own) (gk : GA.GenK scope) (hg : ∀ s H cl C code fp pn, DG (GX X scope s H cl C code fp pn) Ts tg (own.map (·.2)) b) (he : ∀ s H cl C code fp pn, DE (GX X scope s H cl C code fp pn) Ts elt f)
    (hs : ∀ v, genFold iter X.env v = pure v := by intro _; rfl) (hst : starEach [.GeneratorExp elt [⟨tg, iter, [], 0⟩] scope gpos] X.env = (false, eval (.GeneratorExp elt [⟨tg, iter, [], 0⟩] scope gpos) X.env) :: starEach [] X.env := by rfl) :
    DE X Ts (.Call (.Name "any" p) [.GeneratorExp elt [⟨tg, iter, [], 0⟩] scope gpos] [] pos) (fAll false it b f (own.map (·.2))) :=
  PE.imp (GA.pe_anyG hr hgl hm hb TB hcode hc hN hi ok gk (fun s H cl C code fp pn => hg s H cl C code fp pn) (fun s H cl C code fp pn => he s H cl C code fp pn) hs hst) fun σ H Q h => all_w hP h
end
end DN
set_option Elab.async false
set_option linter.all false
set_option maxRecDepth 100000
set_option maxHeartbeats 4000000
namespace DN
open PySem PySem.Spec PyProof.Rows L2
/-! ### statements -/
inductive Fl where
  | nx (en : En) | rt (d : PyData) | bk (en : En) | ct (en : En)
/-- the slots' data within a def's body: entered at He, the caller's hidden addresses at O₀ -/
def RepS (K : PySem.W.Frag) (Ts : List Addr) (He : Hp) (O₀ : List Addr) (Vz : Hp) (σ : St) (H : Hp) (en : En) : Prop := ∃ O, (∀ b ∈ O₀, b ∈ O) ∧ (∀ b ∈ O₀, He b ≠ none) ∧ Rep K Ts He O σ H en ∧ Xt Vz (hide H O)
def Post (K : PySem.W.Frag) (Ts : List Addr) (He : Hp) (O₀ : List Addr) (Vz : Hp) (D : Ends) : Fl → Prop
  | .nx en => ∀ σ' H', RepS K Ts He O₀ Vz σ' H' en → D.nx σ' H'
  | .rt d => ∀ v H', Xt He H' → Tb Ts H' → Dp K (hide H' O₀) v d → D.rt v H'
  | .bk en => ∀ σ' H', RepS K Ts He O₀ Vz σ' H' en → D.bk σ' H'
  | .ct en => ∀ σ' H', RepS K Ts He O₀ Vz σ' H' en → D.ct σ' H'
def tS (K : PySem.W.Frag) (Ts : List Addr) (F : En → Option Fl) : TS := fun D σ H => ∃ He O₀ Vz en r, RepS K Ts He O₀ Vz σ H en ∧ F en = some r ∧ Post K Ts He O₀ Vz D r
abbrev DS (X : Cx) (Ts : List Addr) (st : Stmt) (F : En → Option Fl) : Prop := PS X st (tS X.K Ts F)
abbrev DSs (X : Cx) (Ts : List Addr) (st : List Stmt) (F : En → Option Fl) : Prop := PSs X st (tS X.K Ts F)
theorem RepS.go {K : PySem.W.Frag} {Ts : List Addr} {He : Hp} {O₀ : List Addr} {σ : St} {H H' : Hp} {en : En} {Vz : Hp} (r : RepS K Ts He O₀ Vz σ H en) (x : Xt H H') (t : Tb Ts H') : RepS K Ts He O₀ Vz σ H' en :=
  let ⟨O, a, b, c, d⟩ := r; ⟨O, a, b, c.go x t, d.trans (hide_mono x)⟩
def sSeq (F G : En → Option Fl) : En → Option Fl := fun en => match F en with
  | some (.nx e) => G e
  | r => r
def sNil : En → Option Fl := fun en => some (.nx en)
def sSet (i : Nat) (f : En → Option PyData) : En → Option Fl := fun en => (f en).bind fun d => (bName i d en).map .nx
def sBind (b : PyData → En → Option En) (f : En → Option PyData) : En → Option Fl := fun en => (f en).bind fun d => (b d en).map .nx
def sOwn (i : Nat) (f : En → Option PyData) : En → Option Fl := fun en => match f en with
  | some (.list ds) => if i < en.length then some (.nx (en.set i (.own ds))) else none
  | _ => none
def sApp (i : Nat) (f : En → Option PyData) : En → Option Fl := fun en => (f en).bind fun d => match en[i]? with
  | some (.own ds) => if ds.length ≤ 1000000 then some (.nx (en.set i (.own (ds ++ [d])))) else none
  | _ => none
def sRel (i : Nat) : En → Option Fl := fun en => match en[i]? with
  | some (.own ds) => some (.nx (en.set i (.dat (.list ds))))
  | _ => none
def sIf (t : En → Option Bool) (F G : En → Option Fl) : En → Option Fl := fun en => match t en with
  | some true => F en
  | some false => G en
  | none => none
def sRet (f : En → Option PyData) : En → Option Fl := fun en => (f en).map .rt
def sExpr (f : En → Option PyData) : En → Option Fl := fun en => (f en).map fun _ => .nx en
def sNever : En → Option Fl := fun _ => none
def sBk : En → Option Fl := fun en => some (.bk en)
def sCt : En → Option Fl := fun en => some (.ct en)
def forGo (b : PyData → En → Option En) (F : En → Option Fl) : List PyData → En → Option Fl
  | [], en => some (.nx en)
  | d :: r, en => (b d en).bind fun e1 => match F e1 with
    | some (.nx e2) => forGo b F r e2
    | some (.ct e2) => forGo b F r e2
    | some (.bk e2) => some (.nx e2)
    | some (.rt v) => some (.rt v)
    | none => none
def sFor (it : En → Option (List PyData)) (b : PyData → En → Option En) (F : En → Option Fl) : En → Option Fl := fun en => (it en).bind fun ds => forGo b F ds en
def whGo (t : En → Option Bool) (F : En → Option Fl) : Nat → En → Option Fl
  | 0, _ => none
  | n + 1, en => match t en with
    | some true => match F en with
      | some (.nx e2) => whGo t F n e2
      | some (.ct e2) => whGo t F n e2
      | some (.bk e2) => some (.nx e2)
      | some (.rt v) => some (.rt v)
      | none => none
    | some false => some (.nx en)
    | none => none
def sWhile (n : En → Nat) (t : En → Option Bool) (F : En → Option Fl) : En → Option Fl := fun en => whGo t F (n en) en
def sAug (i : Nat) (g : PyData → PyData → Option PyData) (f : En → Option PyData) : En → Option Fl := fun en => (fVar i en).bind fun x => (f en).bind fun y => (g x y).bind fun z => (bName i z en).map .nx
def sPar (i j : Nat) (f g : En → Option PyData) : En → Option Fl := fun en => (f en).bind fun x => (g en).bind fun y => (bName i x en).bind fun e1 => (bName j y e1).map .nx
section
variable {X : Cx} {Ts : List Addr} {pos : Pos} {st : Stmt} {rest : List Stmt} {F G : En → Option Fl} {e : Expr} {f g : En → Option PyData}
theorem s_nil : DSs X Ts [] sNil := PSs.imp pss_nil fun D σ H ⟨He, O₀, Vz, en, r, rp, hf, k⟩ => by
  cases hf
  exact k σ H rp
theorem s_cons (h1 : DS X Ts st F) (h2 : DSs X Ts rest G) : DSs X Ts (st :: rest) (sSeq F G) := PSs.imp (pss_cons h1 h2) fun D σ H ⟨He, O₀, Vz, en, r, rp, hf, k⟩ => by
  unfold sSeq at hf
  split at hf
  · rename_i e1 h
    exact ⟨He, O₀, Vz, en, _, rp, h, fun σ' H' r' => ⟨He, O₀, Vz, e1, r, r', hf, k⟩⟩
  · rename_i hn
    refine ⟨He, O₀, Vz, en, r, rp, hf, ?_⟩
    cases r with
    | nx e1 => exact absurd hf (hn e1)
    | rt d => exact k
    | bk e1 => exact k
    | ct e1 => exact k
theorem s_one (h1 : DS X Ts st F) : DSs X Ts [st] F := pss_one h1
/-- a step of the reading alone: a list of the def's own is one to be kept from here on -/
theorem s_rel (i : Nat) (h : DSs X Ts rest G) : DSs X Ts rest (sSeq (sRel i) G) := PSs.imp h fun D σ H ⟨He, O₀, Vz, en, r, rp, hf, k⟩ => by
  unfold sSeq sRel at hf
  split at hf
  · rename_i e1 h1
    split at h1
    · rename_i ds hd
      cases h1
      refine ⟨He, O₀, Vz, _, r, ?_, hf, k⟩
      obtain ⟨O, a1, a2, rp, xv⟩ := rp
      obtain ⟨a, vs, p1, p2, p3, p4, p5⟩ := rp.own i ds hd
      have hi : i < en.length := (List.getElem?_eq_some_iff.mp hd).1
      have hsub : ∀ b ∈ O.filter (fun b => decide (b ≠ a)), b ∈ O := fun b hb => (List.mem_filter.mp hb).1
      have nA : a ∉ O.filter (fun b => decide (b ≠ a)) := fun z => by simpa using (List.mem_filter.mp z).2
      have hs : Xt (hide H O) (hide H (O.filter (fun b => decide (b ≠ a)))) := hide_sub hsub
      refine ⟨O.filter (fun b => decide (b ≠ a)), fun b hb => List.mem_filter.mpr ⟨a1 b hb, decide_eq_true fun z => a2 b hb (by rw [z]; exact p3)⟩, a2, ⟨by simp [rp.len], fun j d h => ?_, fun j es h => ?_, fun j k es es' aa h1 h2 h3 h4 => ?_, fun b hb => rp.occ b (hsub b hb), rp.ext, rp.tabs⟩, xv.trans hs⟩
      · by_cases hj : i = j
        · subst hj
          rw [List.getElem?_set_self hi] at h
          cases h
          exact ⟨.ref a, p1, .lst (.inl (.inl (hide_of nA p4))) (DpAll.mono hs p5)⟩
        · rw [List.getElem?_set_ne hj] at h
          obtain ⟨v, q1, q2⟩ := rp.dat j d h
          exact ⟨v, q1, Dp.mono hs q2⟩
      · have hj : i ≠ j := fun z => by subst z; rw [List.getElem?_set_self hi] at h; cases h
        rw [List.getElem?_set_ne hj] at h
        obtain ⟨a', vs', q1, q2, q3, q4, q5⟩ := rp.own j es h
        refine ⟨a', vs', q1, List.mem_filter.mpr ⟨q2, decide_eq_true fun z => hj ?_⟩, q3, q4, DpAll.mono hs q5⟩
        subst z
        exact rp.inj i j ds es a' hd h p1 q1
      · have hj : i ≠ j := fun z => by subst z; rw [List.getElem?_set_self hi] at h1; cases h1
        have hk : i ≠ k := fun z => by subst z; rw [List.getElem?_set_self hi] at h2; cases h2
        rw [List.getElem?_set_ne hj] at h1
        rw [List.getElem?_set_ne hk] at h2
        exact rp.inj j k es es' aa h1 h2 h3 h4
    · cases h1
  · rename_i hn
    split at hf
    · rename_i ds hd
      exact absurd (show (match en[i]? with
        | some (Slot.own ds) => some (Fl.nx (List.set en i (Slot.dat (PyData.list ds))))
        | x => none) = some (Fl.nx (List.set en i (Slot.dat (PyData.list ds)))) by rw [hd]) (hn _)
    · cases hf
theorem RepS.setD {K : PySem.W.Frag} {He : Hp} {O₀ O : List Addr} {σ : St} {H : Hp} {en e1 : En} {i : Nat} {x : V} {d : PyData} (a1 : ∀ b ∈ O₀, b ∈ O) (a2 : ∀ b ∈ O₀, He b ≠ none) (rp : Rep K Ts He O σ H en) (hb : bName i d en = some e1) (q : Dp K (hide H O) x d) {Vz : Hp} (xv : Xt Vz (hide H O)) : RepS K Ts He O₀ Vz (σ.set i (some x)) H e1 := by
  unfold bName at hb
  split at hb
  · rename_i hi
    cases hb
    exact ⟨O, a1, a2, rp.setD hi q, xv⟩
  · cases hb
theorem set_w {K : PySem.W.Frag} {i : Nat} : ∀ D σ H, tS K Ts (sSet i f) D σ H → tAsg (tD K Ts f) (gName i) D σ H := fun D σ H ⟨He, O₀, Vz, en, r, rp, hf, k⟩ => by
  unfold sSet at hf
  obtain ⟨d, h1, h2⟩ := Option.bind_eq_some_iff.mp hf
  obtain ⟨e1, h3, rfl⟩ := Option.map_eq_some_iff.mp h2
  obtain ⟨O, a1, a2, rp, xv⟩ := rp
  exact tD.of rp h1 fun v H1 x1 r1 q1 => k _ H1 (RepS.setD a1 a2 r1 h3 q1 (xv.trans (hide_mono x1)))
theorem s_set {i : Nat} {x : Str} {pos' : Pos} (hN : X.N.Nodup) (hi : X.N[i]? = some x) (hx : Loc X.env.scope x) (he : DE X Ts e f) (hs : swapsWith e (some (.Name x pos')) pos.line X.env = pure false := by rfl) (hf : X.fn x = true ∨ X.env.scope.names.lookup x = some .local := by first | exact .inl rfl | exact .inr rfl | assumption) :
    DS X Ts (.Assign [.Name x pos'] e pos) (sSet i f) := PS.imp (ps_set hN hi hx he hs hf) set_w
theorem s_bind {tg : Expr} {vs : List Nat} {b : PyData → En → Option En} (he : DE X Ts e f) (hg : DG X Ts tg vs b) (hs : swapsWithSole [tg] e pos.line X.env = pure false := by rfl) (hw : swappedStores [tg] e X.env = pure none := by rfl)
    (h1 : (assignEach [tg] X.env).map (·.2) = [assign tg X.env] := by rfl) : DS X Ts (.Assign [tg] e pos) (sBind b f) := PS.imp (ps_asg he hg hs hw h1) fun D σ H ⟨He, O₀, Vz, en, r, rp, hf, k⟩ => by
  unfold sBind at hf
  obtain ⟨d, h1, h2⟩ := Option.bind_eq_some_iff.mp hf
  obtain ⟨e1, h3, rfl⟩ := Option.map_eq_some_iff.mp h2
  obtain ⟨O, a1, a2, rp, xv⟩ := rp
  exact tD.of rp h1 fun v H1 x1 r1 q1 => ⟨He, O, en, d, e1, r1, q1, h3, fun σ' r' _ => k σ' H1 ⟨O, a1, a2, r', xv.trans (hide_mono x1)⟩⟩
/-- name = [..] by a comprehension on the same line -/
theorem s_setLc {i : Nat} {y : Str} {py : Pos} {elt tg iter : Expr} {ifs : List Expr} {scope : Scope} {own : List (Str × Nat)} {spos : Pos} {it : En → Option (List PyData)} {b : PyData → En → Option En} {t : En → Option Bool} (hc : X.calm = true) (hN : X.N.Nodup) (hy : X.N[i]? = some y) (hyl : X.env.scope.names.lookup y = some .local)
    (hsw : swapsWith (.ListComp elt [⟨tg, iter, ifs, 0⟩] scope pos) (some (.Name y py)) spos.line X.env = pure true) (hi : DI X Ts tg iter it) (ok : BlkOk X.N X.env.scope scope own)
    (hg : ∀ s H C cl fp, DG (BX X scope s H C cl fp) Ts tg (own.map (·.2)) b) (ht : ∀ s H C cl fp, PTs (BX X scope s H C cl fp) ifs (tT X.K Ts t))
    (he : ∀ s H C cl fp, DE (BX X scope s H C cl fp) Ts elt f) (hs : ∀ x, foldedSetIterable iter X.env x = pure x := by intro _; rfl) :
    DS X Ts (.Assign [.Name y py] (.ListComp elt [⟨tg, iter, ifs, 0⟩] scope pos) spos) (sSet i (fLc it b t f (own.map (·.2)))) :=
  PS.imp (ps_setLc hc hN hy hyl hsw hi ok (fun s H C cl fp => hg s H C cl fp) (fun s H C cl fp => ht s H C cl fp) (fun s H C cl fp => he s H C cl fp) hs) fun D σ H h => by
    have h2 : tD X.K Ts (fLc it b t f (own.map (·.2))) σ H (fun x H1 => gName i x σ H1 D.nx) := set_w D σ H h
    exact lc_w (new_w h2 fLc_list)
/-- a new list of the def's own -/
theorem RepS.setO {K : PySem.W.Frag} {He : Hp} {O₀ O : List Addr} {σ : St} {H H1 : Hp} {en : En} {i : Nat} {a : Addr} {vs : List V} {ds : List PyData} (a1 : ∀ b ∈ O₀, b ∈ O) (a2 : ∀ b ∈ O₀, He b ≠ none) (rp : Rep K Ts He O σ H en) (hi : i < en.length) (x : Xt H H1) (t : Tb Ts H1) (na : H a = none) (ha : H1 a = some (.lst vs)) (q : DpAll K (hide H1 (a :: O)) vs ds) {Vz : Hp} (xv : Xt Vz (hide H O)) :
    RepS K Ts He O₀ Vz (σ.set i (some (.ref a))) H1 (en.set i (.own ds)) := by
  have r1 := rp.go x t
  have hs : i < σ.length := by rw [← rp.len]; exact hi
  have nA : a ∉ O := rp.free na
  have hHe : He a = none := rp.ext.there na
  -- nothing that the slots hold leans on a
  have back : Xt (hide H O) (hide H1 (a :: O)) := fun b o e => by
    obtain ⟨e1, e2⟩ := hide_some e
    have nb : b ∉ a :: O := fun z => by
      rcases List.mem_cons.mp z with z | z
      · rw [z, na] at e2; cases e2
      · exact e1 z
    rcases x b o e2 with q | ⟨ps, qs, e3, q⟩
    · exact .inl (hide_of nb q)
    · exact .inr ⟨ps, qs, e3, hide_of nb q⟩
  refine ⟨a :: O, fun b hb => List.mem_cons_of_mem _ (a1 b hb), a2, ⟨by simp [rp.len], fun j d h => ?_, fun j es h => ?_, fun j k es es' aa h1 h2 h3 h4 => ?_, fun b hb => ?_, r1.ext, t⟩, xv.trans back⟩
  · have hj : i ≠ j := fun z => by subst z; rw [List.getElem?_set_self hi] at h; cases h
    rw [List.getElem?_set_ne hj] at h
    obtain ⟨v, q1, q2⟩ := rp.dat j d h
    exact ⟨v, by rw [List.getElem?_set_ne hj]; exact q1, Dp.mono back q2⟩
  · by_cases hj : i = j
    · subst hj
      rw [List.getElem?_set_self hi] at h
      cases h
      exact ⟨a, vs, by rw [List.getElem?_set_self hs], List.mem_cons_self, hHe, ha, q⟩
    · rw [List.getElem?_set_ne hj] at h
      obtain ⟨a', vs', q1, q2, q3, q4, q5⟩ := rp.own j es h
      exact ⟨a', vs', by rw [List.getElem?_set_ne hj]; exact q1, List.mem_cons_of_mem _ q2, q3, x.get a' _ q4 (fun _ z => nomatch z), DpAll.mono back q5⟩
  · have old : ∀ (j : Nat) (es : List PyData) (aa : Addr), i ≠ j → (en.set i (Slot.own ds))[j]? = some (Slot.own es) → (σ.set i (some (V.ref a)))[j]? = some (some (V.ref aa)) → aa ≠ a := fun j es aa hj h1 h2 z => by
      rw [List.getElem?_set_ne hj] at h1 h2
      obtain ⟨a', vs', q1, q2, _⟩ := rp.own j es h1
      rw [h2] at q1
      cases q1
      exact nA (z ▸ q2)
    by_cases hj : i = j
    · by_cases hk : i = k
      · exact hj.symm.trans hk
      · subst hj
        rw [List.getElem?_set_self hs] at h3
        cases h3
        exact absurd rfl (old k es' _ hk h2 h4)
    · by_cases hk : i = k
      · subst hk
        rw [List.getElem?_set_self hs] at h4
        cases h4
        exact absurd rfl (old j es _ hj h1 h3)
      · rw [List.getElem?_set_ne hj] at h1 h3
        rw [List.getElem?_set_ne hk] at h2 h4
        exact rp.inj j k es es' aa h1 h2 h3 h4
  · rcases List.mem_cons.mp hb with z | z
    · rw [z, ha]
      exact ⟨by simp, fun ps z => nomatch z⟩
    · exact r1.occ b z
theorem own_w {K : PySem.W.Frag} {i : Nat} : ∀ D σ H, tS K Ts (sOwn i f) D σ H → tNew K Ts f σ H (fun x H1 => gName i x σ H1 D.nx) := fun D σ H ⟨He, O₀, Vz, en, r, rp, hf, k⟩ => by
  unfold sOwn at hf
  split at hf
  · rename_i ds h1
    split at hf
    · rename_i hi
      cases hf
      obtain ⟨O, a1, a2, rp, xv⟩ := rp
      exact ⟨He, O, en, ds, rp, h1, fun a vs H' x t na ha q => k _ H' (RepS.setO a1 a2 rp hi x t na ha q xv)⟩
    · cases hf
  · cases hf
theorem s_own {i : Nat} {x : Str} {pos' : Pos} (hN : X.N.Nodup) (hi : X.N[i]? = some x) (hx : Loc X.env.scope x) (he : DNew X Ts e f) (hs : swapsWith e (some (.Name x pos')) pos.line X.env = pure false := by rfl) (hf : X.fn x = true ∨ X.env.scope.names.lookup x = some .local := by first | exact .inl rfl | exact .inr rfl | assumption) :
    DS X Ts (.Assign [.Name x pos'] e pos) (sOwn i f) := PS.imp (ps_set hN hi hx he hs hf) fun D σ H h => own_w D σ H h
theorem n_lst {es : List Expr} {gs : En → Option (List PyData)} (h : DA X Ts es gs) : DNew X Ts (.List es pos) (fLst gs) := PE.imp (pe_lst h) fun σ H Q ⟨He, O, en, ds, rp, hf, kk⟩ => by
  obtain ⟨ds', h1, hl, h2⟩ := fLst_some hf
  cases h2
  exact tDs.of rp h1 fun vs H1 x1 r1 q1 => ⟨by rw [DpAll.len q1]; exact small64 hl, fun p np => kk p vs _ (x1.trans (Xt.upd np)) (r1.tabs.new np) (x1.there np) upd_same (DpAll.mono (fun b o e => by
    obtain ⟨e1, e2⟩ := hide_some e
    have hne := ne_of_none e2 np
    exact .inl (hide_of (fun z => (List.mem_cons.mp z).elim hne e1) (by rw [upd_ne hne]; exact e2))) q1)⟩
/-- x.append(e) -/
theorem s_app {i : Nat} {x : Str} {px ap : Pos} (hN : X.N[i]? = some x := by rfl) (hv : Vis X.env.scope x := by first | exact Or.inl rfl | exact Or.inr (Or.inl rfl) | exact Or.inr (Or.inr rfl)) (ha : DE X Ts e f) (hd : (x == ("__debug__" : Str)) = false := by decide) (hcd : (x == ("__classdict__" : Str)) = false := by decide) {cpos : Pos}
    (hbase : attributeBase (.Name x px) "append" X.env (eval (.Name x px) X.env) = eval (.Name x px) X.env := by rfl)
    (hfew : ((backTo cpos (starEach [e] X.env)).all (fun x => !x.1) && (backToKw cpos (keywordEach [] X.env)).all (fun x => x.1.isSome) && decide ([e].length + ([] : List Keyword).length + (if ([] : List Keyword).isEmpty then 0 else 1) < 30)) = true := by rfl)
    (hline : (ap.endLine == cpos.line) = true := by rfl) (hs : starEach [e] X.env = (false, eval e X.env) :: starEach [] X.env := by rfl) (hplain : (backTo cpos (starEach [] X.env)).any (·.1) = false := by rfl)
    (hsw : swapsWith (.Call (.Attribute (.Name x px) "append" ap) [e] [] cpos) none pos.line X.env = pure false := by rfl) :
    DS X Ts (.Expr (.Call (.Attribute (.Name x px) "append" ap) [e] [] cpos) pos) (sApp i f) :=
  PS.imp (ps_expr (pe_bm (t := tCons (tD X.K Ts f) tNil) PySem.F.plainAttrs_list PySem.F.slot_list_append PySem.F.type_list_append mt_append (pe_var hN hv hd hcd) (pa_cons ha pa_nil hs) hbase hfew hline hs hplain) hsw) fun D σ H ⟨He, O₀, Vz, en, r, rp, hf, k⟩ => by
    unfold sApp at hf
    obtain ⟨d, h1, h2⟩ := Option.bind_eq_some_iff.mp hf
    split at h2
    · rename_i ds hd
      split at h2
      · rename_i hl
        cases h2
        obtain ⟨O, a1, a2, rp, xv⟩ := rp
        obtain ⟨a, vs, p1, p2, p3, p4, p5⟩ := rp.own i ds hd
        have hi : i < en.length := (List.getElem?_eq_some_iff.mp hd).1
        refine ⟨.ref a, p1, .inl ⟨rfl, _, .inl (.inl p4)⟩, tD.of rp h1 fun v H1 x1 r1 q1 => ?_⟩
        have p4' := x1.get a _ p4 (fun _ z => nomatch z)
        have p5' := DpAll.mono (hide_mono (O := O) x1) p5
        refine ⟨a, vs, v, rfl, rfl, p4', by rw [DpAll.len p5, sizeLine_eq]; omega, k σ _ ⟨O, a1, a2, ?_, xv.trans ((hide_mono x1).trans (hide_upd p2))⟩⟩
        have hu : Xt (hide H1 O) (hide (upd H1 a (.lst (vs ++ [v]))) O) := hide_upd p2
        refine ⟨by simp [rp.len], fun j d' h => ?_, fun j es h => ?_, fun j kk es es' aa h1 h2 h3 h4 => ?_, fun b hb => ?_, fun b o e => ?_, r1.tabs.upd fun ps z => by rw [p4'] at z; cases z⟩
        · have hj : i ≠ j := fun z => by subst z; rw [List.getElem?_set_self hi] at h; cases h
          rw [List.getElem?_set_ne hj] at h
          obtain ⟨u, q1, q2⟩ := r1.dat j d' h
          exact ⟨u, q1, Dp.mono hu q2⟩
        · by_cases hj : i = j
          · subst hj
            rw [List.getElem?_set_self hi] at h
            cases h
            exact ⟨a, vs ++ [v], p1, p2, p3, upd_same, DpAll.app (DpAll.mono hu p5') (.cons (Dp.mono hu q1) .nil)⟩
          · rw [List.getElem?_set_ne hj] at h
            obtain ⟨a', vs', q1, q2, q3, q4, q5⟩ := r1.own j es h
            have hne : a' ≠ a := fun z => hj (by subst z; exact rp.inj i j ds es a' hd h p1 q1)
            exact ⟨a', vs', q1, q2, q3, by rw [upd_ne hne]; exact q4, DpAll.mono hu q5⟩
        · have toOwn : ∀ (j : Nat) (es : List PyData), (en.set i (Slot.own (ds ++ [d])))[j]? = some (Slot.own es) → ∃ es', en[j]? = some (Slot.own es') := fun j es h => by
            by_cases hj : i = j
            · subst hj; exact ⟨ds, hd⟩
            · rw [List.getElem?_set_ne hj] at h; exact ⟨es, h⟩
          obtain ⟨e1, g1⟩ := toOwn j es h1
          obtain ⟨e2, g2⟩ := toOwn kk es' h2
          exact rp.inj j kk e1 e2 aa g1 g2 h3 h4
        · by_cases z : b = a
          · rw [z, upd_same]
            exact ⟨by simp, fun ps z => nomatch z⟩
          · rw [upd_ne z]
            exact r1.occ b hb
        · have hne : b ≠ a := fun z => by rw [z, p3] at e; cases e
          rw [upd_ne hne]
          exact r1.ext b o e
      · cases h2
    · cases h2
theorem s_if {c : Expr} {a b : List Stmt} {t : En → Option Bool} (hc : DT X Ts c t) (ha : DSs X Ts a F) (hb : DSs X Ts b G) : DS X Ts (.If c a b pos) (sIf t F G) := PS.imp (ps_if hc ha hb) fun D σ H ⟨He, O₀, Vz, en, r, rp, hf, k⟩ => by
  unfold sIf at hf
  obtain ⟨O, a1, a2, rp, xv⟩ := rp
  split at hf
  · rename_i h
    exact tT.of rp h fun H1 x1 r1 => iteT ⟨He, O₀, Vz, en, r, ⟨O, a1, a2, r1, xv.trans (hide_mono x1)⟩, hf, k⟩
  · rename_i h
    exact tT.of rp h fun H1 x1 r1 => iteF ⟨He, O₀, Vz, en, r, ⟨O, a1, a2, r1, xv.trans (hide_mono x1)⟩, hf, k⟩
  · cases hf
theorem s_ret (he : DE X Ts e f) : DS X Ts (.Return (some e) pos) (sRet f) := PS.imp (ps_ret he) fun D σ H ⟨He, O₀, Vz, en, r, rp, hf, k⟩ => by
  unfold sRet at hf
  obtain ⟨d, h1, rfl⟩ := Option.map_eq_some_iff.mp hf
  obtain ⟨O, a1, a2, rp, xv⟩ := rp
  exact tD.of rp h1 fun v H1 x1 r1 q1 => k v H1 r1.ext r1.tabs (Dp.mono (hide_sub a1) q1)
theorem s_retN : DS X Ts (.Return none pos) (sRet (fLit .none)) := PS.imp ps_retN fun D σ H ⟨He, O₀, Vz, en, r, rp, hf, k⟩ => by
  cases hf
  obtain ⟨O, a1, a2, rp, xv⟩ := rp
  exact k _ H rp.ext rp.tabs .non
theorem s_expr (he : DE X Ts e f) (hs : swapsWith e none pos.line X.env = pure false := by rfl) : DS X Ts (.Expr e pos) (sExpr f) := PS.imp (ps_expr he hs) fun D σ H ⟨He, O₀, Vz, en, r, rp, hf, k⟩ => by
  unfold sExpr at hf
  obtain ⟨d, h1, rfl⟩ := Option.map_eq_some_iff.mp hf
  obtain ⟨O, a1, a2, rp, xv⟩ := rp
  exact tD.of rp h1 fun v H1 x1 r1 q1 => k σ H1 ⟨O, a1, a2, r1, xv.trans (hide_mono x1)⟩
theorem s_never : DS X Ts st sNever := PS.imp ps_never fun D σ H ⟨He, O₀, Vz, en, r, rp, hf, k⟩ => by cases hf
theorem s_pass : DS X Ts (.Pass pos) sNil := PS.imp ps_pass fun D σ H ⟨He, O₀, Vz, en, r, rp, hf, k⟩ => by cases hf; exact k σ H rp
theorem s_break : DS X Ts (.Break pos) sBk := PS.imp ps_break fun D σ H ⟨He, O₀, Vz, en, r, rp, hf, k⟩ => by cases hf; exact k σ H rp
theorem s_continue : DS X Ts (.Continue pos) sCt := PS.imp ps_continue fun D σ H ⟨He, O₀, Vz, en, r, rp, hf, k⟩ => by cases hf; exact k σ H rp
/-- a, b = x, y -/
theorem s_par {i j : Nat} {x y : Str} {a b : Expr} {px py pt : Pos} {kt k2 pt2} (hc : X.calm = true) (hN : X.N.Nodup) (hi : X.N[i]? = some x) (hj : X.N[j]? = some y) (hij : i ≠ j)
    (hx : X.env.scope.names.lookup x = some .local) (hy : X.env.scope.names.lookup y = some .local) (ha : DE X Ts a f) (hb : DE X Ts b g) (hw : swappedStores [.Tuple [.Name x px, .Name y py] kt pt] (.Tuple [a, b] k2 pt2) X.env = pure (some [x, y]))
    (hs1 : starEach [a, b] X.env = (false, eval a X.env) :: starEach [b] X.env := by rfl) (hs2 : starEach [b] X.env = (false, eval b X.env) :: starEach [] X.env := by rfl)
    (hs : swapsWithSole [.Tuple [.Name x px, .Name y py] kt pt] (.Tuple [a, b] k2 pt2) pos.line X.env = pure false := by rfl) : DS X Ts (.Assign [.Tuple [.Name x px, .Name y py] kt pt] (.Tuple [a, b] k2 pt2) pos) (sPar i j f g) :=
  PS.imp (ps_par hc hN hi hj hij hx hy (pa_cons ha (pa_cons hb pa_nil hs2) hs1) hw hs) fun D σ H ⟨He, O₀, Vz, en, r, rp, hf, k⟩ => by
    unfold sPar at hf
    obtain ⟨d1, h1, hf1⟩ := Option.bind_eq_some_iff.mp hf
    obtain ⟨d2, h2, hf2⟩ := Option.bind_eq_some_iff.mp hf1
    obtain ⟨e1, h3, hf3⟩ := Option.bind_eq_some_iff.mp hf2
    obtain ⟨e2, h4, rfl⟩ := Option.map_eq_some_iff.mp hf3
    obtain ⟨O, a1, a2, rp, xv⟩ := rp
    refine tD.of rp h1 fun v H1 x1 r1 q1 => tD.of r1 h2 fun w H2 x2 r2 q2 => ⟨v, w, rfl, k _ H2 ?_⟩
    unfold bName at h3 h4
    split at h3
    · rename_i hi'
      cases h3
      split at h4
      · rename_i hj'
        cases h4
        exact ⟨O, a1, a2, (r2.setD hi' (Dp.mono (hide_mono x2) q1)).setD hj' q2, xv.trans (hide_mono (x1.trans x2))⟩
      · cases h4
    · cases h3
/-- x += e of ints -/
theorem s_aug {i : Nat} {x : Str} {op : Operator} {h : Int → Int → Int} {pos' : Pos} (hN : X.N.Nodup) (hi : X.N[i]? = some x) (hx : Loc X.env.scope x) (he : DE X Ts e f) (ho : PIp X op (ipI h)) (hf : X.fn x = true ∨ X.env.scope.names.lookup x = some .local := by first | exact .inl rfl | exact .inr rfl | assumption) :
    DS X Ts (.AugAssign (.Name x pos') op e pos) (sAug i (gI fun a b => .int (h a b)) f) := PS.imp (ps_aug hN hi hx he ho hf) fun D σ H ⟨He, O₀, Vz, en, r, rp, hf, k⟩ => by
  unfold sAug at hf
  obtain ⟨d1, h1, hf1⟩ := Option.bind_eq_some_iff.mp hf
  obtain ⟨d2, h2, hf2⟩ := Option.bind_eq_some_iff.mp hf1
  obtain ⟨d3, h3, hf3⟩ := Option.bind_eq_some_iff.mp hf2
  obtain ⟨e1, h4, rfl⟩ := Option.map_eq_some_iff.mp hf3
  clear hf hf1 hf2 hf3
  obtain ⟨O, a1, a2, rp, xv⟩ := rp
  unfold fVar at h1
  split at h1
  · rename_i d' hd
    cases h1
    obtain ⟨v, p1, p2⟩ := rp.dat i _ hd
    refine ⟨v, p1, tD.of rp h2 fun w H1 x1 r1 q1 => ?_⟩
    cases p2 <;> cases q1 <;> simp only [gI] at h3 <;> try cases h3
    exact ⟨_, _, rfl, rfl, k _ H1 (RepS.setD a1 a2 r1 h4 (.int _) (xv.trans (hide_mono x1)))⟩
  · cases h1

/-! ### loops -/
theorem for_w {K : PySem.W.Frag} {vs : List Nat} {it : En → Option (List PyData)} {b : PyData → En → Option En} : ∀ D σ H, tS K Ts (sFor it b F) D σ H → tFor (tI K Ts it) (gD K Ts vs b) (tS K Ts F) D σ H := fun D σ H ⟨He, O₀, Vz, en, r, rp, hf, k⟩ => by
  unfold sFor at hf
  obtain ⟨ds, h1, h2⟩ := Option.bind_eq_some_iff.mp hf
  clear hf
  obtain ⟨O, a1, a2, rp, xv⟩ := rp
  refine ⟨He, O, en, ds, rp, h1, fun J H1 x1 t1 gv => ?_⟩
  have xv1 : Xt Vz (hide H1 O) := xv.trans (hide_mono x1)
  refine ⟨fun i m σ2 H2 => m = ds.length - i ∧ i ≤ ds.length ∧ ∃ en2, RepS K Ts He O₀ (hide H1 O) σ2 H2 en2 ∧ forGo b F (ds.drop i) en2 = some r,
    ⟨ds.length, by simp, Nat.zero_le _, en, ⟨O, a1, a2, rp.go x1 t1, Xt.refl _⟩, by simpa using h2⟩, fun i m σ2 H2 hW => ?_⟩
  obtain ⟨rfl, hi, en2, ⟨O2, b1, b2, r2, x12⟩, hgo⟩ := hW
  obtain ⟨g1, g2, g3⟩ := gv O2 H2 x12 (x12.trans hide_out) r2.occ
  have weak : ∀ {σ' H' en'}, RepS K Ts He O₀ (hide H1 O) σ' H' en' → RepS K Ts He O₀ Vz σ' H' en' := fun ⟨O', c1, c2, c3, c4⟩ => ⟨O', c1, c2, c3, xv1.trans c4⟩
  by_cases hlt : i < ds.length
  · rw [List.drop_eq_getElem_cons hlt] at hgo
    unfold forGo at hgo
    obtain ⟨e1, hb1, hgo1⟩ := Option.bind_eq_some_iff.mp hgo
    clear hgo
    refine .inr ⟨g1 i hlt, fun σ' H' => ∃ en2, RepS K Ts He O₀ (hide H1 O) σ' H' en2 ∧ forGo b F (ds.drop (i + 1)) en2 = some r, fun σ' H' c => ⟨ds.length - (i + 1), by omega, rfl, hlt, c⟩, fun x H3 hy => ?_⟩
    obtain ⟨d, hd, x23, t23, qd⟩ := g3 i x H3 hlt hy
    have r3 := r2.go x23 (t23 r2.tabs)
    have hd' : ds[i] = d := by rw [List.getElem?_eq_getElem hlt] at hd; exact Option.some.inj hd
    rw [hd'] at hb1
    refine ⟨He, O2, en2, d, e1, r3, qd, hb1, fun σ4 r4 _ => ?_⟩
    have rs4 : RepS K Ts He O₀ (hide H1 O) σ4 H3 e1 := ⟨O2, b1, b2, r4, x12.trans (hide_mono x23)⟩
    cases hF : F e1 with
    | none => rw [hF] at hgo1; cases hgo1
    | some fl =>
      rw [hF] at hgo1
      refine ⟨He, O₀, hide H1 O, e1, fl, rs4, hF, ?_⟩
      cases fl with
      | nx e2 => exact fun σ' H' r' => ⟨e2, r', hgo1⟩
      | ct e2 => exact fun σ' H' r' => ⟨e2, r', hgo1⟩
      | bk e2 =>
        cases hgo1
        exact fun σ' H' r' => k σ' H' (weak r')
      | rt v =>
        cases hgo1
        exact k
  · have hie : i = ds.length := by omega
    subst hie
    rw [List.drop_of_length_le (Nat.le_refl _)] at hgo
    cases hgo
    exact .inl ⟨g2, k σ2 H2 ⟨O2, b1, b2, r2, xv1.trans x12⟩⟩
theorem s_for {tg iter : Expr} {body : List Stmt} {vs : List Nat} {it : En → Option (List PyData)} {b : PyData → En → Option En} (hp : PassesOwn (model X.prog X.w) X.A X.env X.xe) (hc : X.calm = true) (hi : DI X Ts tg iter it) (hg : DG X Ts tg vs b) (hb : DSs X Ts body F)
    (hs : ∀ x, foldedSetIterable iter X.env x = pure x := by intro _; rfl) : DS X Ts (.For tg iter body [] pos) (sFor it b F) := PS.imp (ps_for hp hc hi hg hb hs) for_w
theorem while_w {K : PySem.W.Frag} {n : En → Nat} {t : En → Option Bool} : ∀ D σ H, tS K Ts (sWhile n t F) D σ H → tWhile (tT K Ts t) (tS K Ts F) D σ H := fun D σ H ⟨He, O₀, Vz, en, r, rp, hf, k⟩ => by
  unfold sWhile at hf
  refine ⟨fun m σ2 H2 => ∃ en2, RepS K Ts He O₀ Vz σ2 H2 en2 ∧ whGo t F m en2 = some r, ⟨n en, en, rp, hf⟩, fun m σ2 H2 ⟨en2, rs, hgo⟩ => ?_⟩
  cases m with
  | zero => cases hgo
  | succ m =>
    unfold whGo at hgo
    obtain ⟨O, a1, a2, rp2, xv⟩ := rs
    cases ht : t en2 with
    | none => rw [ht] at hgo; cases hgo
    | some c =>
      rw [ht] at hgo
      refine tT.of rp2 ht fun H3 x23 r3 => ?_
      have rs3 : RepS K Ts He O₀ Vz σ2 H3 en2 := ⟨O, a1, a2, r3, xv.trans (hide_mono x23)⟩
      cases c with
      | false =>
        cases hgo
        exact iteF (k σ2 H3 rs3)
      | true =>
        refine iteT ⟨fun σ' H' => ∃ en2, RepS K Ts He O₀ Vz σ' H' en2 ∧ whGo t F m en2 = some r, fun σ' H' c => ⟨m, Nat.lt_succ_self m, c⟩, ?_⟩
        cases hF : F en2 with
        | none => simp only [hF] at hgo; cases hgo
        | some fl =>
          simp only [hF] at hgo
          refine ⟨He, O₀, Vz, en2, fl, rs3, hF, ?_⟩
          cases fl with
          | nx e2 => exact fun σ' H' r' => ⟨e2, r', hgo⟩
          | ct e2 => exact fun σ' H' r' => ⟨e2, r', hgo⟩
          | bk e2 =>
            cases hgo
            exact k
          | rt v =>
            cases hgo
            exact k
theorem s_while {c : Expr} {body : List Stmt} {t : En → Option Bool} (n : En → Nat) (hp : PassesOwn (model X.prog X.w) X.A X.env X.xe) (hc : DT X Ts c t) (hb : DSs X Ts body F) : DS X Ts (.While c body [] pos) (sWhile n t F) := PS.imp (ps_while hp hc hb) while_w
end

/-! ### defs -/
/-- what a def makes of its arguments' data -/
def runD (n : Nat) (F : En → Option Fl) (ds : List PyData) : Option PyData := match F (ds.map .dat ++ List.replicate (n - ds.length) .no) with
  | some (.rt d) => some d
  | some (.nx _) => some .none
  | _ => none
/-- a def of the text as it stands, its code object told -/
structure DF (K : PySem.W.Frag) (x qual : Str) (st : Stmt) (f : Addr) (fd : FuncData) (cdv : Value) : Prop where
  ex : ∃ (oc : Value) (od : Option Addr) (kV doc pm : Value) (an : Option Addr) (ct : Value) (osl : Array (Option Value)),
    fd = PySem.W.fnOf x qual (defArgs st) (defBody st) (defScope st) .none kV doc pm an cdv ct ∧ K.lookup f = some ⟨oc, od, .func fd, osl⟩ ∧ PySem.W.codeIn K cdv qual = true
  kp : PySem.W.keepIn K (.ref f) = true
section
variable {P : Program} {w : World} {K : PySem.W.Frag} {mg : Str → Option Value} {base : Heap} {Ts : List Addr}
theorem DF.ok {x qual : Str} {st : Stmt} {f : Addr} {fd : FuncData} {cdv : Value} {N ps : List Str} {k : Nat} {F : En → Option Fl} (D : DF K x qual st f fd cdv) (S : FnScope N ps (defScope st))
    (hbody : ∀ (A : Around) (outer : List Env) (s : Shared) (H : Hp) (E : XK), Room k (A.deeper (envOfC qual (defScope st) s.heap.objs.size f cdv)) → DSs (cxOf CX0 P w K mg base N qual (defScope st) f cdv A outer s H E).nox Ts (defBody st) F) :
    FnOk P w K mg base CX0 (k + 1) f fd ps (spD K Ts ps.length (runD N.length F)) := by
  obtain ⟨oc, od, kV, doc, pm, an, ct, osl, rfl, lk, hcd⟩ := D.ex
  refine fn_of lk hcd S (fun vs H Q E h => h.1) fun A outer s H vs Q E hr hsp => ?_
  refine ⟨_, (hbody A outer s H E hr).nox, ?_⟩
  obtain ⟨hl, O, ds, d, q, t, occ, hF, kk⟩ := hsp
  unfold runD at hF
  have hlen := DpAll.len q
  have rp : Rep K Ts H O (L2.start N vs) H (ds.map .dat ++ List.replicate (N.length - ds.length) .no) := by
    refine ⟨by simp [L2.start, hlen], fun i d h => ?_, fun i es h => ?_, fun i j es es' a h => ?_, occ, Xt.refl H, t⟩
    · by_cases hi : i < ds.length
      · rw [List.getElem?_append_left (by simpa using hi), List.getElem?_map] at h
        obtain ⟨d', h1, h2⟩ := Option.map_eq_some_iff.mp h
        cases h2
        obtain ⟨v, h3, h4⟩ := DpAll.get' q h1
        refine ⟨v, ?_, h4⟩
        unfold L2.start
        rw [List.getElem?_append_left (by simp; omega), List.getElem?_map, h3]
        rfl
      · rw [List.getElem?_append_right (by simpa using hi), List.getElem?_replicate] at h
        split at h <;> cases h
    · by_cases hi : i < ds.length
      · rw [List.getElem?_append_left (by simpa using hi), List.getElem?_map] at h
        obtain ⟨d', h1, h2⟩ := Option.map_eq_some_iff.mp h
        cases h2
      · rw [List.getElem?_append_right (by simpa using hi), List.getElem?_replicate] at h
        split at h <;> cases h
    · by_cases hi : i < ds.length
      · rw [List.getElem?_append_left (by simpa using hi), List.getElem?_map] at h
        obtain ⟨d', h1, h2⟩ := Option.map_eq_some_iff.mp h
        cases h2
      · rw [List.getElem?_append_right (by simpa using hi), List.getElem?_replicate] at h
        split at h <;> cases h
  have rs : RepS K Ts H O (fun _ => none) (L2.start N vs) H (ds.map .dat ++ List.replicate (N.length - ds.length) .no) := ⟨O, fun b hb => hb, fun b hb => (occ b hb).1, rp, fun b o e => nomatch e⟩
  split at hF
  · rename_i d' hf
    cases hF
    exact ⟨H, O, _, _, _, rs, hf, fun v H' x t q => kk v H' x t q⟩
  · rename_i e' hf
    cases hF
    refine ⟨H, O, _, _, _, rs, hf, fun σ' H' r' => ?_⟩
    obtain ⟨O', a1, a2, r1, _⟩ := r'
    exact kk .non H' r1.ext r1.tabs .non
  · cases hF
theorem DF.binds {x qual : Str} {st : Stmt} {f : Addr} {fd : FuncData} {cdv : Value} {ps : List Str} (F : DF K x qual st f fd cdv)
    (h : ∀ (kV doc pm : Value) (an : Option Addr) (cdv ct : Value) (us : List Value), us.length = ps.length → bindArgs (PySem.W.fnOf x qual (defArgs st) (defBody st) (defScope st) .none kV doc pm an cdv ct) ⟨us, []⟩ = pure (ps.zip us)) : Binds K fd ps [] := by
  obtain ⟨oc, od, kV, doc, pm, an, ct, osl, rfl, lk, hcd⟩ := F.ex
  exact .all (h kV doc pm an cdv ct)
theorem df_mk {x qual : Str} {st : Stmt} {f : Addr} {oc : Value} {od an : Option Addr} {osl : Array (Option Value)} {kV doc pm cdv ct : Value} (l : K.lookup f = some ⟨oc, od, .func (PySem.W.fnOf x qual (defArgs st) (defBody st) (defScope st) .none kV doc pm an cdv ct), osl⟩)
    (c : PySem.W.codeIn K cdv qual = true) (k : PySem.W.keepIn K (.ref f) = true) : DF K x qual st f (PySem.W.fnOf x qual (defArgs st) (defBody st) (defScope st) .none kV doc pm an cdv ct) cdv := ⟨⟨oc, od, kV, doc, pm, an, ct, osl, rfl, l, c⟩, k⟩
end
end DN
set_option Elab.async false
set_option linter.all false
set_option maxRecDepth 100000
set_option maxHeartbeats 4000000
namespace DN
open PySem PySem.Spec PyProof.Rows L2
/-! ### ints or tuples, lists or tuples -/
section
variable {X : Cx} {Ts : List Addr} {pos p : Pos} {tg e e2 : Expr} {f g : En → Option PyData}
def gPlus : PyData → PyData → Option PyData
  | .int i, .int j => some (.int (i + j))
  | .tuple xs, .tuple ys => if xs.length + ys.length ≤ 1000000 then some (.tuple (xs ++ ys)) else none
  | .list xs, .list ys => if xs.length + ys.length ≤ 1000000 then some (.list (xs ++ ys)) else none
  | _, _ => none
def fPlus := f2 gPlus
/-! lists of any kind, one behind the other -/
def rCatL (K : PySem.W.Frag) : R2 := fun x y H Q => ∃ a b xs ys, x = .ref a ∧ y = .ref b ∧ SqL K H a xs ∧ SqL K H b ys ∧ xs.length + ys.length ≤ sizeLine ∧ ∀ p, H p = none → Q (.ref p) (upd H p (.lst (xs ++ ys)))
theorem op_catL : OpR X (binaryOp .Add) (rCatL X.K) := by
  intro pins s σ H x y v u Q I rx ry h
  obtain ⟨a, b, xs, ys, rfl, rfl, ha, hb, hz, q⟩ := h
  cases rx
  cases ry
  obtain ⟨is1, r1, ⟨⟨c1, d1, t1, l1⟩, n1, g1, gc1, _, gd1⟩, _⟩ := I.list ha
  obtain ⟨is2, r2, ⟨⟨c2, d2, t2, l2⟩, n2, g2, gc2, _, gd2⟩, _⟩ := I.list hb
  simp only at gc1 gd1 gc2 gd2
  subst gc1 gd1 gc2 gd2
  have len1 := r1.length
  have len2 := r2.length
  have small : is1.toArray.size + is2.toArray.size ≤ sizeLine := by
    rw [List.size_toArray, List.size_toArray]
    omega
  refine concat_meets ⟨_, g1, rfl⟩ ⟨_, g2, rfl⟩ noFill_list_add seq_list_add PySem.F.slot_list_add PySem.F.entry_list_add (PySem.F.args_list_add_2 _ _)
    (list_addW a b is1.toArray is2.toArray n1 n2 d1 d2 l1 l2 small) ⟨g1, g2, ?_⟩
  have joined : is1.toArray ++ is2.toArray = (is1 ++ is2).toArray := by simp
  rw [joined]
  exact ⟨.ref _, _, I.lnew (t' := s.toks) (r1.append r2) (by rw [List.length_append]; omega), rfl, q _ I.fresh⟩
theorem op_plus : OpR X (binaryOp .Add) (fun x y H Q => rI0 (fun i j => .int (i + j)) x y H Q ∨ rCatA X.K x y H Q ∨ rCatL X.K x y H Q) := by
  intro pins s σ H x y v u Q I rx ry h
  rcases h with h | h | h
  · exact op_add pins s σ H x y v u Q I rx ry h
  · exact op_catA pins s σ H x y v u Q I rx ry h
  · exact op_catL pins s σ H x y v u Q I rx ry h
theorem d_plus (ha : DE X Ts e f) (hb : DE X Ts e2 g) : DE X Ts (.BinOp e .Add e2 pos) (fPlus f g) := PE.imp (pe_op op_plus ha hb) fun σ H Q ⟨He, O, en, d, rp, hf, kk⟩ => by
  obtain ⟨x, y, h1, h2, h3⟩ := f2_some hf
  refine tD.of rp h1 fun v H1 x1 r1 q1 => tD.of r1 h2 fun w H2 x2 r2 q2 => ?_
  have q1 := Dp.mono (hide_mono x2) q1
  cases x <;> cases y <;> simp only [gPlus] at h3 <;> try cases h3
  · cases q1
    cases q2
    exact .inl ⟨_, _, rfl, rfl, kk _ H2 (x1.trans x2) r2.tabs (.int _)⟩
  · split at h3
    · rename_i hl
      cases h3
      cases q1 with
      | lst s1 a1 =>
        cases q2 with
        | lst s2 a2 =>
          have l1 := DpAll.len a1
          have l2 := DpAll.len a2
          exact .inr (.inr ⟨_, _, _, _, rfl, rfl, sqL_mono (fun o n e => (hide_some e).2) s1, sqL_mono (fun o n e => (hide_some e).2) s2, by rw [l1, l2, sizeLine_eq]; omega, fun p np => kk _ _ (x1.trans (x2.trans (Xt.upd np))) (r2.tabs.new np) (lst_new np (new_out r2.occ np) (DpAll.app a1 a2))⟩)
    · cases h3
  · split at h3
    · rename_i hl
      cases h3
      cases q1 with
      | tup s1 a1 =>
        cases q2 with
        | tup s2 a2 =>
          have l1 := DpAll.len a1
          have l2 := DpAll.len a2
          refine .inr (.inl ⟨_, _, _, _, rfl, rfl, sqT_mono (fun o n e => (hide_some e).2) s1, sqT_mono (fun o n e => (hide_some e).2) s2, by rw [l1, l2, sizeLine_eq]; omega, fun e0 => ?_, fun _ e0 => ?_, fun _ _ p np => kk _ _ (x1.trans (x2.trans (Xt.upd np))) (r2.tabs.new np) (tup_new np (new_out r2.occ np) (DpAll.app a1 a2))⟩)
          · subst e0
            cases a1
            exact kk _ H2 (x1.trans x2) r2.tabs (.tup s2 a2)
          · subst e0
            cases a2
            rw [List.append_nil] at kk
            exact kk _ H2 (x1.trans x2) r2.tabs (.tup s1 a1)
    · cases h3
def iSq (K : PySem.W.Frag) (tl : TE) : TI := fun σ H R => tl σ H fun x H1 => (∃ a, x = .ref a ∧ (∃ xs, SqL K H1 a xs) ∧ R (Itl K a) H1) ∨ (∃ a, x = .ref a ∧ (∃ xs, SqT K H1 a xs) ∧ R (Itt K a) H1)
theorem pi_sq {l : Expr} {tl : TE} (hl : PE X l tl) : PI X tg l (iSq X.K tl) := by
  refine ⟨fun pins s σ H R I h => ?_⟩
  refine thn (hl.run pins s σ H _ I h) fun v s1 ⟨x, H1, I1, r1, q1⟩ => ?_
  rcases q1 with ⟨a, e, ⟨xs, hq⟩, q⟩ | ⟨a, e, ⟨xs, hq⟩, q⟩
  · subst e
    cases r1
    obtain ⟨its, rv, p, hz⟩ := I1.list hq
    refine wpAny_pyIter_list p.isList ?_
    refine ⟨s1.heap.objs.size, [s1.heap.objs.size], _, _, H1, rfl, I1.kept (t' := s1.toks) fun b o e => Heap.get?_push_of_some _ e, turn_list a _, ⟨_, Heap.get?_push_size _ rfl, rfl, rfl⟩, fun b hb => ?_, q⟩
    have e : b = s1.heap.objs.size := by simpa using hb
    subst e
    exact I1.fpOk (Nat.le_refl _) (I1.hok.fresh (Nat.le_refl _))
  · subst e
    cases r1
    obtain ⟨its, rv, p, hz⟩ := I1.tuple hq
    refine wpAny_pyIter_tuple (show s1.heap.IsTuple a its.toArray from p) ?_
    refine ⟨s1.heap.objs.size, [s1.heap.objs.size], _, _, H1, rfl, I1.kept (t' := s1.toks) fun b o e => Heap.get?_push_of_some _ e, turn_tuple a _, ⟨_, Heap.get?_push_size _ rfl, rfl, rfl⟩, fun b hb => ?_, q⟩
    have e : b = s1.heap.objs.size := by simpa using hb
    subst e
    exact I1.fpOk (Nat.le_refl _) (I1.hok.fresh (Nat.le_refl _))
def iSeq (f : En → Option PyData) : En → Option (List PyData) := fun en => (f en).bind items
theorem gives_list {K : PySem.W.Frag} {H1 : Hp} {O : List Addr} {l : Addr} {vs : List V} {ds : List PyData} (s : SqL K (hide H1 O) l vs) (a : DpAll K (hide H1 O) vs ds) : Gives K Ts (Itl K l) ds H1 O := fun O' H2 h1 h2 occ => by
  have s2 : SqL K H2 l vs := sqL_mono (fun o n e => h2.get _ o e n) s
  have a2 := DpAll.mono h1 a
  have hl := DpAll.len a
  refine ⟨fun i hi => ⟨vs, vs[i]'(by omega), s2, by simp [hl, hi]⟩, ⟨vs, s2, by omega⟩, fun i x H3 hi hy => ?_⟩
  obtain ⟨rfl, hx⟩ := hy
  obtain ⟨d, hd1, hd2⟩ := DpAll.get a2 (hx vs s2)
  exact ⟨d, hd1, Xt.refl _, id, hd2⟩
theorem gives_tup {K : PySem.W.Frag} {H1 : Hp} {O : List Addr} {l : Addr} {vs : List V} {ds : List PyData} (s : SqT K (hide H1 O) l vs) (a : DpAll K (hide H1 O) vs ds) : Gives K Ts (Itt K l) ds H1 O := fun O' H2 h1 h2 occ => by
  have s2 : SqT K H2 l vs := sqT_mono (fun o n e => h2.get _ o e n) s
  have a2 := DpAll.mono h1 a
  have hl := DpAll.len a
  refine ⟨fun i hi => ⟨vs, vs[i]'(by omega), s2, by simp [hl, hi]⟩, ⟨vs, s2, by omega⟩, fun i x H3 hi hy => ?_⟩
  obtain ⟨rfl, hx⟩ := hy
  obtain ⟨d, hd1, hd2⟩ := DpAll.get a2 (hx vs s2)
  exact ⟨d, hd1, Xt.refl _, id, hd2⟩
theorem di_seq (h : DE X Ts e f) : DI X Ts tg e (iSeq f) := PI.imp (pi_sq h) fun σ H R ⟨He, O, en, ds, rp, hf, kk⟩ => by
  unfold iSeq at hf
  obtain ⟨d, h1, h2⟩ := Option.bind_eq_some_iff.mp hf
  refine tD.of rp h1 fun v H1 x1 r1 q1 => ?_
  cases d <;> simp only [items] at h2 <;> cases h2
  · cases q1 with
    | lst s a => exact .inl ⟨_, rfl, ⟨_, sqL_mono (fun o n e => (hide_some e).2) s⟩, kk _ H1 x1 r1.tabs (gives_list s a)⟩
  · cases q1 with
    | tup s a => exact .inr ⟨_, rfl, ⟨_, sqT_mono (fun o n e => (hide_some e).2) s⟩, kk _ H1 x1 r1.tabs (gives_tup s a)⟩
theorem d_globE {x : Str} {i : Int} (hg : Gl X x) (hm : ∃ t, X.mg x = some (.int i t)) (hd : (x == ("__debug__" : Str)) = false := by decide) : DE X Ts (.Name x pos) (fLit (.int i)) := by
  obtain ⟨t, hm⟩ := hm
  exact d_glob hg hm hd
end
theorem room_gen {j : Nat} {A : Around} (r : Room (j + 1) A) (env : Env) : Room j (A.in1.in1.deeper env) :=
  ⟨r.hd, by have := r.dp; show A.depth + 1 + 3 * j + 5 < _; omega, by have := r.un; show A.units + 1 + 1 + 3 + 16 * j + 200 < _; omega⟩
/-- a def of the program where it stands, by its promise -/
structure CF (P : Program) (w : World) (K : PySem.W.Frag) (mg : Str → Option Value) (base : Heap) (Ts : List Addr) (k : Nat) (x : Str) (n : Nat) (F : List PyData → Option PyData) : Prop where
  ex : ∃ f fd ps, mg x = some (.ref f) ∧ PySem.W.keepIn K (.ref f) = true ∧ Binds K fd ps [] ∧ FnOk P w K mg base CX0 k f fd ps (spD K Ts n F)
theorem CF.imp {P : Program} {w : World} {K : PySem.W.Frag} {mg : Str → Option Value} {base : Heap} {Ts : List Addr} {k : Nat} {x : Str} {n : Nat} {F G : List PyData → Option PyData} (c : CF P w K mg base Ts k x n F) (h : ∀ ds d, G ds = some d → F ds = some d) : CF P w K mg base Ts k x n G := by
  obtain ⟨f, fd, ps, h1, h2, h3, h4⟩ := c.ex
  exact ⟨f, fd, ps, h1, h2, h3, h4.imp (spD.imp h)⟩
theorem CF.call {X : Cx} {Ts : List Addr} {k : Nat} {x : Str} {n : Nat} {F : List PyData → Option PyData} (c : CF X.prog X.w X.K X.mg X.base Ts k x n F) : DFn X Ts k x n F := ⟨c.ex⟩
end DN
set_option Elab.async false
set_option linter.all false
set_option maxRecDepth 100000
set_option maxHeartbeats 4000000
namespace DN
open PySem PySem.Spec PyProof.Rows L2
/-! ### code that draws: a row [script, place, number, rest] is at hand; what an expression gives is any datum of some -/
def RowOk (rw : List PyData) : Prop := ∃ (ns : List Int) (i m c : Int), rw = [.list (ns.map .int), .int i, .int m, .int c] ∧ ns.length ≤ 63 ∧ 0 ≤ i ∧ 0 ≤ m ∧ m < 2147483647 ∧ 0 ≤ c
def WRep (K : PySem.W.Frag) (Ts : List Addr) (ρ : Nat) (He : Hp) (O : List Addr) (σ : St) (H : Hp) (en : En) : Prop := ρ < en.length ∧ ∃ rw, RowOk rw ∧ Rep K Ts He O σ H (en.set ρ (.own rw))
/-- all but the list at a stays -/
def XtB (a : Addr) (H H' : Hp) : Prop := ∀ b o, b ≠ a → H b = some o → H' b = some o ∨ ∃ ps qs, o = .tbl ps ∧ H' b = some (.tbl qs)
theorem XtB.trans {a : Addr} {H H1 H2 : Hp} (x : XtB a H H1) (y : XtB a H1 H2) : XtB a H H2 := fun b o hb e => by
  rcases x b o hb e with q | ⟨ps, qs, e1, q⟩
  · exact y b o hb q
  · rcases y b _ hb q with q' | ⟨_, qs', _, q'⟩
    · exact .inr ⟨ps, qs, e1, q'⟩
    · exact .inr ⟨ps, qs', e1, q'⟩
theorem XtB.of {a : Addr} {H H1 : Hp} (x : Xt H H1) : XtB a H H1 := fun b o _ e => x b o e
/-- all but the row stays -/
def Xw (ρ : Nat) (σ : St) (O : List Addr) (H H' : Hp) : Prop := Xt (hide H O) (hide H' O) ∧ ∀ a, σ[ρ]? = some (some (V.ref a)) → XtB a H H'
theorem Xw.refl {ρ : Nat} {σ : St} {O : List Addr} (H : Hp) : Xw ρ σ O H H := ⟨Xt.refl _, fun _ _ => .of (Xt.refl _)⟩
theorem Xw.of {ρ : Nat} {σ : St} {O : List Addr} {H H' : Hp} (x : Xt H H') : Xw ρ σ O H H' := ⟨hide_mono x, fun _ _ => .of x⟩
theorem Xw.trans {ρ : Nat} {σ : St} {O : List Addr} {H H1 H2 : Hp} (x : Xw ρ σ O H H1) (y : Xw ρ σ O H1 H2) : Xw ρ σ O H H2 := ⟨x.1.trans y.1, fun a h => (x.2 a h).trans (y.2 a h)⟩
abbrev WF := En → (PyData → Prop) → Prop
def tW (K : PySem.W.Frag) (Ts : List Addr) (ρ : Nat) (F : WF) : TE := fun σ H Q => ∃ He O en Qd, WRep K Ts ρ He O σ H en ∧ F en Qd ∧ ∀ d v H', Qd d → WRep K Ts ρ He O σ H' en → Dp K (hide H' O) v d → Xw ρ σ O H H' → Q v H'
def tWs (K : PySem.W.Frag) (Ts : List Addr) (ρ : Nat) (F : En → (List PyData → Prop) → Prop) : TA := fun σ H Q => ∃ He O en Qd, WRep K Ts ρ He O σ H en ∧ F en Qd ∧ ∀ ds vs H', Qd ds → WRep K Ts ρ He O σ H' en → DpAll K (hide H' O) vs ds → Xw ρ σ O H H' → Q vs H'
def tWT (K : PySem.W.Frag) (Ts : List Addr) (ρ : Nat) (F : En → (Bool → Prop) → Prop) : TT := fun σ H Q => ∃ He O en Qd, WRep K Ts ρ He O σ H en ∧ F en Qd ∧ ∀ b H', Qd b → WRep K Ts ρ He O σ H' en → Xw ρ σ O H H' → Q b H'
abbrev WE (X : Cx) (Ts : List Addr) (ρ : Nat) (e : Expr) (F : WF) : Prop := PE X e (tW X.K Ts ρ F)
abbrev WA (X : Cx) (Ts : List Addr) (ρ : Nat) (es : List Expr) (F : En → (List PyData → Prop) → Prop) : Prop := PA X es (tWs X.K Ts ρ F)
abbrev WT (X : Cx) (Ts : List Addr) (ρ : Nat) (e : Expr) (F : En → (Bool → Prop) → Prop) : Prop := PT X e (tWT X.K Ts ρ F)
theorem WRep.tabs' {K : PySem.W.Frag} {Ts : List Addr} {ρ : Nat} {He : Hp} {O : List Addr} {σ : St} {H : Hp} {en : En} (r : WRep K Ts ρ He O σ H en) : Tb Ts H := let ⟨_, _, _, r⟩ := r; r.tabs
theorem WRep.occ {K : PySem.W.Frag} {Ts : List Addr} {ρ : Nat} {He : Hp} {O : List Addr} {σ : St} {H : Hp} {en : En} (r : WRep K Ts ρ He O σ H en) : ∀ b ∈ O, H b ≠ none ∧ ∀ ps, H b ≠ some (.tbl ps) := let ⟨_, _, _, r⟩ := r; r.occ
theorem WRep.go {K : PySem.W.Frag} {Ts : List Addr} {ρ : Nat} {He : Hp} {O : List Addr} {σ : St} {H H' : Hp} {en : En} (r : WRep K Ts ρ He O σ H en) (x : Xt H H') (t : Tb Ts H') : WRep K Ts ρ He O σ H' en := let ⟨a, rw, b, c⟩ := r; ⟨a, rw, b, c.go x t⟩
/-- what is plain -/
def wP (ρ : Nat) (f : En → Option PyData) : WF := fun en Q => ∃ d, (∀ rw, f (en.set ρ (.own rw)) = some d) ∧ Q d
def wT (ρ : Nat) (f : En → Option Bool) : En → (Bool → Prop) → Prop := fun en Q => ∃ b, (∀ rw, f (en.set ρ (.own rw)) = some b) ∧ Q b
/-- an operator by its data -/
def Op2 (K : PySem.W.Frag) (Ts : List Addr) (r : R2) (g : PyData → PyData → Option PyData) : Prop := ∀ x y v w d H O Q, g x y = some d → Dp K (hide H O) v x → Dp K (hide H O) w y → Tb Ts H → (∀ b ∈ O, H b ≠ none ∧ ∀ ps, H b ≠ some (.tbl ps)) → (∀ u H', Xt H H' → Tb Ts H' → Dp K (hide H' O) u d → Q u H') → r v w H Q
def w2 (g : PyData → PyData → Option PyData) (F G : WF) : WF := fun en Q => F en fun x => G en fun y => ∃ d, g x y = some d ∧ Q d
def w1 (g : PyData → Option PyData) (F : WF) : WF := fun en Q => F en fun x => ∃ d, g x = some d ∧ Q d
section
variable {K : PySem.W.Frag} {X : Cx} {Ts : List Addr} {ρ : Nat} {pos p : Pos} {e e2 : Expr} {es : List Expr} {f : En → Option PyData} {F G : WF}
theorem we_pure (h : DE X Ts e f) : WE X Ts ρ e (wP ρ f) := PE.imp h fun σ H Q ⟨He, O, en, Qd, ⟨hl, rw, hr, rp⟩, ⟨d, hf, hq⟩, kk⟩ =>
  tD.of rp (hf rw) fun v H' x r' q => kk d v H' hq ⟨hl, rw, hr, r'⟩ q (Xw.of x)
theorem wt_pure {t : En → Option Bool} (h : DT X Ts e t) : WT X Ts ρ e (wT ρ t) := PT.imp h fun σ H Q ⟨He, O, en, Qd, ⟨hl, rw, hr, rp⟩, ⟨d, hf, hq⟩, kk⟩ =>
  tT.of rp (hf rw) fun H' x r' => kk d H' hq ⟨hl, rw, hr, r'⟩ (Xw.of x)
theorem ww_2 {r : R2} {g : PyData → PyData → Option PyData} (k : Op2 K Ts r g) : ∀ σ H Q, tW K Ts ρ (w2 g F G) σ H Q → tOp r (tW K Ts ρ F) (tW K Ts ρ G) σ H Q := fun σ H Q ⟨He, O, en, Qd, rp, hF, kk⟩ =>
  ⟨He, O, en, _, rp, hF, fun x v H1 hx r1 q1 x1 => ⟨He, O, en, _, r1, hx, fun y w H2 ⟨d, hg, hd⟩ r2 q2 x2 =>
    k x y v w d H2 O Q hg (Dp.mono x2.1 q1) q2 r2.tabs' r2.occ fun u H' x3 t3 q3 => kk d u H' hd (r2.go x3 t3) q3 (x1.trans (x2.trans (Xw.of x3)))⟩⟩
theorem op2_i {g : Int → Int → PyData} {gv : Int → Int → V} (hv : ∀ i j K H, Dp K H (gv i j) (g i j)) : Op2 K Ts (rI0 gv) (gI g) := fun x y v w d H O Q hg q1 q2 ht _ kk => by
  cases q1 <;> cases q2 <;> simp only [gI] at hg <;> try cases hg
  exact ⟨_, _, rfl, rfl, kk _ H (Xt.refl H) ht (hv ..)⟩
theorem op2_ic {C : Int → Int → Prop} {c : Int → Int → Bool} {g : Int → Int → PyData} {gv : Int → Int → V} (hC : ∀ i j, c i j = true → C i j) (hv : ∀ i j K H, Dp K H (gv i j) (g i j)) : Op2 K Ts (rI C gv) (gIc c g) := fun x y v w d H O Q hg q1 q2 ht _ kk => by
  cases q1 <;> cases q2 <;> simp only [gIc] at hg <;> try cases hg
  split at hg
  · rename_i hc
    cases hg
    exact ⟨_, _, rfl, rfl, hC _ _ hc, kk _ H (Xt.refl H) ht (hv ..)⟩
  · cases hg
theorem op2_eq : Op2 K Ts (rEqD K) gEq := fun x y v w d H O Q hg q1 q2 ht _ kk => by
  unfold gEq at hg
  split at hg
  · rename_i hs
    rw [Bool.and_eq_true] at hs
    cases hg
    exact ⟨x, y, Dp.mono hide_out q1, Dp.mono hide_out q2, hs.1, hs.2, kk _ H (Xt.refl H) ht (.bl _)⟩
  · cases hg
theorem op2_ne : Op2 K Ts (rNeD K) gNe := fun x y v w d H O Q hg q1 q2 ht _ kk => by
  unfold gNe at hg
  split at hg
  · rename_i hs
    rw [Bool.and_eq_true] at hs
    cases hg
    exact ⟨x, y, Dp.mono hide_out q1, Dp.mono hide_out q2, hs.1, hs.2, kk _ H (Xt.refl H) ht (.bl _)⟩
  · cases hg
theorem op2_plus : Op2 X.K Ts (fun x y H Q => rI0 (fun i j => .int (i + j)) x y H Q ∨ rCatA X.K x y H Q ∨ rCatL X.K x y H Q) gPlus := fun x y v w d H O Q h3 q1 q2 ht occ kk => by
  cases x <;> cases y <;> simp only [gPlus] at h3 <;> try cases h3
  · cases q1
    cases q2
    exact .inl ⟨_, _, rfl, rfl, kk _ H (Xt.refl H) ht (.int _)⟩
  · split at h3
    · rename_i hl
      cases h3
      cases q1 with
      | lst s1 a1 =>
        cases q2 with
        | lst s2 a2 =>
          have l1 := DpAll.len a1
          have l2 := DpAll.len a2
          exact .inr (.inr ⟨_, _, _, _, rfl, rfl, sqL_mono (fun o n e => (hide_some e).2) s1, sqL_mono (fun o n e => (hide_some e).2) s2, by rw [l1, l2, sizeLine_eq]; omega, fun p np => kk _ _ (Xt.upd np) (ht.new np) (lst_new np (new_out occ np) (DpAll.app a1 a2))⟩)
    · cases h3
  · split at h3
    · rename_i hl
      cases h3
      cases q1 with
      | tup s1 a1 =>
        cases q2 with
        | tup s2 a2 =>
          have l1 := DpAll.len a1
          have l2 := DpAll.len a2
          refine .inr (.inl ⟨_, _, _, _, rfl, rfl, sqT_mono (fun o n e => (hide_some e).2) s1, sqT_mono (fun o n e => (hide_some e).2) s2, by rw [l1, l2, sizeLine_eq]; omega, fun e0 => ?_, fun _ e0 => ?_, fun _ _ p np => kk _ _ (Xt.upd np) (ht.new np) (tup_new np (new_out occ np) (DpAll.app a1 a2))⟩)
          · subst e0
            cases a1
            exact kk _ H (Xt.refl H) ht (.tup s2 a2)
          · subst e0
            cases a2
            rw [List.append_nil] at kk
            exact kk _ H (Xt.refl H) ht (.tup s1 a1)
    · cases h3
theorem we_plus (ha : WE X Ts ρ e F) (hb : WE X Ts ρ e2 G) : WE X Ts ρ (.BinOp e .Add e2 pos) (w2 gPlus F G) := PE.imp (pe_op op_plus ha hb) (ww_2 op2_plus)
theorem we_sub (ha : WE X Ts ρ e F) (hb : WE X Ts ρ e2 G) : WE X Ts ρ (.BinOp e .Sub e2 pos) (w2 (gI fun i j => .int (i - j)) F G) := PE.imp (pe_op op_sub ha hb) (ww_2 (op2_i fun _ _ _ _ => .int _))
theorem we_mul (ha : WE X Ts ρ e F) (hb : WE X Ts ρ e2 G) : WE X Ts ρ (.BinOp e .Mult e2 pos) (w2 (gIc cMul fun i j => .int (i * j)) F G) := PE.imp (pe_op op_mulW ha hb) (ww_2 (op2_ic (fun i j h => show CMulW i j from @of_decide_eq_true (i.natAbs.log2 + j.natAbs.log2 < 1000000) _ h) fun _ _ _ _ => .int _))
theorem we_mod (ha : WE X Ts ρ e F) (hb : WE X Ts ρ e2 G) : WE X Ts ρ (.BinOp e .Mod e2 pos) (w2 (gIc cMod fun i j => .int (i.fmod j)) F G) := PE.imp (pe_op op_modN ha hb) (ww_2 (op2_ic (fun i j h => of_decide_eq_true (show decide (j ≠ 0) = true from h)) fun _ _ _ _ => .int _))
def wTB (F : WF) : En → (Bool → Prop) → Prop := fun en Q => F en fun d => ∃ b, d = .bool b ∧ Q b
theorem wt_of {t : TE} (h : PT X e (tTest t)) (w : ∀ σ H Q, tW X.K Ts ρ F σ H Q → t σ H Q) (hm : ∀ en Q Q', (∀ d, Q d → Q' d) → F en Q → F en Q') : WT X Ts ρ e (wTB F) := PT.imp h fun σ H Q ⟨He, O, en, Qd, rp, hF, kk⟩ =>
  w σ H _ ⟨He, O, en, _, rp, hF, fun d v H' ⟨b, hb, hq⟩ r' q x => by subst hb; cases q; exact ⟨b, rfl, kk b H' hq r' x⟩⟩
theorem wt_val (h : WE X Ts ρ e F) (he : ∀ whole, isTrue e X.env whole = (do let v ← whole; standAt e.pos; holding [v] (truthy v)) := by intro _; rfl) : WT X Ts ρ e (wTB F) :=
  PT.imp (pt_val h he) fun σ H Q ⟨He, O, en, Qd, rp, hF, kk⟩ => ⟨He, O, en, _, rp, hF, fun d v H' ⟨b, hb, hq⟩ r' q x => by subst hb; cases q; exact ⟨b, rfl, kk b H' hq r' x⟩⟩
theorem wt_cmp {op : CmpOp} {r : R2} {g : PyData → PyData → Option PyData} (ho : OpR X (compareOp op) r) (k : Op2 X.K Ts r g) (ha : WE X Ts ρ e F) (hb : WE X Ts ρ e2 G) (hm : behindInMarks op e2 = false) : WT X Ts ρ (.Compare e [op] [e2] pos) (wTB (w2 g F G)) :=
  PT.imp (pt_cmpR ho ha hb hm) fun σ H Q ⟨He, O, en, Qd, rp, hF, kk⟩ => ww_2 k σ H _ ⟨He, O, en, _, rp, hF, fun d v H' ⟨b, hb, hq⟩ r' q x => by subst hb; cases q; exact ⟨b, rfl, kk b H' hq r' x⟩⟩
theorem we_cmp {op : CmpOp} {r : R2} {g : PyData → PyData → Option PyData} (ho : OpR X (compareOp op) r) (k : Op2 X.K Ts r g) (ha : WE X Ts ρ e F) (hb : WE X Ts ρ e2 G) (hm : behindInMarks op e2 = false) : WE X Ts ρ (.Compare e [op] [e2] pos) (w2 g F G) := PE.imp (pe_cmpR ho ha hb hm) (ww_2 k)

/-! lists of arguments, displays -/
def wNil : En → (List PyData → Prop) → Prop := fun _ Q => Q []
def wCons (F : WF) (G : En → (List PyData → Prop) → Prop) : En → (List PyData → Prop) → Prop := fun en Q => F en fun x => G en fun xs => Q (x :: xs)
variable {Gs : En → (List PyData → Prop) → Prop}
theorem wa_nil : WA X Ts ρ [] wNil := PA.imp pa_nil fun σ H Q ⟨He, O, en, Qd, rp, hF, kk⟩ => kk [] [] H hF rp .nil (Xw.refl _)
theorem wa_cons (ha : WE X Ts ρ e F) (hr : WA X Ts ρ es Gs) (hs : starEach (e :: es) X.env = (false, eval e X.env) :: starEach es X.env := by rfl) : WA X Ts ρ (e :: es) (wCons F Gs) := PA.imp (pa_cons ha hr hs) fun σ H Q ⟨He, O, en, Qd, rp, hF, kk⟩ =>
  ⟨He, O, en, _, rp, hF, fun x v H1 hx r1 q1 x1 => ⟨He, O, en, _, r1, hx, fun xs vs H2 hxs r2 q2 x2 => kk _ _ H2 hxs r2 (.cons (Dp.mono x2.1 q1) q2) (x1.trans x2)⟩⟩
def wTup (G : En → (List PyData → Prop) → Prop) : WF := fun en Q => G en fun ds => ds.length ≤ 64 ∧ Q (.tuple ds)
def wLst (G : En → (List PyData → Prop) → Prop) : WF := fun en Q => G en fun ds => ds.length ≤ 64 ∧ Q (.list ds)
theorem we_tup {x1} (h : WA X Ts ρ es Gs) : WE X Ts ρ (.Tuple es x1 pos) (wTup Gs) := PE.imp (pe_tup h) fun σ H Q ⟨He, O, en, Qd, rp, hF, kk⟩ =>
  ⟨He, O, en, _, rp, hF, fun ds vs H1 ⟨hl, hq⟩ r1 q1 x1 => ⟨by rw [DpAll.len q1]; exact small64 hl, fun p np => kk _ _ _ hq (r1.go (Xt.upd np) (r1.tabs'.new np)) (tup_new np (new_out r1.occ np) q1) (x1.trans (Xw.of (Xt.upd np)))⟩⟩
theorem we_lst (h : WA X Ts ρ es Gs) : WE X Ts ρ (.List es pos) (wLst Gs) := PE.imp (pe_lst h) fun σ H Q ⟨He, O, en, Qd, rp, hF, kk⟩ =>
  ⟨He, O, en, _, rp, hF, fun ds vs H1 ⟨hl, hq⟩ r1 q1 x1 => ⟨by rw [DpAll.len q1]; exact small64 hl, fun p np => kk _ _ _ hq (r1.go (Xt.upd np) (r1.tabs'.new np)) (lst_new np (new_out r1.occ np) q1) (x1.trans (Xw.of (Xt.upd np)))⟩⟩
/-! tuple(x) -/
theorem we_tuple (hg : Gl X "tuple") (hm : X.mg "tuple" = none) (hv : bootBuiltins "tuple" = some (.type "tuple")) (ha : WE X Ts ρ e F) (he : starEach [e] X.env = (false, eval e X.env) :: starEach [] X.env := by rfl) : WE X Ts ρ (.Call (.Name "tuple" p) [e] [] pos) (w1 gTuple F) :=
  PE.imp (pe_callTy (t := tCons (tW X.K Ts ρ F) tNil) call_tuple_of hg hm hv (pa_cons ha pa_nil he) (by decide) (by decide) he (by rfl)) fun σ H Q ⟨He, O, en, Qd, rp, hF, kk⟩ =>
    ⟨He, O, en, _, rp, hF, fun d v H1 ⟨z, hz, hq⟩ r1 q1 x1 => by
      cases d <;> simp only [gTuple, items, Option.map_some, Option.map_none] at hz <;> try cases hz
      · cases q1 with
        | lst s a => exact ⟨_, _, rfl, .inl ⟨sqL_mono (fun o n e => (hide_some e).2) s, fun l nl => kk _ _ _ hq (r1.go (Xt.upd nl) (r1.tabs'.new nl)) (tup_new nl (new_out r1.occ nl) a) (x1.trans (Xw.of (Xt.upd nl)))⟩⟩
      · cases q1 with
        | tup s a => exact ⟨_, _, rfl, .inr ⟨sqT_mono (fun o n e => (hide_some e).2) s, kk _ _ H1 hq r1 (.tup s a) x1⟩⟩⟩
/-! own defs: plain ones with drawn arguments; those that draw -/
def wCall (n : Nat) (Fn : List PyData → Option PyData) (G : En → (List PyData → Prop) → Prop) : WF := fun en Q => G en fun ds => ds.length = n ∧ ∃ d, Fn ds = some d ∧ Q d
theorem we_call {k j n : Nat} {x : Str} {Fn : List PyData → Option PyData} (hr : Room j X.A) (hF : DFn X Ts k x n Fn) (hk : k ≤ j) (hg : Gl X x) (ha : WA X Ts ρ (e :: es) Gs) (hdb : (x == ("__debug__" : Str)) = false := by decide)
    (he : starEach (e :: es) X.env = (false, eval e X.env) :: starEach es X.env := by rfl) (hpl : (backTo pos (starEach es X.env)).any (·.1) = false := by rfl) : WE X Ts ρ (.Call (.Name x p) (e :: es) [] pos) (wCall n Fn Gs) := by
  obtain ⟨f, fd, ps, h1, h2, h3, h4⟩ := hF.ex
  refine PE.imp (pe_call h4 (hr.mono hk) hg h1 h2 h3 .nil pass0 ha hdb he hpl) fun σ H Q ⟨He, O, en, Qd, rp, hF, kk⟩ => ?_
  refine ⟨He, O, en, _, rp, hF, fun ds vs H1 ⟨hl, d, hd, hq⟩ r1 q1 x1 => ?_⟩
  show spD X.K Ts n Fn (vs ++ []) H1 Q E0
  rw [List.append_nil]
  exact ⟨by rw [DpAll.len q1]; exact hl, O, ds, d, q1, r1.tabs', r1.occ, hd, fun v H' x t q => kk d v H' hq (r1.go x t) q (x1.trans (Xw.of x))⟩
/-- a def that draws from the row, its first argument -/
def spW (K : PySem.W.Frag) (Ts : List Addr) (n : Nat) (F : List PyData → (PyData → Prop) → Prop) : Sp := fun vs H Q _ => vs.length = n + 1 ∧ ∃ a vs' O ds rw ws Qd, vs = .ref a :: vs' ∧ a ∈ O ∧ H a = some (.lst ws) ∧ DpAll K (hide H O) ws rw ∧ RowOk rw ∧ DpAll K (hide H O) vs' ds ∧ Tb Ts H ∧
  (∀ b ∈ O, H b ≠ none ∧ ∀ ps, H b ≠ some (.tbl ps)) ∧ F ds Qd ∧ ∀ d v H' rw' ws', Qd d → RowOk rw' → H' a = some (.lst ws') → DpAll K (hide H' O) ws' rw' → XtB a H H' → Tb Ts H' → Dp K (hide H' O) v d → Q v H'
theorem spW.imp {n : Nat} {F G : List PyData → (PyData → Prop) → Prop} (h : ∀ ds Q, G ds Q → F ds Q) : ∀ vs H Q E, spW K Ts n G vs H Q E → spW K Ts n F vs H Q E :=
  fun vs H Q E ⟨h1, a, vs', O, ds, rw, ws, Qd, e1, e2, e3, e4, e5, e6, e7, e8, e9, k⟩ => ⟨h1, a, vs', O, ds, rw, ws, Qd, e1, e2, e3, e4, e5, e6, e7, e8, h ds Qd e9, k⟩
structure CW (P : Program) (w : World) (K : PySem.W.Frag) (mg : Str → Option Value) (base : Heap) (Ts : List Addr) (k : Nat) (x : Str) (n : Nat) (F : List PyData → (PyData → Prop) → Prop) : Prop where
  ex : ∃ f fd ps, mg x = some (.ref f) ∧ PySem.W.keepIn K (.ref f) = true ∧ Binds K fd ps [] ∧ FnOk P w K mg base CX0 k f fd ps (spW K Ts n F)
theorem CW.imp {P : Program} {w : World} {mg : Str → Option Value} {base : Heap} {k : Nat} {x : Str} {n : Nat} {F G : List PyData → (PyData → Prop) → Prop} (c : CW P w K mg base Ts k x n F) (h : ∀ ds Q, G ds Q → F ds Q) : CW P w K mg base Ts k x n G := by
  obtain ⟨f, fd, ps, h1, h2, h3, h4⟩ := c.ex
  exact ⟨f, fd, ps, h1, h2, h3, h4.imp (spW.imp h)⟩
def wDraw (n : Nat) (Fn : List PyData → (PyData → Prop) → Prop) (G : En → (List PyData → Prop) → Prop) : WF := fun en Q => G en fun ds => ds.length = n ∧ Fn ds Q
theorem WRep.back {He : Hp} {O : List Addr} {σ : St} {H H' : Hp} {en : En} {a : Addr} {rw' : List PyData} {ws' : List V} (r : WRep K Ts ρ He O σ H en) (hs : σ[ρ]? = some (some (V.ref a))) (hr : RowOk rw') (ha : H' a = some (.lst ws')) (q : DpAll K (hide H' O) ws' rw') (x : XtB a H H') (t : Tb Ts H') : WRep K Ts ρ He O σ H' en ∧ Xt (hide H O) (hide H' O) := by
  obtain ⟨hl, rw, hr0, rp⟩ := r
  have hρ : (en.set ρ (Slot.own rw))[ρ]? = some (Slot.own rw) := by rw [List.getElem?_set_self hl]
  obtain ⟨a0, vs0, p1, p2, p3, p4, p5⟩ := rp.own ρ rw hρ
  rw [hs] at p1
  cases p1
  have xh : Xt (hide H O) (hide H' O) := fun b o e => by
    obtain ⟨e1, e2⟩ := hide_some e
    have hne : b ≠ a := fun z => e1 (z ▸ p2)
    rcases x b o hne e2 with q | ⟨ps, qs, e3, q⟩
    · exact .inl (hide_of e1 q)
    · exact .inr ⟨ps, qs, e3, hide_of e1 q⟩
  have toOwn : ∀ (j : Nat) (es : List PyData), (en.set ρ (Slot.own rw'))[j]? = some (Slot.own es) → ∃ es', (en.set ρ (Slot.own rw))[j]? = some (Slot.own es') := fun j es h => by
    by_cases hj : ρ = j
    · subst hj; exact ⟨rw, hρ⟩
    · rw [List.getElem?_set_ne hj] at h ⊢; exact ⟨es, h⟩
  refine ⟨⟨hl, rw', hr, ⟨by simpa using rp.len, fun j d h => ?_, fun j es h => ?_, fun j k es es' aa h1 h2 h3 h4 => ?_, fun b hb => ?_, fun b o e => ?_, t⟩⟩, xh⟩
  · have hj : ρ ≠ j := fun z => by subst z; rw [List.getElem?_set_self hl] at h; cases h
    rw [List.getElem?_set_ne hj] at h
    obtain ⟨v, q1, q2⟩ := rp.dat j d (by rw [List.getElem?_set_ne hj]; exact h)
    exact ⟨v, q1, Dp.mono xh q2⟩
  · by_cases hj : ρ = j
    · subst hj
      rw [List.getElem?_set_self hl] at h
      cases h
      exact ⟨a, ws', hs, p2, p3, ha, q⟩
    · rw [List.getElem?_set_ne hj] at h
      obtain ⟨a', vs', q1, q2, q3, q4, q5⟩ := rp.own j es (by rw [List.getElem?_set_ne hj]; exact h)
      have hne : a' ≠ a := fun z => hj (by subst z; exact rp.inj ρ j rw es a' hρ (by rw [List.getElem?_set_ne hj]; exact h) hs q1)
      rcases x a' _ hne q4 with q | ⟨_, _, z, _⟩
      · exact ⟨a', vs', q1, q2, q3, q, DpAll.mono xh q5⟩
      · cases z
  · obtain ⟨e1, g1⟩ := toOwn j es h1
    obtain ⟨e2, g2⟩ := toOwn k es' h2
    exact rp.inj j k e1 e2 aa g1 g2 h3 h4
  · by_cases z : b = a
    · rw [z, ha]
      exact ⟨by simp, fun ps z => nomatch z⟩
    · obtain ⟨n1, n2⟩ := rp.occ b hb
      cases e : H b with
      | none => exact absurd e n1
      | some o =>
        rcases x b o z e with q | ⟨ps, qs, e3, q⟩
        · rw [q]; exact ⟨by simp, fun ps z => n2 ps (by rw [e]; exact z)⟩
        · exact absurd (by rw [e, e3]) (n2 ps)
  · have hne : b ≠ a := fun z => by rw [z, p3] at e; cases e
    rcases rp.ext b o e with q | ⟨ps, qs, e3, q⟩
    · exact x b o hne q
    · rcases x b _ hne q with q' | ⟨_, qs', _, q'⟩
      · exact .inr ⟨ps, qs, e3, q'⟩
      · exact .inr ⟨ps, qs', e3, q'⟩
theorem WRep.at {He : Hp} {O : List Addr} {σ : St} {H : Hp} {en : En} (r : WRep K Ts ρ He O σ H en) : ∃ a rw ws, σ[ρ]? = some (some (V.ref a)) ∧ a ∈ O ∧ He a = none ∧ H a = some (.lst ws) ∧ DpAll K (hide H O) ws rw ∧ RowOk rw := by
  obtain ⟨hl, rw, hr, rp⟩ := r
  obtain ⟨a, vs, p1, p2, p3, p4, p5⟩ := rp.own ρ rw (by rw [List.getElem?_set_self hl])
  exact ⟨a, rw, vs, p1, p2, p3, p4, p5, hr⟩
theorem we_draw {k j n : Nat} {x y : Str} {py : Pos} {Fn : List PyData → (PyData → Prop) → Prop} (hr : Room j X.A) (hF : CW X.prog X.w X.K X.mg X.base Ts k x n Fn) (hk : k ≤ j) (hg : Gl X x) (hN : X.N[ρ]? = some y) (hv : Vis X.env.scope y) (ha : WA X Ts ρ es Gs) (hdb : (x == ("__debug__" : Str)) = false := by decide) (hd : (y == ("__debug__" : Str)) = false := by decide)
    (hcd : (y == ("__classdict__" : Str)) = false := by decide) (he : starEach (.Name y py :: es) X.env = (false, eval (.Name y py) X.env) :: starEach es X.env := by rfl) (hpl : (backTo pos (starEach es X.env)).any (·.1) = false := by rfl) : WE X Ts ρ (.Call (.Name x p) (.Name y py :: es) [] pos) (wDraw n Fn Gs) := by
  obtain ⟨f, fd, ps, h1, h2, h3, h4⟩ := hF.ex
  refine PE.imp (pe_call h4 (hr.mono hk) hg h1 h2 h3 .nil pass0 (pa_cons (pe_var hN hv hd hcd) ha he) hdb he hpl) fun σ H Q ⟨He, O, en, Qd, rp, hF, kk⟩ => ?_
  obtain ⟨a, rw, ws, p1, p2, p3, p4, p5, p6⟩ := rp.at
  refine ⟨.ref a, p1, He, O, en, _, rp, hF, fun ds vs H1 ⟨hl, hq⟩ r1 q1 x1 => ?_⟩
  obtain ⟨a', rw1, ws1, s1, s2, s3, s4, s5, s6⟩ := r1.at
  rw [p1] at s1
  cases s1
  show spW X.K Ts n Fn ((V.ref a :: vs) ++ []) H1 Q E0
  rw [List.append_nil]
  exact ⟨by rw [List.length_cons, DpAll.len q1, hl], a, vs, O, ds, rw1, ws1, Qd, rfl, s2, s4, s5, s6, q1, r1.tabs', r1.occ, hq, fun d v H' rw' ws' hd hrw ha' hq' hx ht hdp => by
    obtain ⟨b1, b2⟩ := r1.back p1 hrw ha' hq' hx ht
    exact kk d v H' hd b1 hdp (x1.trans ⟨b2, fun a2 h2 => by rw [p1] at h2; cases h2; exact hx⟩)⟩
end
end DN
set_option Elab.async false
set_option linter.all false
set_option maxRecDepth 100000
set_option maxHeartbeats 4000000
namespace DN
open PySem PySem.Spec PyProof.Rows L2
/-! ### comprehensions that draw -/
/-- a target that leaves the row alone -/
def BOk (ρ : Nat) (b : PyData → En → Option En) : Prop := ∀ (d : PyData) (en en' : En) (rw : List PyData), b d en = some en' → b d (en.set ρ (.own rw)) = some (en'.set ρ (.own rw)) ∧ en'.length = en.length ∧
  (∀ j es, j ≠ ρ → en'[j]? = some (Slot.own es) → en[j]? = some (Slot.own es))
theorem bOk_name {ρ i : Nat} (h : i ≠ ρ) : BOk ρ (bName i) := fun d en en' rw hb => by
  unfold bName at hb ⊢
  split at hb
  · rename_i hi
    cases hb
    refine ⟨by rw [if_pos (by simpa using hi), List.set_comm _ _ (Ne.symm h)], by simp, fun j es hj h1 => ?_⟩
    have hij : i ≠ j := fun z => by subst z; rw [List.getElem?_set_self hi] at h1; cases h1
    rwa [List.getElem?_set_ne hij] at h1
  · cases hb
theorem bOk_names {ρ : Nat} : ∀ {is : List Nat}, (∀ i ∈ is, i ≠ ρ) → ∀ (ds : List PyData) (en en' : En) (rw : List PyData), bNames is ds en = some en' → bNames is ds (en.set ρ (.own rw)) = some (en'.set ρ (.own rw)) ∧ en'.length = en.length ∧
  (∀ j es, j ≠ ρ → en'[j]? = some (Slot.own es) → en[j]? = some (Slot.own es))
  | [], _, [], en, en', rw, h => by cases h; exact ⟨rfl, rfl, fun _ _ _ h => h⟩
  | [], _, _ :: _, _, _, _, h => by cases h
  | _ :: _, _, [], _, _, _, h => by cases h
  | i :: is, hi, d :: ds, en, en', rw, h => by
    obtain ⟨e1, h1, h2⟩ := Option.bind_eq_some_iff.mp h
    obtain ⟨a1, a2, a3⟩ := bOk_name (hi i List.mem_cons_self) d en e1 rw h1
    obtain ⟨b1, b2, b3⟩ := bOk_names (fun j hj => hi j (List.mem_cons_of_mem _ hj)) ds e1 en' rw h2
    exact ⟨by show (bName i d (en.set ρ (.own rw))).bind _ = _; rw [a1]; exact b1, b2.trans a2, fun j es hj h => a3 j es hj (b3 j es hj h)⟩
theorem bOk_tup {ρ : Nat} {is : List Nat} (h : ∀ i ∈ is, i ≠ ρ) : BOk ρ (bTup is) := fun d en en' rw hb => by
  cases d <;> try cases hb
  exact bOk_names h _ en en' rw hb
def tWI (K : PySem.W.Frag) (Ts : List Addr) (ρ : Nat) (F : En → (List PyData → Prop) → Prop) : TI := fun σ H R => ∃ He O en Qd, WRep K Ts ρ He O σ H en ∧ F en Qd ∧ ∀ ds J H1, Qd ds → WRep K Ts ρ He O σ H1 en → Xw ρ σ O H H1 → Gives K Ts J ds H1 O → R J H1
abbrev WI (X : Cx) (Ts : List Addr) (ρ : Nat) (tg iter : Expr) (F : En → (List PyData → Prop) → Prop) : Prop := PI X tg iter (tWI X.K Ts ρ F)
def gWD (K : PySem.W.Frag) (Ts : List Addr) (ρ : Nat) (vs : List Nat) (b : PyData → En → Option En) : TG := fun x σ H Q => ∃ He O en d en', WRep K Ts ρ He O σ H en ∧ Dp K (hide H O) x d ∧ b d en = some en' ∧ ∀ σ', WRep K Ts ρ He O σ' H en' → wipe σ' vs = wipe σ vs → Q σ' H
section
variable {K : PySem.W.Frag} {X : Cx} {Ts : List Addr} {ρ : Nat} {pos p : Pos} {e e2 tg iter elt : Expr} {es : List Expr} {f : En → Option PyData} {F G : WF} {it : En → (List PyData → Prop) → Prop} {b : PyData → En → Option En} {t : En → (Bool → Prop) → Prop}
theorem wg_of {vs : List Nat} (h : DG X Ts tg vs b) (hb : BOk ρ b) : PG X tg (gWD X.K Ts ρ vs b) := PG.imp h fun x σ H Q ⟨He, O, en, d, en', ⟨hl, rw, hr, rp⟩, q, hbd, kk⟩ =>
  ⟨He, O, _, d, _, rp, q, (hb d en en' rw hbd).1, fun σ' r' w' => kk σ' ⟨by rw [(hb d en en' rw hbd).2.1]; exact hl, rw, hr, r'⟩ w'⟩
def wIt (ρ : Nat) (f : En → Option (List PyData)) : En → (List PyData → Prop) → Prop := fun en Q => ∃ ds, (∀ rw, f (en.set ρ (.own rw)) = some ds) ∧ Q ds
theorem wi_pure {fi : En → Option (List PyData)} (h : DI X Ts tg iter fi) : WI X Ts ρ tg iter (wIt ρ fi) := PI.imp h fun σ H R ⟨He, O, en, Qd, ⟨hl, rw, hr, rp⟩, ⟨ds, hf, hq⟩, kk⟩ =>
  ⟨He, O, _, ds, rp, hf rw, fun J H1 x1 t1 gv => kk ds J H1 hq ⟨hl, rw, hr, rp.go x1 t1⟩ (Xw.of x1) gv⟩
def wRange1 (F : WF) : En → (List PyData → Prop) → Prop := fun en Q => F en fun d => ∃ j : Int, d = .int j ∧ -1000000 ≤ j ∧ j ≤ 1000000 ∧ Q (rangeD 0 j.toNat)
theorem wi_range1 (hg : Gl X "range") (hm : X.mg "range" = none) (ha : WE X Ts ρ e F) (hs : starEach [e] X.env = [(false, eval e X.env)] := by rfl) : WI X Ts ρ tg (.Call (.Name "range" p) [e] [] pos) (wRange1 F) :=
  PI.imp (pi_range1 (ta := tCons (tW X.K Ts ρ F) tNil) hg hm (pa_cons ha pa_nil hs) hs) fun σ H R ⟨He, O, en, Qd, rp, hF, kk⟩ =>
    ⟨He, O, en, _, rp, hF, fun d v H1 ⟨j, hj, h1, h2, hq⟩ r1 q1 x1 => by
      subst hj
      cases q1
      exact ⟨j, rfl, by omega, by omega, kk _ _ H1 hq r1 x1 gives_range⟩⟩
def wlcGo (b : PyData → En → Option En) (t : En → (Bool → Prop) → Prop) (f : WF) (en : En) : List PyData → (List PyData → Prop) → Prop
  | [], Q => Q []
  | d :: r, Q => ∃ e1, b d en = some e1 ∧ t e1 fun k => if k = true then f e1 fun y => wlcGo b t f en r fun o => Q (y :: o) else wlcGo b t f en r Q
def wLc (it : En → (List PyData → Prop) → Prop) (b : PyData → En → Option En) (t : En → (Bool → Prop) → Prop) (f : WF) (vs : List Nat) : WF := fun en Q => (∀ j ∈ vs, ∀ es, en[j]? ≠ some (Slot.own es)) ∧ it en fun ds => ds.length ≤ 1000000 ∧ wlcGo b t f (wipeE en vs) ds fun o => Q (.list o)
def wYes : En → (Bool → Prop) → Prop := fun _ Q => Q true
theorem wts_nil : PTs X [] (tWT X.K Ts ρ wYes) := ⟨fun pins s σ H Q I ⟨He, O, en, Qd, rp, hF, kk⟩ => pts_nil.run pins s σ H Q I (kk true H hF rp (Xw.refl _))⟩
theorem wipeE_set {en : En} {vs : List Nat} {x : Slot} (h : ρ ∉ vs) : wipeE (en.set ρ x) vs = (wipeE en vs).set ρ x := by
  induction vs with
  | nil => rfl
  | cons v vs ih =>
    have h1 : v ≠ ρ := fun e => h (by rw [e]; exact List.mem_cons_self)
    have h2 : ρ ∉ vs := fun m => h (List.mem_cons_of_mem _ m)
    show (wipeE (en.set ρ x) vs).set v .no = ((wipeE en vs).set v .no).set ρ x
    rw [ih h2, List.set_comm _ _ (Ne.symm h1)]
theorem wipeE_len (en : En) : ∀ vs : List Nat, (wipeE en vs).length = en.length
  | [] => rfl
  | v :: vs => by
    show ((wipeE en vs).set v .no).length = _
    rw [List.length_set, wipeE_len en vs]
theorem WRep.wipe {He : Hp} {O : List Addr} {σ : St} {H : Hp} {en : En} (r : WRep K Ts ρ He O σ H en) {vs : List Nat} (h : ρ ∉ vs) : WRep K Ts ρ He O (L2.wipe σ vs) H (wipeE en vs) := by
  obtain ⟨hl, rw, hr, rp⟩ := r
  refine ⟨by rw [wipeE_len]; exact hl, rw, hr, ?_⟩
  have := rp.wipe vs
  rwa [wipeE_set h] at this
theorem WRep.hid {He : Hp} {O : List Addr} {σ : St} {H : Hp} {en : En} (r : WRep K Ts ρ He O σ H en) {D : Addr} (hD : H D = none) {o : HO} (no : ∀ ps, o ≠ .tbl ps) : WRep K Ts ρ He (D :: O) σ (upd H D o) en := by
  obtain ⟨hl, rw, hr, rp⟩ := r
  exact ⟨hl, rw, hr, rp.hid hD no⟩
/-- the slots as they were, behind what another block did -/
theorem WRep.join {He : Hp} {O : List Addr} {σ σ2 : St} {H H5 : Hp} {en e2 : En} (r1 : WRep K Ts ρ He O σ H en) (r2 : WRep K Ts ρ He O σ2 H5 e2) (x : Xt (hide H O) (hide H5 O)) (hρ : σ2[ρ]? = σ[ρ]?)
    (ho : ∀ (j : Nat) (es : List PyData), j ≠ ρ → en[j]? = some (Slot.own es) → e2[j]? = some (Slot.own es) ∧ σ2[j]? = σ[j]?) : WRep K Ts ρ He O σ H5 en := by
  obtain ⟨hl, rw1, hr1, rp1⟩ := r1
  obtain ⟨hl2, rw2, hr2, rp2⟩ := r2
  have h2ρ : (e2.set ρ (Slot.own rw2))[ρ]? = some (Slot.own rw2) := by rw [List.getElem?_set_self hl2]
  have h1ρ : (en.set ρ (Slot.own rw1))[ρ]? = some (Slot.own rw1) := by rw [List.getElem?_set_self hl]
  have toOwn : ∀ (j : Nat) (es : List PyData), (en.set ρ (Slot.own rw2))[j]? = some (Slot.own es) → ∃ es', (en.set ρ (Slot.own rw1))[j]? = some (Slot.own es') := fun j es h => by
    by_cases hj : ρ = j
    · subst hj; exact ⟨rw1, h1ρ⟩
    · rw [List.getElem?_set_ne hj] at h ⊢; exact ⟨es, h⟩
  refine ⟨hl, rw2, hr2, ⟨by simpa using rp1.len, fun j d h => ?_, fun j es h => ?_, fun j k es es' aa h1 h2 h3 h4 => ?_, rp2.occ, rp2.ext, rp2.tabs⟩⟩
  · have hj : ρ ≠ j := fun z => by subst z; rw [List.getElem?_set_self hl] at h; cases h
    rw [List.getElem?_set_ne hj] at h
    obtain ⟨v, q1, q2⟩ := rp1.dat j d (by rw [List.getElem?_set_ne hj]; exact h)
    exact ⟨v, q1, Dp.mono x q2⟩
  · by_cases hj : ρ = j
    · subst hj
      rw [List.getElem?_set_self hl] at h
      cases h
      obtain ⟨a, vs, p1, p2⟩ := rp2.own ρ rw2 h2ρ
      exact ⟨a, vs, by rw [← hρ]; exact p1, p2⟩
    · rw [List.getElem?_set_ne hj] at h
      obtain ⟨q1, q2⟩ := ho j es (Ne.symm hj) h
      obtain ⟨a, vs, p1, p2⟩ := rp2.own j es (by rw [List.getElem?_set_ne hj]; exact q1)
      exact ⟨a, vs, by rw [← q2]; exact p1, p2⟩
  · obtain ⟨f1, g1⟩ := toOwn j es h1
    obtain ⟨f2, g2⟩ := toOwn k es' h2
    exact rp1.inj j k f1 f2 aa g1 g2 h3 h4
/-- an address is no longer hidden -/
theorem WRep.unhide {He : Hp} {O : List Addr} {σ : St} {H : Hp} {en : En} {D : Addr} (r : WRep K Ts ρ He (D :: O) σ H en) (no : ∀ (j : Nat) (es : List PyData) (a : Addr), (∃ rw, (en.set ρ (Slot.own rw))[j]? = some (Slot.own es)) → σ[j]? = some (some (V.ref a)) → a ≠ D) : WRep K Ts ρ He O σ H en := by
  obtain ⟨hl, rw, hr, rp⟩ := r
  have hs : Xt (hide H (D :: O)) (hide H O) := hide_sub fun b hb => List.mem_cons_of_mem _ hb
  refine ⟨hl, rw, hr, ⟨rp.len, fun j d h => let ⟨v, q1, q2⟩ := rp.dat j d h; ⟨v, q1, Dp.mono hs q2⟩, fun j es h => ?_, rp.inj, fun b hb => rp.occ b (List.mem_cons_of_mem _ hb), rp.ext, rp.tabs⟩⟩
  obtain ⟨a, vs, p1, p2, p3, p4, p5⟩ := rp.own j es h
  exact ⟨a, vs, p1, (List.mem_cons.mp p2).elim (fun z => absurd z (no j es a ⟨rw, h⟩ p1)) id, p3, p4, DpAll.mono hs p5⟩
theorem wipeE_out {en : En} {i : Nat} : ∀ {vs : List Nat}, i ∉ vs → (wipeE en vs)[i]? = en[i]?
  | [], _ => rfl
  | v :: vs, h => by
    have h1 : v ≠ i := fun e => h (by rw [e]; exact List.mem_cons_self)
    have h2 : i ∉ vs := fun m => h (List.mem_cons_of_mem _ m)
    show ((wipeE en vs).set v .no)[i]? = _
    rw [List.getElem?_set_ne h1]
    exact wipeE_out h2
/-- what the def's own lists are: elsewhere than at a free address -/
theorem WRep.free {He : Hp} {O : List Addr} {σ : St} {H : Hp} {en : En} {D : Addr} (r : WRep K Ts ρ He O σ H en) (nD : H D = none) : ∀ (j : Nat) (es : List PyData) (a : Addr), (∃ rw, (en.set ρ (Slot.own rw))[j]? = some (Slot.own es)) → σ[j]? = some (some (V.ref a)) → a ≠ D := fun j es a ⟨rw', h1⟩ h2 z => by
  obtain ⟨hl, rw0, hr0, rp0⟩ := r
  have : ∃ es', (en.set ρ (Slot.own rw0))[j]? = some (Slot.own es') := by
    by_cases hj : ρ = j
    · subst hj; exact ⟨rw0, by rw [List.getElem?_set_self hl]⟩
    · rw [List.getElem?_set_ne hj] at h1 ⊢; exact ⟨es, h1⟩
  obtain ⟨es', h3⟩ := this
  obtain ⟨a', vs', g1, g2, g3, g4, _⟩ := rp0.own j es' h3
  rw [h2] at g1
  cases g1
  rw [z, nD] at g4
  cases g4
/-- a hidden list, no slot's, grows -/
theorem WRep.grow {He : Hp} {O : List Addr} {σ : St} {H : Hp} {en : En} {D : Addr} {l l' : List V} (r : WRep K Ts ρ He O σ H en) (hm : D ∈ O) (hD : H D = some (.lst l)) (nE : He D = none) (no : ∀ (j : Nat) (es : List PyData) (a : Addr), (∃ rw, (en.set ρ (Slot.own rw))[j]? = some (Slot.own es)) → σ[j]? = some (some (V.ref a)) → a ≠ D) : WRep K Ts ρ He O σ (upd H D (.lst l')) en := by
  obtain ⟨hl, rw, hr, rp⟩ := r
  have hu : Xt (hide H O) (hide (upd H D (.lst l')) O) := hide_upd hm
  refine ⟨hl, rw, hr, ⟨rp.len, fun j dd h => let ⟨u, p, q⟩ := rp.dat j dd h; ⟨u, p, Dp.mono hu q⟩, fun j es h => ?_, rp.inj, fun bb hb => ?_, fun bb o e => ?_, rp.tabs.upd fun ps z => by rw [hD] at z; cases z⟩⟩
  · obtain ⟨a, ws, p1, p2, p3, p4, p5⟩ := rp.own j es h
    exact ⟨a, ws, p1, p2, p3, by rw [upd_ne (no j es a ⟨rw, h⟩ p1)]; exact p4, DpAll.mono hu p5⟩
  · by_cases z : bb = D
    · rw [z, upd_same]
      exact ⟨by simp, fun ps q => nomatch q⟩
    · rw [upd_ne z]
      exact rp.occ bb hb
  · have hne : bb ≠ D := fun z => by rw [z, nE] at e; cases e
    rw [upd_ne hne]
    exact rp.ext bb o e
def tWNew (K : PySem.W.Frag) (Ts : List Addr) (ρ : Nat) (F : WF) : TE := fun σ H Q => ∃ He O en Qd, WRep K Ts ρ He O σ H en ∧ F en Qd ∧ ∀ ds a vs H', Qd (.list ds) → WRep K Ts ρ He O σ H' en → H a = none → H' a = some (.lst vs) → DpAll K (hide H' (a :: O)) vs ds → Xt (hide H O) (hide H' (a :: O)) → (∀ r, σ[ρ]? = some (some (V.ref r)) → XtB r H H') → Q (.ref a) H'
theorem wlc_w {vs : List Nat} {σ : St} {H : Hp} {Q : VK} (hρ : ρ ∉ vs) (hbo : BOk ρ b) (hbv : ∀ (d : PyData) (en e1 : En) (j : Nat), j ∉ vs → b d en = some e1 → e1[j]? = en[j]?) (h : tWNew K Ts ρ (wLc it b t F vs) σ H Q) :
    tLc (tWI K Ts ρ it) (gWD K Ts ρ vs b) (tWT K Ts ρ t) (tW K Ts ρ F) vs σ H Q := by
  obtain ⟨He, O, en, Qd, rp, ⟨hno, hF⟩, kk⟩ := h
  refine ⟨He, O, en, _, rp, hF, fun ds J H1 ⟨hlen, hgo0⟩ r1 x1 gv D nD => ?_⟩
  have noD := r1.free nD
  obtain ⟨aρ, rwρ, wsρ, s1, s2, s3, s4, s5, s6⟩ := r1.at
  have hneρ : D ≠ aρ := fun z => by rw [← z, nD] at s4; cases s4
  have rD := r1.hid nD (o := .lst []) (fun _ z => nomatch z)
  have hDm : D ∈ D :: O := List.mem_cons_self
  have x0 : Xt (hide H1 O) (hide (upd H1 D (.lst [])) (D :: O)) := fun bb o e => by
    obtain ⟨e1, e2⟩ := hide_some e
    have hne := ne_of_none e2 nD
    exact .inl (hide_of (fun z => (List.mem_cons.mp z).elim hne e1) (by rw [upd_ne hne]; exact e2))
  have nDH : H D = none := by
    cases e : H D with
    | none => rfl
    | some o =>
      rcases x1.2 aρ s1 D o hneρ e with q | ⟨_, _, _, q⟩ <;> rw [q] at nD <;> cases nD
  have nDHe : He D = none := by
    obtain ⟨_, _, _, rp1⟩ := r1
    exact rp1.ext.there nD
  refine ⟨fun i m H2 => m = ds.length - i ∧ i ≤ ds.length ∧ Xt (hide H1 O) (hide H2 (D :: O)) ∧ XtB aρ H1 H2 ∧ WRep K Ts ρ He (D :: O) σ H2 en ∧ ∃ acc done, H2 D = some (.lst acc) ∧ DpAll K (hide H2 (D :: O)) acc done ∧ acc.length ≤ i ∧ wlcGo b t F (wipeE en vs) (ds.drop i) fun o => Qd (.list (done ++ o)),
    ⟨ds.length, by simp, Nat.zero_le _, x0, .of (Xt.upd nD), rD, [], [], upd_same, .nil, Nat.zero_le _, by simpa using hgo0⟩, fun i m H2 hW => ?_⟩
  obtain ⟨rfl, hi, x12, xb, r2, acc, done, hD, ha, hal, hgo⟩ := hW
  have occ2 : ∀ b ∈ D :: O, H2 b ≠ none ∧ ∀ ps, H2 b ≠ some (.tbl ps) := r2.occ
  obtain ⟨g1, g2, g3⟩ := gv (D :: O) H2 x12 (x12.trans hide_out) occ2
  by_cases hlt : i < ds.length
  · refine .inr ⟨g1 i hlt, fun H' => Xt (hide H1 O) (hide H' (D :: O)) ∧ XtB aρ H1 H' ∧ WRep K Ts ρ He (D :: O) σ H' en ∧ ∃ acc done, H' D = some (.lst acc) ∧ DpAll K (hide H' (D :: O)) acc done ∧ acc.length ≤ i + 1 ∧ wlcGo b t F (wipeE en vs) (ds.drop (i + 1)) fun o => Qd (.list (done ++ o)),
      fun H' ⟨a, c⟩ => ⟨ds.length - (i + 1), by omega, rfl, hlt, a, c⟩, fun x H3 hy => ?_⟩
    obtain ⟨d, hd, x23, t23, qd⟩ := g3 i x H3 hlt hy
    have r3 := r2.go x23 (t23 r2.tabs')
    rw [List.drop_eq_getElem_cons hlt] at hgo
    have hd' : ds[i] = d := by rw [List.getElem?_eq_getElem hlt] at hd; exact Option.some.inj hd
    rw [hd'] at hgo
    obtain ⟨e1, hb, hgo1⟩ := hgo
    refine ⟨He, D :: O, _, d, e1, r3.wipe hρ, qd, hb, fun σ2 r4 hw => ⟨hw.trans (wipe_wipe _ _), ?_⟩⟩
    have hsame : ∀ j, j ∉ vs → σ2[j]? = σ[j]? := fun j hj => by rw [← wipe_out hj, hw, wipe_wipe, wipe_out hj]
    have hown : ∀ (j : Nat) (es : List PyData), j ≠ ρ → en[j]? = some (Slot.own es) → e1[j]? = some (Slot.own es) ∧ σ2[j]? = σ[j]? := fun j es hj h1 => by
      have hjv : j ∉ vs := fun z => hno j z es h1
      exact ⟨by rw [hbv d _ e1 j hjv hb, wipeE_out hjv]; exact h1, hsame j hjv⟩
    have s1' : σ2[ρ]? = some (some (V.ref aρ)) := by rw [hsame ρ hρ]; exact s1
    have hD3 : H3 D = some (.lst acc) := x23.get D _ hD (fun _ z => nomatch z)
    refine ⟨He, D :: O, e1, _, r4, hgo1, fun k H4 hk r5 x34 => ?_⟩
    have hD4 : H4 D = some (.lst acc) := by
      rcases x34.2 aρ s1' D _ hneρ hD3 with q | ⟨_, _, z, _⟩
      · exact q
      · cases z
    have xh24 : Xt (hide H2 (D :: O)) (hide H4 (D :: O)) := (hide_mono x23).trans x34.1
    have xb4 : XtB aρ H1 H4 := (xb.trans (.of x23)).trans (x34.2 aρ s1')
    cases k with
    | false =>
      simp only [Bool.false_eq_true, if_false] at hk ⊢
      exact ⟨x12.trans xh24, xb4, r3.join r5 x34.1 (hsame ρ hρ) hown, acc, done, hD4, DpAll.mono xh24 ha, by omega, hk⟩
    | true =>
      simp only [if_true] at hk ⊢
      refine ⟨He, D :: O, e1, _, r5, hk, fun y v H5 hy5 r6 q6 x45 => ?_⟩
      have hD5 : H5 D = some (.lst acc) := by
        rcases x45.2 aρ s1' D _ hneρ hD4 with q | ⟨_, _, z, _⟩
        · exact q
        · cases z
      have xh25 := xh24.trans x45.1
      have xb5 : XtB aρ H1 H5 := xb4.trans (x45.2 aρ s1')
      have hu : Xt (hide H5 (D :: O)) (hide (upd H5 D (.lst (acc ++ [v]))) (D :: O)) := hide_upd hDm
      have r7 := r3.join r6 (x34.trans x45).1 (hsame ρ hρ) hown
      refine ⟨acc, hD5, by rw [sizeLine_eq]; omega, x12.trans (xh25.trans hu), fun bb o hb2 e => ?_, r7.grow hDm hD5 nDHe noD, acc ++ [v], done ++ [y], upd_same, DpAll.app (DpAll.mono (xh25.trans hu) ha) (.cons (Dp.mono hu q6) .nil), by rw [List.length_append]; simp; omega, by simpa using hy5⟩
      have hne : bb ≠ D := ne_of_none e nD
      rw [upd_ne hne]
      exact xb5 bb o hb2 e
  · have hie : i = ds.length := by omega
    subst hie
    rw [List.drop_of_length_le (Nat.le_refl _)] at hgo
    have hq : Qd (.list done) := by simpa [wlcGo] using hgo
    refine .inl ⟨g2, kk done D acc H2 hq (r2.unhide noD) nDH hD ha (x1.1.trans x12) fun r hr => ?_⟩
    have : r = aρ := by rw [s1] at hr; cases hr; rfl
    subst this
    exact (x1.2 r s1).trans xb
end
end DN
set_option Elab.async false
set_option linter.all false
set_option maxRecDepth 100000
set_option maxHeartbeats 4000000
namespace DN
open PySem PySem.Spec PyProof.Rows L2
section
variable {X : Cx} {Ts : List Addr} {ρ : Nat} {pos p : Pos} {e elt tg iter : Expr} {ifs : List Expr} {scope : Scope} {own : List (Str × Nat)} {it : En → (List PyData → Prop) → Prop} {b : PyData → En → Option En} {t : En → (Bool → Prop) → Prop} {F : WF}
theorem wnew_w {K : PySem.W.Frag} {σ : St} {H : Hp} {Q : VK} (hl : ∀ en Qd, F en Qd → F en fun d => (∃ ds, d = .list ds) ∧ Qd d) (h : tW K Ts ρ F σ H Q) : tWNew K Ts ρ F σ H Q := by
  obtain ⟨He, O, en, Qd, rp, hF, kk⟩ := h
  refine ⟨He, O, en, _, rp, hl _ _ hF, fun ds a vs H' ⟨_, hq⟩ r' na ha q x xb => ?_⟩
  have nO : a ∉ O := fun z => (rp.occ a z).1 na
  have hs : Xt (hide H' (a :: O)) (hide H' O) := hide_sub fun b hb => List.mem_cons_of_mem _ hb
  exact kk _ _ H' hq r' (.lst (.inl (.inl (hide_of nO ha))) (DpAll.mono hs q)) ⟨x.trans hs, xb⟩
theorem wlcGo_imp {f : WF} (hf : ∀ en Q Q', (∀ d, Q d → Q' d) → f en Q → f en Q') (ht : ∀ en Q Q', (∀ d, Q d → Q' d) → t en Q → t en Q') : ∀ (ds : List PyData) (en : En) (Q Q' : List PyData → Prop), (∀ o, Q o → Q' o) → wlcGo b t f en ds Q → wlcGo b t f en ds Q'
  | [], _, _, _, hq, h => hq _ h
  | d :: r, en, Q, Q', hq, ⟨e1, h1, h2⟩ => ⟨e1, h1, ht _ _ _ (fun k hk => by
      cases k with
      | false => simp only [Bool.false_eq_true, if_false] at hk ⊢; exact wlcGo_imp hf ht r en Q Q' hq hk
      | true => simp only [if_true] at hk ⊢; exact hf _ _ _ (fun y hy => wlcGo_imp hf ht r en _ _ (fun o ho => hq _ ho) hy) hk) h2⟩
/-- a reading that is monotone -/
def Mn (F : WF) : Prop := ∀ en Q Q', (∀ d, Q d → Q' d) → F en Q → F en Q'
def MnT (F : En → (Bool → Prop) → Prop) : Prop := ∀ en Q Q', (∀ d, Q d → Q' d) → F en Q → F en Q'
def MnI (F : En → (List PyData → Prop) → Prop) : Prop := ∀ en Q Q', (∀ d, Q d → Q' d) → F en Q → F en Q'
theorem mnt_yes : MnT wYes := fun _ _ _ h q => h _ q
theorem wlc_list {f : WF} {vs : List Nat} (hf : Mn f) (ht : MnT t) (hi : MnI it) : ∀ en Qd, wLc it b t f vs en Qd → wLc it b t f vs en fun d => (∃ ds, d = .list ds) ∧ Qd d := fun en Qd ⟨h0, h⟩ =>
  ⟨h0, hi _ _ _ (fun ds ⟨h1, h2⟩ => ⟨h1, wlcGo_imp hf ht ds _ _ _ (fun o ho => ⟨⟨o, rfl⟩, ho⟩) h2⟩) h⟩
theorem we_lc (hc : X.calm = true) (hN : X.N.Nodup) (hi : WI X Ts ρ tg iter it) (ok : BlkOk X.N X.env.scope scope own) (hρ : ρ ∉ own.map (·.2)) (hbo : BOk ρ b) (hbv : ∀ (d : PyData) (en e1 : En) (j : Nat), j ∉ own.map (·.2) → b d en = some e1 → e1[j]? = en[j]?)
    (hg : ∀ s H C cl fp, DG (BX X scope s H C cl fp) Ts tg (own.map (·.2)) b) (ht : ∀ s H C cl fp, PTs (BX X scope s H C cl fp) ifs (tWT X.K Ts ρ t))
    (he : ∀ s H C cl fp, WE (BX X scope s H C cl fp) Ts ρ elt F) (mf : Mn F) (mt : MnT t) (mi : MnI it) (hs : ∀ x, foldedSetIterable iter X.env x = pure x := by intro _; rfl) : WE X Ts ρ (.ListComp elt [⟨tg, iter, ifs, 0⟩] scope pos) (wLc it b t F (own.map (·.2))) :=
  PE.imp (pe_lc hc hN hi ok (fun s H C cl fp => wg_of (hg s H C cl fp) hbo) (fun s H C cl fp => ht s H C cl fp) (fun s H C cl fp => he s H C cl fp) hs) fun σ H Q h => wlc_w hρ hbo hbv (wnew_w (wlc_list mf mt mi) h)
theorem bName_out {i : Nat} : ∀ (d : PyData) (en e1 : En) (j : Nat), j ∉ [i] → bName i d en = some e1 → e1[j]? = en[j]? := fun d en e1 j hj h => by
  unfold bName at h
  split at h
  · cases h
    rw [List.getElem?_set_ne (fun z => hj (by rw [z]; exact List.mem_cons_self))]
  · cases h
end
/-! ### defs that draw: return e -/
section
variable {P : Program} {w : World} {K : PySem.W.Frag} {mg : Str → Option Value} {base : Heap} {Ts : List Addr}
def runW (n : Nat) (F : WF) : List PyData → (PyData → Prop) → Prop := fun ds Q => F (Slot.no :: (ds.map Slot.dat ++ List.replicate (n - 1 - ds.length) Slot.no)) Q
theorem start_get {N : List Str} {vs : List V} {i : Nat} {v : V} (h : vs[i]? = some v) : (L2.start N vs)[i]? = some (some v) := by
  have hi : i < vs.length := (List.getElem?_eq_some_iff.mp h).1
  unfold L2.start
  rw [List.getElem?_append_left (by simpa using hi), List.getElem?_map, h]
  rfl
/-- the slots at a drawing def's first statement -/
theorem wrep_start {N : List Str} {n : Nat} {vs : List V} {H : Hp} {O : List Addr} {a : Addr} {vs' : List V} {ds rw : List PyData} {ws : List V} (hn : vs.length = n + 1) (hN : vs.length ≤ N.length) (e1 : vs = .ref a :: vs') (e2 : a ∈ O) (e3 : H a = some (.lst ws)) (e4 : DpAll K (hide H O) ws rw) (e6 : DpAll K (hide H O) vs' ds) (e7 : Tb Ts H) (e8 : ∀ b ∈ O, H b ≠ none ∧ ∀ ps, H b ≠ some (.tbl ps)) :
    Rep K Ts (fun b => if b = a then none else H b) O (L2.start N vs) H (Slot.own rw :: (ds.map Slot.dat ++ List.replicate (N.length - 1 - ds.length) Slot.no)) := by
  subst e1
  have hl := DpAll.len e6
  have hlen : (Slot.own rw :: (ds.map Slot.dat ++ List.replicate (N.length - 1 - ds.length) Slot.no)).length = (L2.start N (V.ref a :: vs')).length := by
    simp [L2.start, hl]; simp at hN; omega
  refine ⟨hlen, fun i d h => ?_, fun i es h => ?_, fun i j es es' b h1 h2 h3 h4 => ?_, e8, fun b o e => ?_, e7⟩
  · cases i with
    | zero => cases h
    | succ i =>
      rw [List.getElem?_cons_succ] at h
      by_cases hi : i < ds.length
      · rw [List.getElem?_append_left (by simpa using hi), List.getElem?_map] at h
        obtain ⟨d', h1, h2⟩ := Option.map_eq_some_iff.mp h
        cases h2
        obtain ⟨v, h3, h4⟩ := DpAll.get' e6 h1
        exact ⟨v, start_get (by rw [List.getElem?_cons_succ]; exact h3), h4⟩
      · rw [List.getElem?_append_right (by simpa using hi), List.getElem?_replicate] at h
        split at h <;> cases h
  · cases i with
    | zero =>
      cases h
      exact ⟨a, ws, start_get rfl, e2, if_pos rfl, e3, e4⟩
    | succ i =>
      rw [List.getElem?_cons_succ] at h
      by_cases hi : i < ds.length
      · rw [List.getElem?_append_left (by simpa using hi), List.getElem?_map] at h
        obtain ⟨d', h1, h2⟩ := Option.map_eq_some_iff.mp h
        cases h2
      · rw [List.getElem?_append_right (by simpa using hi), List.getElem?_replicate] at h
        split at h <;> cases h
  · have zero : ∀ {k : Nat} {es : List PyData}, (Slot.own rw :: (ds.map Slot.dat ++ List.replicate (N.length - 1 - ds.length) Slot.no))[k]? = some (Slot.own es) → k = 0 := fun {k es} h => by
      cases k with
      | zero => rfl
      | succ i =>
        rw [List.getElem?_cons_succ] at h
        by_cases hi : i < ds.length
        · rw [List.getElem?_append_left (by simpa using hi), List.getElem?_map] at h
          obtain ⟨d', h1, h2⟩ := Option.map_eq_some_iff.mp h
          cases h2
        · rw [List.getElem?_append_right (by simpa using hi), List.getElem?_replicate] at h
          split at h <;> cases h
    rw [zero h1, zero h2]
  · split at e
    · cases e
    · exact .inl e
theorem DF.okW {x qual : Str} {st : Stmt} {f : Addr} {fd : FuncData} {cdv : Value} {N ps : List Str} {k n : Nat} {F : WF} {e : Expr} {pos : Pos} (D : DF K x qual st f fd cdv) (S : FnScope N ps (defScope st)) (hn : ps.length = n + 1) (hN : n + 1 ≤ N.length) (hb : defBody st = [.Return (some e) pos])
    (hbody : ∀ (A : Around) (outer : List Env) (s : Shared) (H : Hp) (E : XK), Room k (A.deeper (envOfC qual (defScope st) s.heap.objs.size f cdv)) → WE (cxOf CX0 P w K mg base N qual (defScope st) f cdv A outer s H E).nox Ts 0 e F) :
    FnOk P w K mg base CX0 (k + 1) f fd ps (spW K Ts n (runW N.length F)) := by
  obtain ⟨oc, od, kV, doc, pm, an, ct, osl, rfl, lk, hcd⟩ := D.ex
  refine fn_of lk hcd S (fun vs H Q E h => h.1.trans hn.symm) fun A outer s H vs Q E hr hsp => ?_
  rw [hb]
  refine ⟨_, (pss_one (ps_ret (hbody A outer s H E hr))).nox, ?_⟩
  obtain ⟨hl, a, vs', O, ds, rw', ws, Qd, e1, e2, e3, e4, e5, e6, e7, e8, hF, kk⟩ := hsp
  have rp := wrep_start (N := N) hl (by omega) e1 e2 e3 e4 e6 e7 e8
  have hs : (L2.start N vs)[0]? = some (some (V.ref a)) := by rw [e1]; exact start_get rfl
  refine ⟨fun b => if b = a then none else H b, O, _, Qd, ⟨?_, rw', e5, ?_⟩, hF, fun d v H' hd r' q x => ?_⟩
  · simp
  · exact rp
  · obtain ⟨a', rw2, ws2, s1, s2, s3, s4, s5, s6⟩ := r'.at
    rw [hs] at s1
    cases s1
    exact kk d v H' rw2 ws2 hd s6 s4 s5 (x.2 a hs) r'.tabs' q
end
end DN
set_option Elab.async false
set_option linter.all false
set_option maxRecDepth 100000
set_option maxHeartbeats 4000000
namespace DN
open PySem PySem.Spec PyProof.Rows L2
/-! ### a body that writes the row itself -/
abbrev ZF := En → (En → Prop) → (PyData → En → Prop) → Prop
def tZ (K : PySem.W.Frag) (Ts : List Addr) (ρ : Nat) (F : ZF) : TS := fun D σ H => ∃ He O en N R a, Rep K Ts He O σ H en ∧ σ[ρ]? = some (some (V.ref a)) ∧ F en N R ∧
  (∀ en' σ' H', N en' → Rep K Ts He O σ' H' en' → σ'[ρ]? = some (some (V.ref a)) → XtB a H H' → D.nx σ' H') ∧
  (∀ d en' v σ' H', R d en' → Rep K Ts He O σ' H' en' → σ'[ρ]? = some (some (V.ref a)) → XtB a H H' → Dp K (hide H' O) v d → D.rt v H')
abbrev ZS (X : Cx) (Ts : List Addr) (ρ : Nat) (st : Stmt) (F : ZF) : Prop := PS X st (tZ X.K Ts ρ F)
abbrev ZSs (X : Cx) (Ts : List Addr) (ρ : Nat) (st : List Stmt) (F : ZF) : Prop := PSs X st (tZ X.K Ts ρ F)
def zNil : ZF := fun en N _ => N en
def zSeq (F G : ZF) : ZF := fun en N R => F en (fun e1 => G e1 N R) R
def zSet (i : Nat) (f : En → Option PyData) : ZF := fun en N _ => ∃ d e1, f en = some d ∧ bName i d en = some e1 ∧ N e1
def zRow (ρ c : Nat) (f : En → Option PyData) : ZF := fun en N _ => ∃ d ds, f en = some d ∧ en[ρ]? = some (Slot.own ds) ∧ c < ds.length ∧ N (en.set ρ (.own (ds.set c d)))
def zIf (t : En → Option Bool) (F G : ZF) : ZF := fun en N R => ∃ b, t en = some b ∧ if b = true then F en N R else G en N R
def zRet (f : En → Option PyData) : ZF := fun en _ R => ∃ d, f en = some d ∧ R d en
theorem XtB.refl {a : Addr} (H : Hp) : XtB a H H := .of (Xt.refl H)
theorem DpAll.set {K : PySem.W.Frag} {H : Hp} {v : V} {d : PyData} : ∀ {vs : List V} {ds : List PyData} (c : Nat), DpAll K H vs ds → Dp K H v d → DpAll K H (vs.set c v) (ds.set c d)
  | _, _, _, .nil, _ => .nil
  | _, _, 0, .cons _ b, q => .cons q b
  | _, _, n + 1, .cons a b, q => .cons a (DpAll.set n b q)
/-- the list of a slot gets other elements -/
theorem Rep.own_set {K : PySem.W.Frag} {Ts : List Addr} {He : Hp} {O : List Addr} {σ : St} {H : Hp} {en : En} {i : Nat} {a : Addr} {vs vs' : List V} {ds ds' : List PyData} (rp : Rep K Ts He O σ H en) (hd : en[i]? = some (Slot.own ds)) (p1 : σ[i]? = some (some (V.ref a))) (p2 : a ∈ O) (p3 : He a = none) (p4 : H a = some (.lst vs)) (q : DpAll K (hide H O) vs' ds') :
    Rep K Ts He O σ (upd H a (.lst vs')) (en.set i (.own ds')) := by
  have hi : i < en.length := (List.getElem?_eq_some_iff.mp hd).1
  have hu : Xt (hide H O) (hide (upd H a (.lst vs')) O) := hide_upd p2
  refine ⟨by simp [rp.len], fun j d' h => ?_, fun j es h => ?_, fun j kk es es' aa h1 h2 h3 h4 => ?_, fun b hb => ?_, fun b o e => ?_, rp.tabs.upd fun ps z => by rw [p4] at z; cases z⟩
  · have hj : i ≠ j := fun z => by subst z; rw [List.getElem?_set_self hi] at h; cases h
    rw [List.getElem?_set_ne hj] at h
    obtain ⟨u, q1, q2⟩ := rp.dat j d' h
    exact ⟨u, q1, Dp.mono hu q2⟩
  · by_cases hj : i = j
    · subst hj
      rw [List.getElem?_set_self hi] at h
      cases h
      exact ⟨a, vs', p1, p2, p3, upd_same, DpAll.mono hu q⟩
    · rw [List.getElem?_set_ne hj] at h
      obtain ⟨a', vs2, q1, q2, q3, q4, q5⟩ := rp.own j es h
      have hne : a' ≠ a := fun z => hj (by subst z; exact rp.inj i j ds es a' hd h p1 q1)
      exact ⟨a', vs2, q1, q2, q3, by rw [upd_ne hne]; exact q4, DpAll.mono hu q5⟩
  · have toOwn : ∀ (j : Nat) (es : List PyData), (en.set i (Slot.own ds'))[j]? = some (Slot.own es) → ∃ es', en[j]? = some (Slot.own es') := fun j es h => by
      by_cases hj : i = j
      · subst hj; exact ⟨ds, hd⟩
      · rw [List.getElem?_set_ne hj] at h; exact ⟨es, h⟩
    obtain ⟨e1, g1⟩ := toOwn j es h1
    obtain ⟨e2, g2⟩ := toOwn kk es' h2
    exact rp.inj j kk e1 e2 aa g1 g2 h3 h4
  · by_cases z : b = a
    · rw [z, upd_same]
      exact ⟨by simp, fun ps z => nomatch z⟩
    · rw [upd_ne z]
      exact rp.occ b hb
  · have hne : b ≠ a := fun z => by rw [z, p3] at e; cases e
    rw [upd_ne hne]
    exact rp.ext b o e
theorem ixN_at {n j : Nat} (hj : j < n) : ixN n (j : Int) = some j := by
  unfold ixN
  rw [if_pos (by omega), if_pos (by omega)]
  simp
section
variable {X : Cx} {Ts : List Addr} {ρ : Nat} {pos : Pos} {st : Stmt} {rest : List Stmt} {F G : ZF} {e : Expr} {f g : En → Option PyData}
theorem z_nil : ZSs X Ts ρ [] zNil := PSs.imp pss_nil fun D σ H ⟨He, O, en, N, R, a, rp, hs, hF, k, _⟩ => k en σ H hF rp hs (XtB.refl H)
theorem z_cons (h1 : ZS X Ts ρ st F) (h2 : ZSs X Ts ρ rest G) : ZSs X Ts ρ (st :: rest) (zSeq F G) := PSs.imp (pss_cons h1 h2) fun D σ H ⟨He, O, en, N, R, a, rp, hs, hF, k, l⟩ =>
  ⟨He, O, en, _, R, a, rp, hs, hF, fun e1 σ1 H1 hn r1 s1 x1 => ⟨He, O, e1, N, R, a, r1, s1, hn, fun e2 σ2 H2 hn2 r2 s2 x2 => k e2 σ2 H2 hn2 r2 s2 (x1.trans x2), fun d e2 v σ2 H2 hr r2 s2 x2 q => l d e2 v σ2 H2 hr r2 s2 (x1.trans x2) q⟩, l⟩
theorem z_one (h1 : ZS X Ts ρ st F) : ZSs X Ts ρ [st] F := pss_one h1
theorem z_set {i : Nat} {x : Str} {pos' : Pos} (hN : X.N.Nodup) (hi : X.N[i]? = some x) (hx : Loc X.env.scope x) (hρ : i ≠ ρ) (he : DE X Ts e f) (hs : swapsWith e (some (.Name x pos')) pos.line X.env = pure false := by rfl) (hf : X.fn x = true ∨ X.env.scope.names.lookup x = some .local := by first | exact .inl rfl | exact .inr rfl | assumption) :
    ZS X Ts ρ (.Assign [.Name x pos'] e pos) (zSet i f) := PS.imp (ps_set hN hi hx he hs hf) fun D σ H ⟨He, O, en, N, R, a, rp, hs, ⟨d, e1, h1, h2, hn⟩, k, _⟩ => by
  refine tD.of rp h1 fun v H1 x1 r1 q1 => ?_
  unfold bName at h2
  split at h2
  · rename_i hi'
    cases h2
    exact k _ _ H1 hn (r1.setD hi' q1) (by rw [List.getElem?_set_ne hρ]; exact hs) (.of x1)
  · cases h2
theorem z_row {c : Nat} {x : Str} {px ps pc : Pos} {kc : Nat} (hN : X.N[ρ]? = some x) (hv : Vis X.env.scope x) (he : DE X Ts e f) (hd : (x == ("__debug__" : Str)) = false := by decide) (hcd : (x == ("__classdict__" : Str)) = false := by decide)
    (hs : swapsWithSole [.Subscript (.Name x px) (.Constant (.int (c : Int)) kc pc) ps] e pos.line X.env = pure false := by rfl) (hw : swappedStores [.Subscript (.Name x px) (.Constant (.int (c : Int)) kc pc) ps] e X.env = pure none := by rfl) :
    ZS X Ts ρ (.Assign [.Subscript (.Name x px) (.Constant (.int (c : Int)) kc pc) ps] e pos) (zRow ρ c f) := PS.imp (ps_asg he (pg_sub (pe_var hN hv hd hcd) pe_int set_list) hs hw) fun D σ H ⟨He, O, en, N, R, a, rp, hs, ⟨d, ds, h1, h2, h3, hn⟩, k, _⟩ => by
  refine tD.of rp h1 fun v H1 x1 r1 q1 => ?_
  obtain ⟨a', vs, p1, p2, p3, p4, p5⟩ := r1.own ρ ds h2
  rw [hs] at p1
  cases p1
  have hl : c < vs.length := by rw [DpAll.len p5]; exact h3
  refine ⟨.ref a, hs, a, vs, c, c, rfl, rfl, p4, ixN_at hl, ?_⟩
  exact k _ _ _ hn (r1.own_set h2 hs p2 p3 p4 (DpAll.set c p5 q1)) hs ((XtB.of x1).trans fun b o hb e => .inl (by rw [upd_ne hb]; exact e))
theorem z_if {c : Expr} {a b : List Stmt} {t : En → Option Bool} (hc : DT X Ts c t) (ha : ZSs X Ts ρ a F) (hb : ZSs X Ts ρ b G) : ZS X Ts ρ (.If c a b pos) (zIf t F G) := PS.imp (ps_if hc ha hb) fun D σ H ⟨He, O, en, N, R, a, rp, hs, ⟨b, h1, h2⟩, k, l⟩ => by
  refine tT.of rp h1 fun H1 x1 r1 => ?_
  cases b with
  | true => exact iteT ⟨He, O, en, N, R, a, r1, hs, h2, fun e2 σ2 H2 hn2 r2 s2 x2 => k e2 σ2 H2 hn2 r2 s2 ((XtB.of x1).trans x2), fun d e2 v σ2 H2 hr r2 s2 x2 q => l d e2 v σ2 H2 hr r2 s2 ((XtB.of x1).trans x2) q⟩
  | false => exact iteF ⟨He, O, en, N, R, a, r1, hs, h2, fun e2 σ2 H2 hn2 r2 s2 x2 => k e2 σ2 H2 hn2 r2 s2 ((XtB.of x1).trans x2), fun d e2 v σ2 H2 hr r2 s2 x2 q => l d e2 v σ2 H2 hr r2 s2 ((XtB.of x1).trans x2) q⟩
theorem z_ret (he : DE X Ts e f) : ZS X Ts ρ (.Return (some e) pos) (zRet f) := PS.imp (ps_ret he) fun D σ H ⟨He, O, en, N, R, a, rp, hs, ⟨d, h1, hr⟩, k, l⟩ =>
  tD.of rp h1 fun v H1 x1 r1 q1 => l d en v σ H1 hr r1 hs (.of x1) q1
def cPow (i j : Int) : Bool := decide (0 ≤ j ∧ j ≤ 1000000 ∧ i.natAbs < 2 ^ 64)
def fPow := f2 (gIc cPow fun i j => .int (i ^ j.toNat))
theorem d_pow {a b : Expr} (ha : DE X Ts a f) (hb : DE X Ts b g) : DE X Ts (.BinOp a .Pow b pos) (fPow f g) := d_i (fun i j h => show CPow i j from @of_decide_eq_true (0 ≤ j ∧ j ≤ 1000000 ∧ i.natAbs < 2 ^ 64) _ h) (fun _ _ _ _ => .int _) (pe_op op_pow ha hb)
end
section
variable {P : Program} {w : World} {K : PySem.W.Frag} {mg : Str → Option Value} {base : Heap} {Ts : List Addr}
def runZ (n : Nat) (F : ZF) : List PyData → (PyData → Prop) → Prop := fun ds Q => ∀ rw, RowOk rw → F (Slot.own rw :: (ds.map Slot.dat ++ List.replicate (n - 1 - ds.length) Slot.no)) (fun _ => False) fun d en' => (∃ rw', RowOk rw' ∧ en'[0]? = some (Slot.own rw')) ∧ Q d
theorem DF.okZ {x qual : Str} {st : Stmt} {f : Addr} {fd : FuncData} {cdv : Value} {N ps : List Str} {k n : Nat} {F : ZF} (D : DF K x qual st f fd cdv) (S : FnScope N ps (defScope st)) (hn : ps.length = n + 1) (hN : n + 1 ≤ N.length)
    (hbody : ∀ (A : Around) (outer : List Env) (s : Shared) (H : Hp) (E : XK), Room k (A.deeper (envOfC qual (defScope st) s.heap.objs.size f cdv)) → ZSs (cxOf CX0 P w K mg base N qual (defScope st) f cdv A outer s H E).nox Ts 0 (defBody st) F) :
    FnOk P w K mg base CX0 (k + 1) f fd ps (spW K Ts n (runZ N.length F)) := by
  obtain ⟨oc, od, kV, doc, pm, an, ct, osl, rfl, lk, hcd⟩ := D.ex
  refine fn_of lk hcd S (fun vs H Q E h => h.1.trans hn.symm) fun A outer s H vs Q E hr hsp => ?_
  refine ⟨_, (hbody A outer s H E hr).nox, ?_⟩
  obtain ⟨hl, a, vs', O, ds, rw', ws, Qd, e1, e2, e3, e4, e5, e6, e7, e8, hF, kk⟩ := hsp
  have rp := wrep_start (N := N) hl (by omega) e1 e2 e3 e4 e6 e7 e8
  have hs : (L2.start N vs)[0]? = some (some (V.ref a)) := by rw [e1]; exact start_get rfl
  refine ⟨fun b => if b = a then none else H b, O, _, _, _, a, rp, hs, hF rw' e5, fun _ _ _ h => h.elim, fun d en' v σ' H' ⟨⟨rw2, h1, h2⟩, h3⟩ r' s' x' q => ?_⟩
  obtain ⟨a', ws2, s1, s2, s3, s4, s5⟩ := r'.own 0 rw2 h2
  rw [s'] at s1
  cases s1
  exact kk d v H' rw2 ws2 h3 h1 s4 s5 x' r'.tabs q
end
end DN
set_option Elab.async false
set_option linter.all false
set_option maxRecDepth 100000
set_option maxHeartbeats 4000000
namespace DN
open PySem PySem.Spec PyProof.Rows L2
/-! ### values of expressions; the laws' draws -/
abbrev rw_ (k : Int) : En → Option PyData := fIx (fOwn 0) (fLit (.int k))
abbrev li (k : Int) : En → Option PyData := fLit (.int k)
def F_taken : ZF := zSeq (zIf (fT (fGt (rw_ 3) (li 0))) (zSeq (zSet 2 (fMod (fInt (rw_ 3)) (fVar 1))) (zSeq (zRow 0 3 (fDiv (rw_ 3) (fVar 1))) (zRet (fVar 2)))) zNil)
  (zSeq (zRow 0 1 (fPlus (rw_ 1) (li 1)))
  (zSeq (zIf (fT (fGt (rw_ 1) (fLen (rw_ 0)))) (zSeq (zRow 0 2 (fMod (fInt (fPlus (fMul (rw_ 2) (li 48271)) (li 11))) (li 2147483647))) (zRet (fMod (fInt (fDiv (rw_ 2) (li 7))) (fVar 1)))) zNil)
  (zSeq (zSet 3 (fIx (rw_ 0) (fSub (rw_ 1) (li 1))))
  (zSeq (zRow 0 2 (fMod (fInt (fPlus (fPlus (fMul (rw_ 2) (li 48271)) (fVar 3)) (li 11))) (li 2147483647)))
  (zSeq (zIf (fT (fGe (fVar 3) (fPow (li 10) (li 18)))) (zRow 0 3 (fDiv (fVar 3) (fVar 1))) zNil)
  (zRet (fMod (fInt (fVar 3)) (fVar 1))))))))
def cTaken : List PyData → (PyData → Prop) → Prop := fun ds Q => ∃ m : Int, ds = [.int m] ∧ 0 < m ∧ m ≤ 1000000 ∧ ∀ r, 0 ≤ r → r < m → Q (.int r)
theorem rowOk {ns : List Int} {i m c : Int} (h1 : ns.length ≤ 63) (h2 : 0 ≤ i) (h3 : 0 ≤ m) (h4 : m < 2147483647) (h5 : 0 ≤ c) : RowOk [.list (ns.map .int), .int i, .int m, .int c] := ⟨ns, i, m, c, rfl, h1, h2, h3, h4, h5⟩
theorem modA {f g : En → Option PyData} {en : En} {a b : Int} (h1 : f en = some (.int a)) (h2 : g en = some (.int b)) (hb : 0 < b) : fMod f g en = some (.int (a % b)) := by
  unfold fMod f2
  rw [h1, h2]
  show (if cMod a b = true then _ else _) = _
  rw [if_pos (by unfold cMod; exact decide_eq_true (by omega))]
  show some (PyData.int (a.fmod b)) = _
  rw [Int.fmod_eq_emod_of_nonneg _ (by omega)]
theorem divA {f g : En → Option PyData} {en : En} {a b : Int} (h1 : f en = some (.int a)) (h2 : g en = some (.int b)) (hb : 0 < b) (hl : b.natAbs.log2 < 9000) : fDiv f g en = some (.int (a / b)) := by
  unfold fDiv f2
  rw [h1, h2]
  show (if cDiv a b = true then _ else _) = _
  rw [if_pos (by unfold cDiv; exact decide_eq_true ⟨hb, hl⟩)]
theorem mulA {f g : En → Option PyData} {en : En} {a b : Int} (h1 : f en = some (.int a)) (h2 : g en = some (.int b)) (hl : a.natAbs.log2 + b.natAbs.log2 < 1000000) : fMul f g en = some (.int (a * b)) := by
  unfold fMul f2
  rw [h1, h2]
  show (if cMul a b = true then _ else _) = _
  rw [if_pos (by unfold cMul; exact decide_eq_true hl)]
theorem intA {f : En → Option PyData} {en : En} {a : Int} (h1 : f en = some (.int a)) : fInt f en = some (.int a) := by
  unfold fInt f1
  rw [h1]
  rfl
theorem plusA {f g : En → Option PyData} {en : En} {a b : Int} (h1 : f en = some (.int a)) (h2 : g en = some (.int b)) : fPlus f g en = some (.int (a + b)) := by
  unfold fPlus f2
  rw [h1, h2]
  rfl
theorem subA {f g : En → Option PyData} {en : En} {a b : Int} (h1 : f en = some (.int a)) (h2 : g en = some (.int b)) : fSub f g en = some (.int (a - b)) := by
  unfold fSub f2
  rw [h1, h2]
  rfl
theorem log2_le {a : Int} {k : Nat} (h : a.natAbs < 2 ^ k) (hk : 0 < k) : a.natAbs.log2 < k := by
  by_cases h0 : a.natAbs = 0
  · rw [h0]; simpa using hk
  · exact (Nat.log2_lt h0).mpr h
theorem taken_ok : ∀ ds Q, cTaken ds Q → runZ 4 F_taken ds Q := by
  rintro ds Q ⟨m, rfl, h0, h1, hq⟩ rw ⟨ns, i, mm, c, rfl, hn, hi, hm0, hm1, hc⟩
  have lm : m.natAbs.log2 < 9000 := Nat.lt_of_lt_of_le (log2_le (k := 20) (by omega) (by decide)) (by decide)
  refine ⟨decide (0 < c), rfl, ?_⟩
  by_cases hcp : 0 < c
  · rw [if_pos (by simpa using hcp)]
    refine ⟨_, _, modA (intA (a := c) rfl) (b := m) rfl h0, rfl, ?_⟩
    refine ⟨_, _, divA (a := c) rfl (b := m) rfl h0 lm, rfl, by simp, ?_⟩
    exact ⟨_, rfl, ⟨_, rowOk hn hi hm0 hm1 (Int.ediv_nonneg hc (by omega)), rfl⟩, hq _ (Int.emod_nonneg _ (by omega)) (Int.emod_lt_of_pos _ h0)⟩
  · rw [if_neg (by simpa using hcp)]
    refine ⟨_, _, rfl, rfl, by simp, ?_⟩
    refine ⟨decide ((ns.map PyData.int).length < i + 1), rfl, ?_⟩
    have lmm : mm.natAbs.log2 + (48271 : Int).natAbs.log2 < 1000000 := by
      have := log2_le (a := mm) (k := 31) (by omega) (by decide)
      have h2 : (48271 : Int).natAbs.log2 = 15 := by decide
      omega
    by_cases hl : ((ns.map PyData.int).length : Int) < i + 1
    · rw [if_pos (by simpa using hl)]
      refine ⟨_, _, modA (intA (plusA (mulA (a := mm) rfl (b := 48271) rfl lmm) (b := 11) rfl)) (b := 2147483647) rfl (by decide), rfl, by simp, ?_⟩
      refine ⟨_, modA (intA (divA rfl (b := 7) rfl (by decide) (by decide))) (b := m) rfl h0, ⟨_, rowOk hn (i := i + 1) (by omega) (Int.emod_nonneg _ (by decide)) (Int.emod_lt_of_pos _ (by decide)) hc, rfl⟩, hq _ (Int.emod_nonneg _ (by omega)) (Int.emod_lt_of_pos _ h0)⟩
    · rw [if_neg (by simpa using hl)]
      rw [List.length_map] at hl
      have hi2 : i.toNat < ns.length := by omega
      have hcell : fIx (rw_ 0) (fSub (rw_ 1) (li 1)) [Slot.own [.list (ns.map .int), .int (i + 1), .int mm, .int c], Slot.dat (.int m), Slot.no, Slot.no] = some (.int ns[i.toNat]) := by
        show ((fIx (rw_ 0) (fSub (rw_ 1) (li 1))) _) = _
        unfold fIx f2
        rw [subA (a := i + 1) (f := rw_ 1) rfl (b := 1) rfl]
        show (some (PyData.list (ns.map .int))).bind _ = _
        show atI (ns.map PyData.int) (i + 1 - 1) = _
        have e1 : i + 1 - 1 = (i.toNat : Int) := by omega
        rw [e1]
        unfold atI
        rw [ixN_at (by rw [List.length_map]; exact hi2)]
        show (ns.map PyData.int)[i.toNat]? = _
        rw [List.getElem?_map, List.getElem?_eq_getElem hi2]
        rfl
      refine ⟨_, _, hcell, rfl, ?_⟩
      refine ⟨_, _, modA (intA (plusA (plusA (mulA (a := mm) rfl (b := 48271) rfl lmm) (b := ns[i.toNat]) rfl) (b := 11) rfl)) (b := 2147483647) rfl (by decide), rfl, by simp, ?_⟩
      refine ⟨decide ((10 : Int) ^ 18 ≤ ns[i.toNat]), rfl, ?_⟩
      have hm2 : 0 ≤ (mm * 48271 + ns[i.toNat] + 11) % 2147483647 := Int.emod_nonneg _ (by decide)
      have hm3 : (mm * 48271 + ns[i.toNat] + 11) % 2147483647 < 2147483647 := Int.emod_lt_of_pos _ (by decide)
      by_cases hg : (10 : Int) ^ 18 ≤ ns[i.toNat]
      · rw [if_pos (by simpa using hg)]
        refine ⟨_, _, divA (a := ns[i.toNat]) rfl (b := m) rfl h0 lm, rfl, by simp, ?_⟩
        refine ⟨_, modA (intA (a := ns[i.toNat]) rfl) (b := m) rfl h0, ⟨_, rowOk hn (i := i + 1) (by omega) hm2 hm3 (Int.ediv_nonneg (by omega) (by omega)), rfl⟩, hq _ (Int.emod_nonneg _ (by omega)) (Int.emod_lt_of_pos _ h0)⟩
      · rw [if_neg (by simpa using hg)]
        refine ⟨_, modA (intA (a := ns[i.toNat]) rfl) (b := m) rfl h0, ⟨_, rowOk hn (i := i + 1) (by omega) hm2 hm3 hc, rfl⟩, hq _ (Int.emod_nonneg _ (by omega)) (Int.emod_lt_of_pos _ h0)⟩

/-! pick, flow, demands -/
section
variable {X : Cx} {Ts : List Addr} {ρ : Nat} {pos : Pos} {e e2 : Expr} {F G : WF}
theorem op2_ix : Op2 X.K Ts (rIx X.K) gIx := fun x y v w d H O Q hg q1 q2 ht occ kk => by
  unfold gIx at hg
  cases q2 <;> try cases hg
  rename_i i
  obtain ⟨ds, h4, h5⟩ := Option.bind_eq_some_iff.mp hg
  cases x <;> simp only [items] at h4 <;> cases h4
  · cases q1 with
    | lst s a =>
      obtain ⟨u, h6, h7⟩ := atI_dp a h5
      exact .inl ⟨_, _, i, u, rfl, rfl, sqL_mono (fun o n e => (hide_some e).2) s, h6, kk u H (Xt.refl H) ht h7⟩
  · cases q1 with
    | tup s a =>
      obtain ⟨u, h6, h7⟩ := atI_dp a h5
      exact .inr (.inl ⟨_, _, i, u, rfl, rfl, sqT_mono (fun o n e => (hide_some e).2) s, h6, kk u H (Xt.refl H) ht h7⟩)
theorem we_ix (ha : WE X Ts ρ e F) (hb : WE X Ts ρ e2 G) (hs : PlainIx e2 := by exact fun _ _ => rfl) : WE X Ts ρ (.Subscript e e2 pos) (w2 gIx F G) := PE.imp (pe_ix ix_seq ha hb hs) (ww_2 op2_ix)
end
def F_pick (c : List PyData → (PyData → Prop) → Prop) : WF := w2 gIx (wP 0 (fVar 1)) (wDraw 1 c (wCons (wP 0 (fLen (fVar 1))) wNil))
def cPick : List PyData → (PyData → Prop) → Prop := fun ds Q => ∃ es, ds = [.list es] ∧ 0 < es.length ∧ es.length ≤ 64 ∧ ∀ d ∈ es, Q d
theorem pick_ok : ∀ ds Q, cPick ds Q → runW 2 (F_pick cTaken) ds Q := by
  rintro ds Q ⟨es, rfl, h0, h1, hq⟩
  refine ⟨.list es, fun rw => rfl, ?_⟩
  refine ⟨.int es.length, fun rw => rfl, rfl, (es.length : Int), rfl, by omega, by omega, fun r hr0 hr1 => ?_⟩
  obtain ⟨k, rfl⟩ : ∃ k : Nat, r = (k : Int) := ⟨r.toNat, by omega⟩
  have hi : k < es.length := by omega
  refine ⟨es[k], ?_, hq _ (List.getElem_mem hi)⟩
  show atI es k = _
  unfold atI
  rw [ixN_at hi]
  exact List.getElem?_eq_getElem hi
def wInt (i : Int) : WF := wP 0 (fLit (.int i))
def F_flow (ct cp : List PyData → (PyData → Prop) → Prop) : WF := wDraw 1 cp (wCons (wLst (wCons (wInt 0) (wCons (wInt 1) (wCons (wInt 5) (wCons (wInt 10) (wCons (wDraw 1 ct (wCons (wInt 30) wNil)) (wCons (wDraw 1 cp (wCons (wLst (wCons (wInt 100) (wCons (wInt 1000) wNil))) wNil)) wNil))))))) wNil)
def cFlow : List PyData → (PyData → Prop) → Prop := fun ds Q => ds = [] ∧ ∀ n : Int, 0 ≤ n → n ≤ 1000 → Q (.int n)
theorem flow_ok : ∀ ds Q, cFlow ds Q → runW 1 (F_flow cTaken cPick) ds Q := by
  rintro ds Q ⟨rfl, hq⟩
  refine ⟨.int 0, fun _ => rfl, .int 1, fun _ => rfl, .int 5, fun _ => rfl, .int 10, fun _ => rfl, .int 30, fun _ => rfl, rfl, 30, rfl, by decide, by decide, fun r h0 h1 => ?_⟩
  refine ⟨.int 100, fun _ => rfl, .int 1000, fun _ => rfl, by decide, rfl, [.int 100, .int 1000], rfl, by decide, by decide, fun d hd => ?_⟩
  refine ⟨by simp, rfl, [.int 0, .int 1, .int 5, .int 10, .int r, d], rfl, by simp, by simp, fun d2 hd2 => ?_⟩
  simp only [List.mem_cons, List.not_mem_nil, or_false] at hd hd2
  rcases hd2 with rfl | rfl | rfl | rfl | rfl | rfl
  · exact hq _ (by omega) (by omega)
  · exact hq _ (by omega) (by omega)
  · exact hq _ (by omega) (by omega)
  · exact hq _ (by omega) (by omega)
  · exact hq _ (by omega) (by omega)
  · rcases hd with rfl | rfl <;> exact hq _ (by omega) (by omega)
def F_demands (cf : List PyData → (PyData → Prop) → Prop) : WF := w1 gTuple (wLc (wRange1 (wP 0 (fVar 1))) (bName 2) wYes (wDraw 0 cf wNil) [2])
/-- flows -/
def Flows (ns : List Int) : Prop := ∀ n ∈ ns, 0 ≤ n ∧ n ≤ 1000
def cDemands : List PyData → (PyData → Prop) → Prop := fun ds Q => ∃ m : Nat, ds = [.int m] ∧ m ≤ 64 ∧ ∀ ns : List Int, ns.length = m → Flows ns → Q (.tuple (ns.map .int))
theorem flows_go {en : En} {d : PyData} (hb : ∀ d : PyData, ∃ e1, bName 2 d en = some e1) : ∀ (ds : List PyData) (Q : List PyData → Prop), (∀ ns : List Int, ns.length = ds.length → Flows ns → Q (ns.map .int)) → wlcGo (bName 2) wYes (wDraw 0 cFlow wNil) en ds Q
  | [], Q, h => h [] rfl (fun _ h => nomatch h)
  | d :: r, Q, h => by
    obtain ⟨e1, he⟩ := hb d
    refine ⟨e1, he, ?_⟩
    show wDraw 0 cFlow wNil e1 _
    refine ⟨rfl, rfl, fun n h0 h1 => flows_go (d := d) hb r _ fun ns hl hf => ?_⟩
    exact h (n :: ns) (by simp [hl]) (fun x hx => (List.mem_cons.mp hx).elim (fun z => z ▸ ⟨h0, h1⟩) (hf x))
theorem demands_ok : ∀ ds Q, cDemands ds Q → runW 3 (F_demands cFlow) ds Q := by
  rintro ds Q ⟨m, rfl, hm, hq⟩
  refine ⟨fun j hj es => ?_, .int m, fun rw => rfl, (m : Int), rfl, by omega, by omega, ?_, ?_⟩
  · simp only [List.mem_cons, List.not_mem_nil, or_false] at hj
    subst hj
    simp
  · simp [rangeD]
    omega
  · refine flows_go (d := .none) (fun d => ⟨_, rfl⟩) _ _ fun ns hl hf => ⟨_, rfl, hq ns ?_ hf⟩
    rw [hl]
    simp [rangeD]
end DN
set_option Elab.async false
set_option linter.all false
set_option maxRecDepth 100000
set_option maxHeartbeats 4000000
namespace DN
open PySem PySem.Spec PyProof.Rows L2
/-! ### tuple * int, from one on -/
theorem tup_once (l : Addr) (items : Array Value) (n : Nat) (dd : Option Addr) (sl : Array (Option Value)) (x : Int) (u : Tok) (c0 : (decide (x < -(2 ^ 63)) || decide (x ≥ 2 ^ 63)) = false) (c1 : (items.isEmpty || x == 1) = true) :
    Meets (Builtin.«tuple.__mul__» ⟨[.ref l, .int x u], []⟩) (fun _ R s => s.heap.get? l = some { cls := .type "tuple", dict := dd, data := .seq items n, slots := sl } ∧ R (.ok (.ret (Value.ref l))) s) :=
  .of_wp fun prog w A R s h => by
    obtain ⟨hp, g, d, tk, os⟩ := s
    obtain ⟨hl, h⟩ := h
    have f1 := AutoSeq1.idx_int
    wp_walk using wpAny_loadPart' hl
    repeat (first
      | (refine wpAny_ite_false (decide_eq_false (by rw [c0]; exact Bool.false_ne_true)) ?_; wp_walk using wpAny_loadPart' hl)
      | (refine wpAny_ite_true (decide_eq_true (by rw [c1])) ?_; wp_walk using wpAny_loadPart' hl))
    all_goals first | exact ⟨_, rfl, h⟩ | trace_state
def rRepO (K : PySem.W.Frag) : R2 := fun x y H Q => ∃ l xs, x = .ref l ∧ y = .int 1 ∧ SqT K H l xs ∧ Q (.ref l) H
section
variable {X : Cx}
theorem op_repO : OpR X (binaryOp .Mult) (rRepO X.K) := by
  intro pins s σ H x y v u Q I rx ry h
  obtain ⟨l, xs, rfl, rfl, hT, q⟩ := h
  cases rx
  obtain ⟨t, rfl⟩ := ry
  obtain ⟨its, r, ⟨⟨cls, dd, data, sl⟩, ho, hc, n, hd⟩, hs⟩ := I.tuple hT
  simp only at hc hd
  subst hc hd
  refine wpAny_binaryOp_repeat_ref (T := "tuple") (U := "int") (by decide) ⟨_, ho, rfl⟩ (fun s' => typeIs_int s' 1 t) noFill_tuple_mul F.fills_int_mul F.slot_int_rmul repeat_tuple F.slot_int_index.lookup
    (call_meets F.slot_int_rmul (typeIs_int s 1 t) F.entry_int_rmul (F.args_int_rmul_2 _ _) (int_rmul_tuple 1 t l its.toArray n dd sl)
      ⟨ho, rfl, ⟨_, ho, rfl⟩, call_meets F.slot_tuple_mul ⟨_, ho, rfl⟩ F.entry_tuple_mul (F.args_tuple_mul_2 _ _) (tup_once l its.toArray n dd sl 1 t (by decide) (by simp)) ⟨ho, ?_⟩⟩)
  exact ⟨.ref l, H, I, rfl, q⟩
end
def gRep : PyData → PyData → Option PyData
  | .tuple ds, .int k => if ds ≠ [] ∧ 1 ≤ k ∧ k ≤ 1000 ∧ ds.length ≤ 1000 then some (.tuple (List.replicate k.toNat ds).flatten) else none
  | _, _ => none
def fRep := f2 gRep
theorem DpAll.rep {K : PySem.W.Frag} {H : Hp} {vs : List V} {ds : List PyData} (h : DpAll K H vs ds) : ∀ n : Nat, DpAll K H (List.replicate n vs).flatten (List.replicate n ds).flatten
  | 0 => .nil
  | n + 1 => DpAll.app h (DpAll.rep h n)
section
variable {X : Cx} {Ts : List Addr} {pos p : Pos} {a b e : Expr} {fa fb : En → Option PyData}
theorem d_rep (ha : DE X Ts a fa) (hb : DE X Ts b fb) : DE X Ts (.BinOp a .Mult b pos) (fRep fa fb) :=
  PE.imp (pe_op (op_repT.or op_repO) ha hb) (w_2 fun x y v w d H O Q hg q1 q2 ht occ kk => by
    cases x <;> cases y <;> simp only [gRep] at hg <;> try cases hg
    rename_i ds k
    split at hg
    · rename_i hc
      obtain ⟨c1, c2, c3, c4⟩ := hc
      cases hg
      cases q2
      cases q1 with
      | tup s q =>
        have hl := DpAll.len q
        by_cases hk : k = 1
        · subst hk
          refine .inr ⟨_, _, rfl, rfl, sqT_mono (fun o n e => (hide_some e).2) s, kk _ H (Xt.refl H) ht ?_⟩
          have e1 : (List.replicate (1 : Int).toNat ds).flatten = ds := by simp
          rw [e1]
          exact .tup s q
        · refine .inl ⟨_, _, _, rfl, rfl, sqT_mono (fun o n e => (hide_some e).2) s, fun z => c1 (by subst z; cases q; rfl), by omega, c3, by omega, fun p np => kk _ _ (Xt.upd np) (ht.new np) (tup_new np (fun z => occ p z np) (DpAll.rep q _))⟩
    · cases hg)
/-! *: of ints, of a tuple and an int -/
def gTimes : PyData → PyData → Option PyData
  | .int i, .int j => if cMul i j = true then some (.int (i * j)) else none
  | .tuple ds, .int k => gRep (.tuple ds) (.int k)
  | _, _ => none
def fTimes := f2 gTimes
theorem d_times (ha : DE X Ts a fa) (hb : DE X Ts b fb) : DE X Ts (.BinOp a .Mult b pos) (fTimes fa fb) :=
  PE.imp (pe_op (op_mulW.or (op_repT.or op_repO)) ha hb) (w_2 fun x y v w d H O Q hg q1 q2 ht occ kk => by
    cases x <;> cases y <;> simp only [gTimes, gRep] at hg <;> try cases hg
    · rename_i i j
      split at hg
      · rename_i hc
        cases hg
        cases q1
        cases q2
        exact .inl ⟨_, _, rfl, rfl, show CMulW i j from @of_decide_eq_true (i.natAbs.log2 + j.natAbs.log2 < 1000000) _ hc, kk _ H (Xt.refl H) ht (.int _)⟩
      · cases hg
    · rename_i ds k
      split at hg
      · rename_i hc
        obtain ⟨c1, c2, c3, c4⟩ := hc
        cases hg
        cases q2
        cases q1 with
        | tup s q =>
          have hl := DpAll.len q
          by_cases hk : k = 1
          · subst hk
            refine .inr (.inr ⟨_, _, rfl, rfl, sqT_mono (fun o n e => (hide_some e).2) s, kk _ H (Xt.refl H) ht ?_⟩)
            have e1 : (List.replicate (1 : Int).toNat ds).flatten = ds := by simp
            rw [e1]
            exact .tup s q
          · refine .inr (.inl ⟨_, _, _, rfl, rfl, sqT_mono (fun o n e => (hide_some e).2) s, fun z => c1 (by subst z; cases q; rfl), by omega, c3, by omega, fun p np => kk _ _ (Xt.upd np) (ht.new np) (tup_new np (fun z => occ p z np) (DpAll.rep q _))⟩)
      · cases hg)
/-! is, is not a bool -/
def gIsB : PyData → PyData → Option PyData
  | .bool a, .bool b => some (.bool (decide (a = b)))
  | _, _ => none
def gNotB : PyData → PyData → Option PyData
  | .bool a, .bool b => some (.bool (!decide (a = b)))
  | _, _ => none
def fIsB := f2 gIsB
def fNotB := f2 gNotB
theorem w_isB {K : PySem.W.Frag} : ∀ σ H Q, tD K Ts (fIsB fa fb) σ H Q → tOp rIsB (tD K Ts fa) (tD K Ts fb) σ H Q :=
  w_2 fun x y v w d H O Q hg q1 q2 ht _ kk => by
    cases x <;> cases y <;> simp only [gIsB] at hg <;> try cases hg
    cases q1
    cases q2
    exact ⟨_, _, rfl, rfl, kk _ H (Xt.refl H) ht (.bl _)⟩
theorem w_notB {K : PySem.W.Frag} : ∀ σ H Q, tD K Ts (fNotB fa fb) σ H Q → tOp rNotB (tD K Ts fa) (tD K Ts fb) σ H Q :=
  w_2 fun x y v w d H O Q hg q1 q2 ht _ kk => by
    cases x <;> cases y <;> simp only [gNotB] at hg <;> try cases hg
    cases q1
    cases q2
    exact ⟨_, _, rfl, rfl, kk _ H (Xt.refl H) ht (.bl _)⟩
theorem d_isB (ha : DE X Ts a fa) (hb : DE X Ts b fb) : DE X Ts (.Compare a [.Is] [b] pos) (fIsB fa fb) := PE.imp (pe_cmpR op_isBl ha hb (nomark _)) w_isB
theorem d_notB (ha : DE X Ts a fa) (hb : DE X Ts b fb) : DE X Ts (.Compare a [.IsNot] [b] pos) (fNotB fa fb) := PE.imp (pe_cmpR op_notBl ha hb (nomark _)) w_notB
theorem dt_isB (ha : DE X Ts a fa) (hb : DE X Ts b fb) : DT X Ts (.Compare a [.Is] [b] pos) (fT (fIsB fa fb)) := dt_of (pt_cmpR op_isBl ha hb (nomark _)) w_isB
theorem dt_notB (ha : DE X Ts a fa) (hb : DE X Ts b fb) : DT X Ts (.Compare a [.IsNot] [b] pos) (fT (fNotB fa fb)) := dt_of (pt_cmpR op_notBl ha hb (nomark _)) w_notB
/-! a, b, c = x, y, z -/
def sPar3 (i j l : Nat) (f g h : En → Option PyData) : En → Option Fl := fun en => (f en).bind fun x => (g en).bind fun y => (h en).bind fun z => (bName i x en).bind fun e1 => (bName j y e1).bind fun e2 => (bName l z e2).map .nx
theorem bName_set {i : Nat} {d : PyData} {en e1 : En} (h : bName i d en = some e1) : i < en.length ∧ e1 = en.set i (.dat d) := by
  unfold bName at h
  split at h
  · cases h; exact ⟨by assumption, rfl⟩
  · cases h
theorem s_par3 {i j l : Nat} {x y z : Str} {c : Expr} {px py pz pt : Pos} {kt k2 pt2} {f g h : En → Option PyData} (hc : X.calm = true) (hN : X.N.Nodup) (hi : X.N[i]? = some x) (hj : X.N[j]? = some y) (hl : X.N[l]? = some z) (hij : i ≠ j) (hil : i ≠ l) (hjl : j ≠ l)
    (hx : X.env.scope.names.lookup x = some .local) (hy : X.env.scope.names.lookup y = some .local) (hz : X.env.scope.names.lookup z = some .local) (ha : DE X Ts a f) (hb : DE X Ts b g) (hcc : DE X Ts c h) (hw : swappedStores [.Tuple [.Name x px, .Name y py, .Name z pz] kt pt] (.Tuple [a, b, c] k2 pt2) X.env = pure (some [x, y, z]))
    (hs1 : starEach [a, b, c] X.env = (false, eval a X.env) :: starEach [b, c] X.env := by rfl) (hs2 : starEach [b, c] X.env = (false, eval b X.env) :: starEach [c] X.env := by rfl) (hs3 : starEach [c] X.env = (false, eval c X.env) :: starEach [] X.env := by rfl)
    (hs : swapsWithSole [.Tuple [.Name x px, .Name y py, .Name z pz] kt pt] (.Tuple [a, b, c] k2 pt2) pos.line X.env = pure false := by rfl) : DS X Ts (.Assign [.Tuple [.Name x px, .Name y py, .Name z pz] kt pt] (.Tuple [a, b, c] k2 pt2) pos) (sPar3 i j l f g h) :=
  PS.imp (ps_par3 hc hN hi hj hl hij hil hjl hx hy hz (pa_cons ha (pa_cons hb (pa_cons hcc pa_nil hs3) hs2) hs1) hw hs) fun D σ H ⟨He, O₀, Vz, en, r, rp, hf, k⟩ => by
    unfold sPar3 at hf
    obtain ⟨d1, h1, hf1⟩ := Option.bind_eq_some_iff.mp hf
    obtain ⟨d2, h2, hf2⟩ := Option.bind_eq_some_iff.mp hf1
    obtain ⟨d3, h3, hf3⟩ := Option.bind_eq_some_iff.mp hf2
    obtain ⟨e1, h4, hf4⟩ := Option.bind_eq_some_iff.mp hf3
    obtain ⟨e2, h5, hf5⟩ := Option.bind_eq_some_iff.mp hf4
    obtain ⟨e3, h6, rfl⟩ := Option.map_eq_some_iff.mp hf5
    obtain ⟨O, a1, a2, rp, xv⟩ := rp
    refine tD.of rp h1 fun v H1 x1 r1 q1 => tD.of r1 h2 fun w H2 x2 r2 q2 => tD.of r2 h3 fun u H3 x3 r3 q3 => ⟨v, w, u, rfl, k _ H3 ?_⟩
    obtain ⟨b1, rfl⟩ := bName_set h4
    obtain ⟨b2, rfl⟩ := bName_set h5
    obtain ⟨b3, rfl⟩ := bName_set h6
    exact ⟨O, a1, a2, ((r3.setD b1 (Dp.mono (hide_mono (x2.trans x3)) q1)).setD b2 (Dp.mono (hide_mono x3) q2)).setD b3 q3, xv.trans (hide_mono ((x1.trans x2).trans x3))⟩
/-! isinstance(x, (A, B)) -/
theorem d_isi2 {T U : String} {x y : Str} {q q' : PyData → Bool} {f : En → Option PyData} {px py pt : Pos} {kt : Nat} (hq : ∀ d, kitB (pyTy d) T = some (q d)) (hq' : ∀ d, kitB (pyTy d) U = some (q' d)) (hg : Gl X "isinstance") (hm : X.mg "isinstance" = none) (hv : bootBuiltins "isinstance" = some (.builtin "isinstance"))
    (hgT : Gl X x) (hmT : X.mg x = none) (hvT : bootBuiltins x = some (.type T)) (hgU : Gl X y) (hmU : X.mg y = none) (hvU : bootBuiltins y = some (.type U)) (ha : DE X Ts e f) (hnT : x ≠ "__name__" := by decide) (hdT : (x == ("__debug__" : Str)) = false := by decide) (hnU : y ≠ "__name__" := by decide) (hdU : (y == ("__debug__" : Str)) = false := by decide)
    (he : starEach [e, .Tuple [.Name x px, .Name y py] kt pt] X.env = (false, eval e X.env) :: starEach [.Tuple [.Name x px, .Name y py] kt pt] X.env := by rfl) (he2 : starEach [.Tuple [.Name x px, .Name y py] kt pt] X.env = (false, eval (.Tuple [.Name x px, .Name y py] kt pt) X.env) :: starEach [] X.env := by rfl)
    (ht1 : starEach [.Name x px, .Name y py] X.env = (false, eval (.Name x px) X.env) :: starEach [.Name y py] X.env := by rfl) (ht2 : starEach [.Name y py] X.env = (false, eval (.Name y py) X.env) :: starEach [] X.env := by rfl) (hpl : (backTo pos (starEach [.Tuple [.Name x px, .Name y py] kt pt] X.env)).any (·.1) = false := by rfl) :
    DE X Ts (.Call (.Name "isinstance" p) [e, .Tuple [.Name x px, .Name y py] kt pt] [] pos) (fIsi (fun d => q d || q' d) f) :=
  PE.imp (pe_callB (t := tCons (tD X.K Ts f) (tCons (tTup (tCons (tC (.ty T)) (tCons (tC (.ty U)) tNil))) tNil)) call_isiT hg hm hv (pa_cons ha (pa_cons (pe_tup (pa_cons (pe_bltn (v := .ty T) hgT hmT hvT rfl hnT hdT) (pa_cons (pe_bltn (v := .ty U) hgU hmU hvU rfl hnU hdU) pa_nil ht2) ht1)) pa_nil he2) he) (by decide) (by decide) he hpl) fun σ H Q ⟨He, O, en, d, rp, hf, kk⟩ => by
    obtain ⟨z, h1, h2⟩ := f1_some hf
    cases h2
    refine tD.of rp h1 fun v H1 x1 r1 q1 => ⟨small64 (by simp), fun tp np => ?_⟩
    refine ⟨v, tp, [.ty T, .ty U], _, [.type T, .type U], q z || q' z, rfl, upd_same, .cons (.ty T) (.cons (.ty U) .nil), tyX_of (Dp.mono (Xt.upd np) (Dp.mono hide_out q1)), kitAny_cons (kit_ty (hq z)) (fun e => ?_) (fun e => by rw [e]; rfl), kk _ _ (x1.trans (Xt.upd np)) (r1.tabs.new np) (.bl _)⟩
    refine kitAny_cons (kit_ty (hq' z)) (fun e2 => ?_) (fun e2 => by rw [e2, Bool.or_true])
    rw [e, e2]
    exact kitAny_nil
/-! not in -/
def gNotIn : PyData → PyData → Option PyData
  | x, .list ds => if (SeqAt.shaped x && SeqAt.shaped (.list ds)) = true then some (.bool (!ds.any fun z => PyData.eqv z x)) else none
  | _, _ => none
def fNotIn := f2 gNotIn
theorem w_notin {K : PySem.W.Frag} : ∀ σ H Q, tD K Ts (fNotIn fa fb) σ H Q → tOp (rNotInD K) (tD K Ts fa) (tD K Ts fb) σ H Q :=
  w_2 fun x y v w d H O Q hg q1 q2 ht _ kk => by
    cases y <;> simp only [gNotIn] at hg <;> try cases hg
    split at hg
    · rename_i hs
      rw [Bool.and_eq_true] at hs
      cases hg
      exact ⟨x, _, Dp.mono hide_out q1, Dp.mono hide_out q2, hs.1, hs.2, kk _ H (Xt.refl H) ht (.bl _)⟩
    · cases hg
theorem d_notin {k : Nat} (hr : Room k X.A) (ha : DE X Ts a fa) (hb : DE X Ts b fb) (hm : behindInMarks .NotIn b = false := by rfl) : DE X Ts (.Compare a [.NotIn] [b] pos) (fNotIn fa fb) := PE.imp (pe_cmpR (op_notInD (by have := hr.units; have := hr.un; omega)) ha hb hm) w_notin
theorem dt_notin {k : Nat} (hr : Room k X.A) (ha : DE X Ts a fa) (hb : DE X Ts b fb) (hm : behindInMarks .NotIn b = false := by rfl) : DT X Ts (.Compare a [.NotIn] [b] pos) (fT (fNotIn fa fb)) := dt_of (pt_cmpR (op_notInD (by have := hr.units; have := hr.un; omega)) ha hb hm) w_notin
/-! rows that are never come to -/
theorem ss_never {sts : List Stmt} : DSs X Ts sts sNever := ⟨fun _ _ _ _ _ _ ⟨_, _, _, _, _, _, hf, _⟩ => by cases hf⟩
end
end DN
set_option Elab.async false
set_option linter.all false
set_option maxRecDepth 100000
set_option maxHeartbeats 4000000
namespace DN
open PySem PySem.Spec PyProof.Rows L2
/-! ### a law's body: it draws first; what it returns is a bool -/
abbrev LF := En → (Fl → Prop) → Prop
def tL (K : PySem.W.Frag) (Ts : List Addr) (ρ : Nat) (F : LF) : TS := fun D σ H => ∃ He O en Q, WRep K Ts ρ He O σ H en ∧ F en Q ∧ (∀ en' σ' H', Q (.nx en') → WRep K Ts ρ He O σ' H' en' → D.nx σ' H') ∧ (∀ b H', Q (.rt (.bool b)) → D.rt (.bl b) H')
abbrev LS (X : Cx) (Ts : List Addr) (ρ : Nat) (st : Stmt) (F : LF) : Prop := PS X st (tL X.K Ts ρ F)
abbrev LSs (X : Cx) (Ts : List Addr) (ρ : Nat) (st : List Stmt) (F : LF) : Prop := PSs X st (tL X.K Ts ρ F)
def lNil : LF := fun en Q => Q (.nx en)
def lSeq (F G : LF) : LF := fun en Q => F en fun r => match r with
  | .nx e => G e Q
  | r => Q r
def lSet (i : Nat) (F : WF) : LF := fun en Q => F en fun d => ∃ e1, bName i d en = some e1 ∧ Q (.nx e1)
def lPar (i j : Nat) (F G : WF) : LF := fun en Q => F en fun x => G en fun y => ∃ e1 e2, bName i x en = some e1 ∧ bName j y e1 = some e2 ∧ Q (.nx e2)
def lPar3 (i j l : Nat) (F G E : WF) : LF := fun en Q => F en fun x => G en fun y => E en fun z => ∃ e1 e2 e3, bName i x en = some e1 ∧ bName j y e1 = some e2 ∧ bName l z e2 = some e3 ∧ Q (.nx e3)
def lIf (t : En → (Bool → Prop) → Prop) (F G : LF) : LF := fun en Q => t en fun b => if b = true then F en Q else G en Q
def lRet (F : WF) : LF := fun en Q => F en fun d => ∃ b, d = .bool b ∧ Q (.rt (.bool b))
def lEnd (ρ : Nat) (G : En → Option Fl) : LF := fun en Q => ∀ rw, RowOk rw → ∃ b, G (en.set ρ (.own rw)) = some (.rt (.bool b)) ∧ Q (.rt (.bool b))
section
variable {X : Cx} {Ts : List Addr} {ρ : Nat} {pos : Pos} {st : Stmt} {rest : List Stmt} {F G : LF} {e a b : Expr} {f g : WF}
theorem WRep.setD {K : PySem.W.Frag} {He : Hp} {O : List Addr} {σ : St} {H : Hp} {en e1 : En} {i : Nat} {v : V} {d : PyData} (r : WRep K Ts ρ He O σ H en) (hi : i ≠ ρ) (hb : bName i d en = some e1) (q : Dp K (hide H O) v d) : WRep K Ts ρ He O (σ.set i (some v)) H e1 := by
  obtain ⟨b1, rfl⟩ := bName_set hb
  obtain ⟨hl, rw, hr, rp⟩ := r
  refine ⟨by simpa using hl, rw, hr, ?_⟩
  rw [List.set_comm _ _ hi]
  exact rp.setD (by simpa using b1) q
theorem l_nil : LSs X Ts ρ [] lNil := PSs.imp pss_nil fun D σ H ⟨He, O, en, Q, rp, hF, k, _⟩ => k en σ H hF rp
theorem l_cons (h1 : LS X Ts ρ st F) (h2 : LSs X Ts ρ rest G) : LSs X Ts ρ (st :: rest) (lSeq F G) := PSs.imp (pss_cons h1 h2) fun D σ H ⟨He, O, en, Q, rp, hF, k, l⟩ =>
  ⟨He, O, en, _, rp, hF, fun e1 σ1 H1 hq r1 => ⟨He, O, e1, Q, r1, hq, k, l⟩, fun b H' hq => l b H' hq⟩
theorem l_one (h1 : LS X Ts ρ st F) : LSs X Ts ρ [st] F := pss_one h1
theorem l_set {i : Nat} {x : Str} {pos' : Pos} (hN : X.N.Nodup) (hi : X.N[i]? = some x) (hx : Loc X.env.scope x) (hρ : i ≠ ρ) (he : WE X Ts ρ e f) (hs : swapsWith e (some (.Name x pos')) pos.line X.env = pure false := by rfl) (hf : X.fn x = true ∨ X.env.scope.names.lookup x = some .local := by first | exact .inl rfl | exact .inr rfl | assumption) :
    LS X Ts ρ (.Assign [.Name x pos'] e pos) (lSet i f) := PS.imp (ps_set hN hi hx he hs hf) fun D σ H ⟨He, O, en, Q, rp, hF, k, _⟩ =>
  ⟨He, O, en, _, rp, hF, fun d v H' ⟨e1, h1, hq⟩ r' q x => k e1 _ H' hq (r'.setD hρ h1 q)⟩
theorem l_par {i j : Nat} {x y : Str} {px py pt : Pos} {kt k2 pt2} (hc : X.calm = true) (hN : X.N.Nodup) (hi : X.N[i]? = some x) (hj : X.N[j]? = some y) (hij : i ≠ j) (hiρ : i ≠ ρ) (hjρ : j ≠ ρ)
    (hx : X.env.scope.names.lookup x = some .local) (hy : X.env.scope.names.lookup y = some .local) (ha : WE X Ts ρ a f) (hb : WE X Ts ρ b g) (hw : swappedStores [.Tuple [.Name x px, .Name y py] kt pt] (.Tuple [a, b] k2 pt2) X.env = pure (some [x, y]))
    (hs1 : starEach [a, b] X.env = (false, eval a X.env) :: starEach [b] X.env := by rfl) (hs2 : starEach [b] X.env = (false, eval b X.env) :: starEach [] X.env := by rfl)
    (hs : swapsWithSole [.Tuple [.Name x px, .Name y py] kt pt] (.Tuple [a, b] k2 pt2) pos.line X.env = pure false := by rfl) : LS X Ts ρ (.Assign [.Tuple [.Name x px, .Name y py] kt pt] (.Tuple [a, b] k2 pt2) pos) (lPar i j f g) :=
  PS.imp (ps_par hc hN hi hj hij hx hy (pa_cons ha (pa_cons hb pa_nil hs2) hs1) hw hs) fun D σ H ⟨He, O, en, Q, rp, hF, k, _⟩ =>
    ⟨He, O, en, _, rp, hF, fun d v H1 h1 r1 q1 x1 => ⟨He, O, en, _, r1, h1, fun d2 w H2 ⟨e1, e2, b1, b2, hq⟩ r2 q2 x2 => ⟨v, w, rfl, k e2 _ H2 hq ((r2.setD hiρ b1 (Dp.mono x2.1 q1)).setD hjρ b2 q2)⟩⟩⟩
theorem l_par3 {i j l : Nat} {x y z : Str} {c : Expr} {h : WF} {px py pz pt : Pos} {kt k2 pt2} (hc : X.calm = true) (hN : X.N.Nodup) (hi : X.N[i]? = some x) (hj : X.N[j]? = some y) (hl : X.N[l]? = some z) (hij : i ≠ j) (hil : i ≠ l) (hjl : j ≠ l) (hiρ : i ≠ ρ) (hjρ : j ≠ ρ) (hlρ : l ≠ ρ)
    (hx : X.env.scope.names.lookup x = some .local) (hy : X.env.scope.names.lookup y = some .local) (hz : X.env.scope.names.lookup z = some .local) (ha : WE X Ts ρ a f) (hb : WE X Ts ρ b g) (hcc : WE X Ts ρ c h) (hw : swappedStores [.Tuple [.Name x px, .Name y py, .Name z pz] kt pt] (.Tuple [a, b, c] k2 pt2) X.env = pure (some [x, y, z]))
    (hs1 : starEach [a, b, c] X.env = (false, eval a X.env) :: starEach [b, c] X.env := by rfl) (hs2 : starEach [b, c] X.env = (false, eval b X.env) :: starEach [c] X.env := by rfl) (hs3 : starEach [c] X.env = (false, eval c X.env) :: starEach [] X.env := by rfl)
    (hs : swapsWithSole [.Tuple [.Name x px, .Name y py, .Name z pz] kt pt] (.Tuple [a, b, c] k2 pt2) pos.line X.env = pure false := by rfl) : LS X Ts ρ (.Assign [.Tuple [.Name x px, .Name y py, .Name z pz] kt pt] (.Tuple [a, b, c] k2 pt2) pos) (lPar3 i j l f g h) :=
  PS.imp (ps_par3 hc hN hi hj hl hij hil hjl hx hy hz (pa_cons ha (pa_cons hb (pa_cons hcc pa_nil hs3) hs2) hs1) hw hs) fun D σ H ⟨He, O, en, Q, rp, hF, k, _⟩ =>
    ⟨He, O, en, _, rp, hF, fun d v H1 h1 r1 q1 x1 => ⟨He, O, en, _, r1, h1, fun d2 w H2 h2 r2 q2 x2 => ⟨He, O, en, _, r2, h2, fun d3 u H3 ⟨e1, e2, e3, b1, b2, b3, hq⟩ r3 q3 x3 => ⟨v, w, u, rfl, k e3 _ H3 hq (((r3.setD hiρ b1 (Dp.mono (x2.trans x3).1 q1)).setD hjρ b2 (Dp.mono x3.1 q2)).setD hlρ b3 q3)⟩⟩⟩⟩
/-- names = values, where a name is a cell -/
def lBind (b : PyData → En → Option En) (F : WF) : LF := fun en Q => F en fun d => ∃ e1, b d en = some e1 ∧ Q (.nx e1)
theorem l_bind {tg : Expr} {vs : List Nat} {b : PyData → En → Option En} (he : WE X Ts ρ e f) (hg : DG X Ts tg vs b) (hb : BOk ρ b) (hs : swapsWithSole [tg] e pos.line X.env = pure false := by rfl) (hw : swappedStores [tg] e X.env = pure none := by rfl)
    (h1 : (assignEach [tg] X.env).map (·.2) = [assign tg X.env] := by rfl) : LS X Ts ρ (.Assign [tg] e pos) (lBind b f) := PS.imp (ps_asg he (wg_of hg hb) hs hw h1) fun D σ H ⟨He, O, en, Q, rp, hF, k, _⟩ =>
  ⟨He, O, en, _, rp, hF, fun d v H1 ⟨e1, h1, hq⟩ r1 q1 x1 => ⟨He, O, en, d, e1, r1, q1, h1, fun σ' r' _ => k e1 σ' H1 hq r'⟩⟩
theorem l_if {c : Expr} {a b : List Stmt} {t : En → (Bool → Prop) → Prop} (hc : WT X Ts ρ c t) (ha : LSs X Ts ρ a F) (hb : LSs X Ts ρ b G) : LS X Ts ρ (.If c a b pos) (lIf t F G) := PS.imp (ps_if hc ha hb) fun D σ H ⟨He, O, en, Q, rp, hF, k, l⟩ =>
  ⟨He, O, en, _, rp, hF, fun b H' hq r' x => by
    cases b with
    | true => exact iteT ⟨He, O, en, Q, r', hq, k, l⟩
    | false => exact iteF ⟨He, O, en, Q, r', hq, k, l⟩⟩
theorem l_ret (he : WE X Ts ρ e f) : LS X Ts ρ (.Return (some e) pos) (lRet f) := PS.imp (ps_ret he) fun D σ H ⟨He, O, en, Q, rp, hF, k, l⟩ =>
  ⟨He, O, en, _, rp, hF, fun d v H' ⟨b, hb, hq⟩ r' q x => by subst hb; cases q; exact l b H' hq⟩
/-- from here on nothing is drawn -/
theorem l_end {G : En → Option Fl} (h : DSs X Ts rest G) : LSs X Ts ρ rest (lEnd ρ G) := PSs.imp h fun D σ H ⟨He, O, en, Q, ⟨hl, rw, hr, rp⟩, hF, k, l⟩ => by
  obtain ⟨b, h1, h2⟩ := hF rw hr
  exact ⟨He, [], fun _ => none, _, _, ⟨O, fun _ z => (nomatch z), fun _ z => (nomatch z), rp, fun _ _ z => (nomatch z)⟩, h1, fun v H' _ _ q => by cases q; exact l b H' h2⟩
end
section
variable {P : Program} {w : World} {K : PySem.W.Frag} {mg : Str → Option Value} {base : Heap} {Ts : List Addr}
def spLaw (K : PySem.W.Frag) (Ts : List Addr) : Sp := fun vs H Q _ => ∃ (a : Addr) (ns : List Int), vs = [.ref a] ∧ SqL K H a (ns.map V.int) ∧ ns.length ≤ 63 ∧ Tb Ts H ∧ ∀ H', Q (.bl true) H'
def lawEn (n : Nat) (ns : List Int) : En := Slot.dat (.list (ns.map .int)) :: List.replicate (n - 1) Slot.no
theorem DF.okL {x qual : Str} {st st1 : Stmt} {rest : List Stmt} {f : Addr} {fd : FuncData} {cdv : Value} {N : List Str} {sc : Str} {k ρ : Nat} {f1 : En → Option PyData} {F : LF} (D : DF K x qual st f fd cdv) (S : FnScope N [sc] (defScope st)) (hN : 1 ≤ N.length) (hb : defBody st = st1 :: rest) (hρ : ρ < N.length)
    (h1 : ∀ (A : Around) (outer : List Env) (s : Shared) (H : Hp) (E : XK), Room k (A.deeper (envOfC qual (defScope st) s.heap.objs.size f cdv)) → DS (cxOf CX0 P w K mg base N qual (defScope st) f cdv A outer s H E).nox Ts st1 (sOwn ρ f1))
    (h2 : ∀ (A : Around) (outer : List Env) (s : Shared) (H : Hp) (E : XK), Room k (A.deeper (envOfC qual (defScope st) s.heap.objs.size f cdv)) → LSs (cxOf CX0 P w K mg base N qual (defScope st) f cdv A outer s H E).nox Ts ρ rest F)
    (hF : ∀ ns : List Int, ns.length ≤ 63 → ∃ rw, RowOk rw ∧ f1 (lawEn N.length ns) = some (.list rw) ∧ ∀ en', (∃ rw', en' = (lawEn N.length ns).set ρ (.own rw')) → F en' fun r => r = .rt (.bool true)) :
    FnOk P w K mg base CX0 (k + 1) f fd [sc] (spLaw K Ts) := by
  obtain ⟨oc, od, kV, doc, pm, an, ct, osl, rfl, lk, hcd⟩ := D.ex
  refine fn_of lk hcd S (fun vs H Q E ⟨a, ns, h, _⟩ => by rw [h]; rfl) fun A outer s H vs Q E hr hsp => ?_
  rw [hb]
  refine ⟨_, (pss_cons (h1 A outer s H E hr) (h2 A outer s H E hr)).nox, ?_⟩
  obtain ⟨a, ns, rfl, hS, hns, ht, kk⟩ := hsp
  obtain ⟨rw, hrw, hf1, hFF⟩ := hF ns hns
  have hlen : (lawEn N.length ns).length = N.length := by simp [lawEn]; omega
  have rp : Rep K Ts H [] (L2.start N [.ref a]) H (lawEn N.length ns) := by
    have noX : ∀ {i : Nat} {x : Slot}, (lawEn N.length ns)[i + 1]? = some x → x = Slot.no := fun {i x} h => by
      unfold lawEn at h
      rw [List.getElem?_cons_succ, List.getElem?_replicate] at h
      split at h <;> cases h
      rfl
    refine ⟨by rw [hlen]; simp [L2.start]; omega, fun i d h => ?_, fun i es h => ?_, fun i j es es' a h => ?_, fun _ z => (nomatch z), Xt.refl H, ht⟩
    · cases i with
      | zero =>
        cases h
        exact ⟨.ref a, start_get rfl, .lst (sqL_mono (fun o n e => hide_of (fun z => nomatch z) e) hS) (DpAll.of_ints ns)⟩
      | succ i => exact absurd (noX h) (fun z => nomatch z)
    · cases i with
      | zero => cases h
      | succ i => exact absurd (noX h) (fun z => nomatch z)
    · cases i with
      | zero => cases h
      | succ i => exact absurd (noX h) (fun z => nomatch z)
  refine ⟨H, [], fun _ => none, lawEn N.length ns, .nx ((lawEn N.length ns).set ρ (.own rw)), ⟨[], fun _ z => (nomatch z), fun _ z => (nomatch z), rp, fun _ _ z => (nomatch z)⟩, ?_, fun σ' H' r' => ?_⟩
  · unfold sOwn
    rw [hf1]
    show (if ρ < (lawEn N.length ns).length then _ else _) = _
    rw [if_pos (by rw [hlen]; exact hρ)]
  · obtain ⟨O, a1, a2, rp', _⟩ := r'
    refine ⟨H, O, (lawEn N.length ns).set ρ (.own rw), _, ⟨by rw [List.length_set, hlen]; exact hρ, rw, hrw, by rw [List.set_set]; exact rp'⟩, hFF _ ⟨rw, rfl⟩, fun en' σ2 H2 hq => ?_, fun b H2 hq => ?_⟩
    · cases hq
    · cases hq
      exact kk H2
end
end DN
set_option Elab.async false
set_option linter.all false
set_option maxRecDepth 100000
set_option maxHeartbeats 4000000
namespace DN
open PySem PySem.Spec PyProof.Rows L2
/-! ### zip, gcd -/
def pairs : List PyData → List PyData → List PyData
  | x :: xs, y :: ys => .tuple [x, y] :: pairs xs ys
  | _, _ => []
theorem pairs_len : ∀ xs ys : List PyData, (pairs xs ys).length = min xs.length ys.length
  | [], _ => by simp [pairs]
  | _ :: _, [] => by simp [pairs]
  | x :: xs, y :: ys => by
    show (pairs xs ys).length + 1 = _
    rw [pairs_len xs ys, List.length_cons, List.length_cons]
    omega
theorem pairs_get : ∀ {xs ys : List PyData} {i : Nat} {x y : PyData}, xs[i]? = some x → ys[i]? = some y → (pairs xs ys)[i]? = some (.tuple [x, y])
  | [], _, _, _, _, h, _ => by simp at h
  | _ :: _, [], _, _, _, _, h => by simp at h
  | a :: xs, b :: ys, 0, x, y, h1, h2 => by
    simp at h1 h2
    subst h1 h2
    rfl
  | a :: xs, b :: ys, i + 1, x, y, h1, h2 => by
    rw [List.getElem?_cons_succ] at h1 h2
    show (pairs xs ys)[i]? = _
    exact pairs_get h1 h2
def iZip (f g : En → Option PyData) : En → Option (List PyData) := fun en => (f en).bind fun x => (g en).bind fun y => match x, y with
  | .tuple xs, .tuple ys => some (pairs xs ys)
  | .list xs, .list ys => some (pairs xs ys)
  | _, _ => none
section
variable {X : Cx} {Ts : List Addr} {pos p tpos : Pos} {e e2 : Expr} {f g : En → Option PyData} {elts : List Expr} {kk : Nat}
theorem gives_zip {K : PySem.W.Frag} {H1 : Hp} {O : List Addr} {J : It} {xs ys : List V} {ds es : List PyData} (go : ∀ O' H2, Xt (hide H1 O) (hide H2 O') → Xt (hide H1 O) H2 → (∀ i x y, xs[i]? = some x → ys[i]? = some y → J.go i H2) ∧ (∀ i, xs.length ≤ i ∨ ys.length ≤ i → J.stop i H2) ∧
      ∀ i v H3, J.yld i H2 v H3 → ∃ T x y, v = .ref T ∧ H2 T = none ∧ H3 = upd H2 T (.tup [x, y]) ∧ xs[i]? = some x ∧ ys[i]? = some y)
    (a : DpAll K (hide H1 O) xs ds) (b : DpAll K (hide H1 O) ys es) : Gives K Ts J (pairs ds es) H1 O := fun O' H2 h1 h2 occ => by
  obtain ⟨g1, g2, g3⟩ := go O' H2 h1 h2
  have la := DpAll.len a
  have lb := DpAll.len b
  have a2 := DpAll.mono h1 a
  have b2 := DpAll.mono h1 b
  refine ⟨fun i hi => ?_, g2 _ ?_, fun i v H3 hi hy => ?_⟩
  · rw [pairs_len] at hi
    exact g1 i (xs[i]'(by omega)) (ys[i]'(by omega)) (List.getElem?_eq_getElem _) (List.getElem?_eq_getElem _)
  · rw [pairs_len]
    omega
  · obtain ⟨T, x, y, rfl, nT, rfl, ex, ey⟩ := g3 i v H3 hy
    obtain ⟨d1, hd1, q1⟩ := DpAll.get a2 ex
    obtain ⟨d2, hd2, q2⟩ := DpAll.get b2 ey
    exact ⟨.tuple [d1, d2], pairs_get hd1 hd2, Xt.upd nT, fun t => t.new nT, tup_new nT (fun z => (occ T z).1 nT) (.cons q1 (.cons q2 .nil))⟩
theorem di_zip (hg : Gl X "zip") (hm : X.mg "zip" = none) (ha : DE X Ts e f) (hb : DE X Ts e2 g)
    (hs : starEach [e, e2] X.env = (false, eval e X.env) :: starEach [e2] X.env := by rfl) (hs2 : starEach [e2] X.env = (false, eval e2 X.env) :: starEach [] X.env := by rfl) (hpl : (backTo pos (starEach [e2] X.env)).any (·.1) = false := by rfl) :
    DI X Ts (.Tuple elts kk tpos) (.Call (.Name "zip" p) [e, e2] [] pos) (iZip f g) :=
  PI.imp (RZ.pi_zipA (ta := tCons (tD X.K Ts f) (tCons (tD X.K Ts g) tNil)) hg hm (pa_cons ha (pa_cons hb pa_nil hs2) hs) hs hpl) fun σ H R ⟨He, O, en, ds, rp, hf, kk⟩ => by
    unfold iZip at hf
    obtain ⟨x, h1, hf1⟩ := Option.bind_eq_some_iff.mp hf
    obtain ⟨y, h2, hf2⟩ := Option.bind_eq_some_iff.mp hf1
    refine tD.of rp h1 fun v H1 x1 r1 q1 => tD.of r1 h2 fun w H2 x2 r2 q2 => ?_
    have q1 := Dp.mono (hide_mono x2) q1
    cases x <;> cases y <;> simp only at hf2 <;> cases hf2
    · cases q1 with
      | lst s1 a1 =>
        cases q2 with
        | lst s2 a2 =>
          have t1 := sqL_mono (fun o n e => (hide_some e).2) s1
          have t2 := sqL_mono (fun o n e => (hide_some e).2) s2
          refine ⟨_, _, _, _, rfl, .inl ⟨t1, t2, kk _ H2 (x1.trans x2) r2.tabs (gives_zip (fun O' H3 y1 y2 => ?_) a1 a2)⟩⟩
          have u1 := sqL_mono (fun o n e => y2.get _ o e n) s1
          have u2 := sqL_mono (fun o n e => y2.get _ o e n) s2
          exact ⟨fun i x y ex ey => ⟨_, _, x, y, u1, u2, ex, ey⟩, fun i h => ⟨_, _, u1, u2, h⟩, fun i v H4 ⟨T, x, y, h1, h2, h3, h4, h5⟩ => ⟨T, x, y, h1, h2, h3, h4 _ u1, h5 _ u2⟩⟩
    · cases q1 with
      | tup s1 a1 =>
        cases q2 with
        | tup s2 a2 =>
          have t1 := sqT_mono (fun o n e => (hide_some e).2) s1
          have t2 := sqT_mono (fun o n e => (hide_some e).2) s2
          refine ⟨_, _, _, _, rfl, .inr ⟨t1, t2, kk _ H2 (x1.trans x2) r2.tabs (gives_zip (fun O' H3 y1 y2 => ?_) a1 a2)⟩⟩
          have u1 := sqT_mono (fun o n e => y2.get _ o e n) s1
          have u2 := sqT_mono (fun o n e => y2.get _ o e n) s2
          exact ⟨fun i x y ex ey => ⟨_, _, x, y, u1, u2, ex, ey⟩, fun i h => ⟨_, _, u1, u2, h⟩, fun i v H4 ⟨T, x, y, h1, h2, h3, h4, h5⟩ => ⟨T, x, y, h1, h2, h3, h4 _ u1, h5 _ u2⟩⟩
theorem d_gcd {x : Str} (hg : Gl X x) (hm : X.mg x = some (.builtin "math.gcd")) (ha : DE X Ts e f) (hb : DE X Ts e2 g) (hdb : (x == ("__debug__" : Str)) = false := by decide)
    (hs : starEach [e, e2] X.env = (false, eval e X.env) :: starEach [e2] X.env := by rfl) (hs2 : starEach [e2] X.env = (false, eval e2 X.env) :: starEach [] X.env := by rfl) (hpl : (backTo pos (starEach [e2] X.env)).any (·.1) = false := by rfl) :
    DE X Ts (.Call (.Name x p) [e, e2] [] pos) (fGcd f g) :=
  PE.imp (pe_callBfun cr_gcd hg hm (pa_cons ha (pa_cons hb pa_nil hs2) hs) hdb hs hpl) fun σ H Q ⟨He, O, en, d, rp, hf, kk⟩ => by
    unfold fGcd at hf
    obtain ⟨x, y, h1, h2, h3⟩ := f2_some hf
    refine tD.of rp h1 fun v H1 x1 r1 q1 => tD.of r1 h2 fun w H2 x2 r2 q2 => ?_
    cases x <;> cases y <;> simp only [gI] at h3 <;> try cases h3
    cases q1
    cases q2
    exact ⟨_, _, rfl, kk _ H2 (x1.trans x2) r2.tabs (.int _)⟩
end
end DN
set_option Elab.async false
set_option linter.all false
set_option maxRecDepth 100000
set_option maxHeartbeats 4000000
namespace DN
open PySem PySem.Spec PyProof.Rows L2
/-! ### the greatest, the least of a list or tuple of ints -/
def minL : List Int → Int
  | [] => 0
  | x :: r => r.foldl min x
theorem reads_ints {h : Heap} : ∀ {ns : List Int} {its : List Value}, Vals (ns.map V.int) its → ReadsAll h its (ns.map .int) []
  | [], _, .nil => .nil
  | n :: ns, _, .cons r t => by
    obtain ⟨k, rfl⟩ := r
    exact .cons (.int n k) (reads_ints t)
theorem ints_alike : ∀ ns : List Int, PySem.W.AlikeAll (ns.map .int) := fun ns => by
  refine ⟨fun x hx y hy => ?_, fun x hx z => ?_⟩
  · obtain ⟨a, _, rfl⟩ := List.mem_map.mp hx
    obtain ⟨b, _, rfl⟩ := List.mem_map.mp hy
    rfl
  · obtain ⟨a, _, rfl⟩ := List.mem_map.mp hx
    cases z
theorem ints_depth : ∀ ns : List Int, PyData.depthAll (ns.map .int) = 0
  | [] => by simp only [List.map_nil, PyData.depthAll]
  | n :: r => by simp only [List.map_cons, PyData.depthAll, PyData.depth, ints_depth r]; rfl
def rMaxT (K : PySem.W.Frag) : List V → Hp → VK → Prop := fun vs H Q => ∃ (a : Addr) (n : Int) (ns : List Int), vs = [V.ref a] ∧ SqT K H a ((n :: ns).map V.int) ∧ Q (.int (maxL (n :: ns))) H
def rMinT (K : PySem.W.Frag) : List V → Hp → VK → Prop := fun vs H Q => ∃ (a : Addr) (n : Int) (ns : List Int), vs = [V.ref a] ∧ SqT K H a ((n :: ns).map V.int) ∧ Q (.int (minL (n :: ns))) H
section
variable {X : Cx} {Ts : List Addr} {pos p : Pos} {e : Expr} {f : En → Option PyData} {k : Nat}
theorem cr_maxT (hc : X.calm = true) (hu : X.A.units + 1 < cLine) : CallR X (.builtin "max") (rMaxT X.K) := by
  intro pins s σ H vs us Q I r h
  obtain ⟨a, n, ns, rfl, hs, q⟩ := h
  obtain ⟨its, rv, hl, _⟩ := I.tuple hs
  rw [Vals.ref1 r]
  refine PySem.W.max_tuple_data (I.ok.hd hc) hl (by simpa using reads_ints (ns := n :: ns) rv) (ints_alike (n :: ns)) (by rw [show (PyData.int n :: ns.map .int) = (n :: ns).map .int from rfl, ints_depth]; omega) fun i v h' tk bs hv hr hk => ?_
  rw [PySem.W.maxD_ints] at hr
  cases hr
  exact ⟨.int _, H, I.kept hk, ⟨_, rfl⟩, q⟩
theorem cr_minT (hc : X.calm = true) (hu : X.A.units + 1 < cLine) : CallR X (.builtin "min") (rMinT X.K) := by
  intro pins s σ H vs us Q I r h
  obtain ⟨a, n, ns, rfl, hs, q⟩ := h
  obtain ⟨its, rv, hl, _⟩ := I.tuple hs
  rw [Vals.ref1 r]
  refine PySem.W.min_tuple_data (I.ok.hd hc) hl (by simpa using reads_ints (ns := n :: ns) rv) (ints_alike (n :: ns)) (by rw [show (PyData.int n :: ns.map .int) = (n :: ns).map .int from rfl, ints_depth]; omega) fun i v h' tk bs hv hr hk => ?_
  rw [PySem.W.minD_ints] at hr
  cases hr
  exact ⟨.int _, H, I.kept hk, ⟨_, rfl⟩, q⟩
def gMaxT : PyData → Option PyData
  | .tuple ds => (intsOf ds).bind fun ns => if ns.isEmpty = true then none else some (.int (maxL ns))
  | _ => none
def gMinT : PyData → Option PyData
  | .tuple ds => (intsOf ds).bind fun ns => if ns.isEmpty = true then none else some (.int (minL ns))
  | _ => none
def fMaxT := f1 gMaxT
def fMinT := f1 gMinT
theorem d_maxT (hr : Room k X.A) (hc : X.calm = true) (hg : Gl X "max") (hm : X.mg "max" = none) (hb : bootBuiltins "max" = some (.builtin "max")) (ha : DB X Ts e f) (he : starEach [e] X.env = (false, eval e X.env) :: starEach [] X.env := by rfl) : DE X Ts (.Call (.Name "max" p) [e] [] pos) (fMaxT f) :=
  b_arg1 (cr_maxT hc (by have := hr.units; have := hr.un; omega)) hg hm hb ha (he := he) fun d z v H O Q hz q t occ kk => by
    cases d <;> simp only [gMaxT] at hz <;> try cases hz
    rename_i ds
    obtain ⟨ns, h1, h2⟩ := Option.bind_eq_some_iff.mp hz
    have e := intsOf_some h1
    subst e
    split at h2
    · cases h2
    · rename_i hn
      cases h2
      obtain ⟨a, vs, rfl, h1, h2⟩ := q.tup
      obtain rfl := DpAll.ints h2
      cases ns with
      | nil => exact absurd rfl hn
      | cons x r => exact ⟨a, x, r, rfl, h1, kk _ H (Xt.refl H) t (.int _)⟩
theorem d_minT (hr : Room k X.A) (hc : X.calm = true) (hg : Gl X "min") (hm : X.mg "min" = none) (hb : bootBuiltins "min" = some (.builtin "min")) (ha : DB X Ts e f) (he : starEach [e] X.env = (false, eval e X.env) :: starEach [] X.env := by rfl) : DE X Ts (.Call (.Name "min" p) [e] [] pos) (fMinT f) :=
  b_arg1 (cr_minT hc (by have := hr.units; have := hr.un; omega)) hg hm hb ha (he := he) fun d z v H O Q hz q t occ kk => by
    cases d <;> simp only [gMinT] at hz <;> try cases hz
    rename_i ds
    obtain ⟨ns, h1, h2⟩ := Option.bind_eq_some_iff.mp hz
    have e := intsOf_some h1
    subst e
    split at h2
    · cases h2
    · rename_i hn
      cases h2
      obtain ⟨a, vs, rfl, h1, h2⟩ := q.tup
      obtain rfl := DpAll.ints h2
      cases ns with
      | nil => exact absurd rfl hn
      | cons x r => exact ⟨a, x, r, rfl, h1, kk _ H (Xt.refl H) t (.int _)⟩
end
end DN
set_option Elab.async false
set_option linter.all false
set_option maxRecDepth 100000
set_option maxHeartbeats 4000000
namespace DN
open PySem PySem.Spec PyProof.Rows L2
/-! ### what the program's defs denote (printed by tools/gen.py --f) -/
def F_is_whole : En → Option Fl := (sRet (fAnd (fIsi isInt (fVar 0)) (fNot (fIsi isBool (fVar 0)))))
def F_is_between (c_is_whole : List PyData → Option PyData) : En → Option Fl := (sRet (fAnd (fCall 1 c_is_whole (fCons (fVar 0) fNil)) (fChain gLe gLe (fVar 1) (fVar 0) (fVar 2))))
def F_is_row_between (c_is_between : List PyData → Option PyData) : En → Option Fl := (sRet (fAnd (fIsi isTup (fVar 0)) (fAll true (iSeq (fVar 0)) (bName 3) (fCall 3 c_is_between (fCons (fVar 3) (fCons (fVar 1) (fCons (fVar 2) fNil)))) [3])))
def F_is_inflows (c_is_row_between : List PyData → Option PyData) : En → Option Fl := (sRet (fAnd (fCall 3 c_is_row_between (fCons (fVar 0) (fCons (fLit (.int 0)) (fCons (fLit (.int 1000)) fNil)))) (fChain gLe gLe (fLit (.int 1)) (fLen (fVar 0)) (fLit (.int 12)))))
def F_check_inflows (c_is_inflows : List PyData → Option PyData) : En → Option Fl := (sIf (kNot (fT (fCall 1 c_is_inflows (fCons (fVar 0) fNil)))) sNever sNil)
def F_check_demands (c_is_row_between : List PyData → Option PyData) : En → Option Fl := (sIf (kNot (kAnd (fT (fCall 3 c_is_row_between (fCons (fVar 0) (fCons (fLit (.int 0)) (fCons (fLit (.int 1000)) fNil))))) (fT (fEq (fLen (fVar 0)) (fVar 1))))) sNever sNil)
def F_check_rows (c_check_inflows c_check_demands : List PyData → Option PyData) : En → Option Fl := (sSeq (sExpr (fCall 1 c_check_inflows (fCons (fVar 0) fNil))) (sSeq (sExpr (fCall 2 c_check_demands (fCons (fVar 1) (fCons (fLen (fVar 0)) fNil)))) (sIf (kNot (fT (fIsi isBool (fVar 2)))) sNever sNil)))
def F_rows_of_months : En → Option Fl := (sRet (fLc2 (iRange1 (fVar 0)) (bName 2) kYes (iRange2 (fLit (.int 1)) (fPlus (fIf (fT (fVar 1)) (fVar 0) (fSub (fVar 0) (fVar 2))) (fLit (.int 1)))) (bName 3) kYes (fTup (fCons (fVar 2) (fCons (fVar 3) fNil))) [2, 3] [3]))
def F_lack_of_row : En → Option Fl := (sSeq (sBind (bTup [3, 4]) (fVar 2)) (sSeq (sSet 5 (fCut (fPlus (fVar 1) (fVar 1)) (fPart (fVar 3)) (fPart (fPlus (fVar 3) (fVar 4))))) (sSeq (sSet 6 (fCut (fPlus (fVar 0) (fVar 0)) (fPart (fVar 3)) (fPart (fPlus (fVar 3) (fVar 4))))) (sRet (fSub (fSum (fVar 5)) (fSum (fVar 6)))))))
def F_found_storage (c_rows_of_months c_lack_of_row : List PyData → Option PyData) : En → Option Fl := (sSeq (sIf (kAnd (fT (fVar 2)) (fT (fGt (fSum (fVar 1)) (fSum (fVar 0))))) (sRet (fLit .none)) sNil) (sSeq (sSet 3 (fCall 2 c_rows_of_months (fCons (fLen (fVar 0)) (fCons (fVar 2) fNil)))) (sRet (fMax2 (fLit (.int 0)) (fMaxL (fLc (iSeq (fVar 3)) (bName 4) kYes (fCall 3 c_lack_of_row (fCons (fVar 0) (fCons (fVar 1) (fCons (fVar 4) fNil)))) [4]))))))
def F_least_storage (c_check_rows c_found_storage : List PyData → Option PyData) : En → Option Fl := (sSeq (sExpr (fCall 3 c_check_rows (fCons (fVar 0) (fCons (fVar 1) (fCons (fVar 2) fNil))))) (sRet (fCall 3 c_found_storage (fCons (fVar 0) (fCons (fVar 1) (fCons (fVar 2) fNil))))))
def F_storage_paper (c_check_rows c_found_storage c_rows_of_months c_lack_of_row : List PyData → Option PyData) : En → Option Fl := (sSeq (sExpr (fCall 3 c_check_rows (fCons (fVar 0) (fCons (fVar 1) (fCons (fVar 2) fNil))))) (sSeq (sSet 3 (fCall 3 c_found_storage (fCons (fVar 0) (fCons (fVar 1) (fCons (fVar 2) fNil))))) (sSeq (sIf (kOr (fT (fIsN (fVar 3) (fLit .none))) (fT (fEq (fVar 3) (fLit (.int 0))))) (sRet (fLit .none)) sNil) (sSeq (sSet 4 (fCall 2 c_rows_of_months (fCons (fLen (fVar 0)) (fCons (fVar 2) fNil)))) (sRet (fIx (fLc (iSeq (fVar 4)) (bName 5) (fT (fEq (fCall 3 c_lack_of_row (fCons (fVar 0) (fCons (fVar 1) (fCons (fVar 5) fNil)))) (fVar 3))) (fVar 5) [5]) (fLit (.int 0))))))))
def F_shows_storage (c_check_rows c_found_storage c_is_row_between c_rows_of_months c_lack_of_row : List PyData → Option PyData) : En → Option Fl := (sSeq (sExpr (fCall 3 c_check_rows (fCons (fVar 0) (fCons (fVar 1) (fCons (fVar 2) fNil))))) (sSeq (sSet 4 (fCall 3 c_found_storage (fCons (fVar 0) (fCons (fVar 1) (fCons (fVar 2) fNil))))) (sSeq (sIf (kOr (fT (fIsN (fVar 4) (fLit .none))) (fT (fEq (fVar 4) (fLit (.int 0))))) (sRet (fIsN (fVar 3) (fLit .none))) sNil) (sSeq (sIf (kNot (kAnd (fT (fCall 3 c_is_row_between (fCons (fVar 3) (fCons (fLit (.int 0)) (fCons (fLen (fVar 0)) fNil))))) (fT (fIn (fVar 3) (fCall 2 c_rows_of_months (fCons (fLen (fVar 0)) (fCons (fVar 2) fNil))))))) (sRet (fLit (.bool false))) sNil) (sRet (fEq (fCall 3 c_lack_of_row (fCons (fVar 0) (fCons (fVar 1) (fCons (fVar 3) fNil)))) (fVar 4)))))))
end DN
set_option Elab.async false
set_option linter.all false
set_option maxRecDepth 100000
set_option maxHeartbeats 4000000
namespace DN
open PySem PySem.Spec PyProof.Rows L2
/-! ### what the program's defs denote: dams, yields (printed by tools/gen.py --f) -/
def F_ratio : En → Option Fl := (sSeq (sSet 2 (fGcd (fVar 0) (fVar 1))) (sRet (fTup (fCons (fDiv (fVar 0) (fVar 2)) (fCons (fDiv (fVar 1) (fVar 2)) fNil)))))
def F_is_less : En → Option Fl := (sRet (fLt (fTimes (fIx (fVar 0) (fLit (.int 0))) (fIx (fVar 1) (fLit (.int 1)))) (fTimes (fIx (fVar 1) (fLit (.int 0))) (fIx (fVar 0) (fLit (.int 1))))))
def F_least_ratio (c_is_less : List PyData → Option PyData) : En → Option Fl := (sSeq (sSet 1 (fIx (fVar 0) (fLit (.int 0)))) (sSeq (sFor (iSeq (fVar 0)) (bName 2) (sIf (fT (fCall 2 c_is_less (fCons (fVar 2) (fCons (fVar 1) fNil)))) (sSet 1 (fVar 2)) sNil)) (sRet (fVar 1))))
def F_is_dam (c_is_between c_is_inflows : List PyData → Option PyData) : En → Option Fl := (sSeq (sIf (kNot (kAnd (fT (fIsi isTup (fVar 0))) (fT (fEq (fLen (fVar 0)) (fLit (.int 4)))))) (sRet (fLit (.bool false))) sNil) (sSeq (sBind (bTup [1, 2, 3, 4]) (fVar 0)) (sSeq (sIf (kNot (fT (fCall 3 c_is_between (fCons (fVar 1) (fCons (fLit (.int 0)) (fCons (fLit (.int 1000)) fNil)))))) (sRet (fLit (.bool false))) sNil) (sRet (fAnd (fCall 3 c_is_between (fCons (fVar 2) (fCons (fLit (.int 0)) (fCons (fVar 1) fNil)))) (fAnd (fCall 3 c_is_between (fCons (fVar 3) (fCons (fLit (.int 0)) (fCons (fVar 1) fNil)))) (fCall 1 c_is_inflows (fCons (fVar 4) fNil))))))))
def F_check_dam (c_is_dam : List PyData → Option PyData) : En → Option Fl := (sIf (kNot (fT (fCall 1 c_is_dam (fCons (fVar 0) fNil)))) sNever sNil)
def F_check_has_plan : En → Option Fl := (sSeq (sBind (bTup [1, 2, 3, 4]) (fVar 0)) (sSeq (sFor (iSeq (fVar 4)) (bName 5) (sSet 2 (fMin2 (fVar 1) (fPlus (fVar 2) (fVar 5))))) (sIf (fT (fLt (fVar 2) (fVar 3))) sNever sNil)))
def F_windows : En → Option Fl := (sRet (fLc2 (iRange1 (fVar 0)) (bName 1) kYes (iRange2 (fVar 1) (fVar 0)) (bName 2) kYes (fTup (fCons (fVar 1) (fCons (fVar 2) fNil))) [1, 2] [2]))
def F_in_window : En → Option Fl := (sSeq (sBind (bTup [2, 3]) (fVar 1)) (sRet (fCut (fVar 0) (fPart (fVar 2)) (fPart (fPlus (fVar 3) (fLit (.int 1)))))))
def F_most_water (c_in_window : List PyData → Option PyData) : En → Option Fl := (sSeq (sBind (bTup [2, 3, 4, 5]) (fVar 0)) (sSeq (sSet 6 (fIf (fT (fEq (fIx (fVar 1) (fLit (.int 0))) (fLit (.int 0)))) (fVar 3) (fVar 2))) (sRet (fPlus (fVar 6) (fSum (fCall 2 c_in_window (fCons (fVar 5) (fCons (fVar 1) fNil))))))))
def F_spare_water (c_most_water : List PyData → Option PyData) : En → Option Fl := (sSeq (sBind (bTup [2, 2, 3, 4]) (fVar 0)) (sSeq (sSet 5 (fCall 2 c_most_water (fCons (fVar 0) (fCons (fVar 1) fNil)))) (sRet (fIf (fT (fEq (fIx (fVar 1) (fLit (.int 1))) (fSub (fLen (fVar 4)) (fLit (.int 1))))) (fSub (fVar 5) (fVar 3)) (fVar 5)))))
def F_window_yield (c_ratio c_spare_water : List PyData → Option PyData) : En → Option Fl := (sSeq (sBind (bTup [2, 3]) (fVar 1)) (sRet (fCall 2 c_ratio (fCons (fCall 2 c_spare_water (fCons (fVar 0) (fCons (fVar 1) fNil))) (fCons (fPlus (fSub (fVar 3) (fVar 2)) (fLit (.int 1))) fNil)))))
def F_firm_yield (c_check_dam c_check_has_plan c_least_ratio c_windows c_window_yield : List PyData → Option PyData) : En → Option Fl := (sSeq (sExpr (fCall 1 c_check_dam (fCons (fVar 0) fNil))) (sSeq (sExpr (fCall 1 c_check_has_plan (fCons (fVar 0) fNil))) (sRet (fCall 1 c_least_ratio (fCons (fLc (iSeq (fCall 1 c_windows (fCons (fLen (fIx (fVar 0) (fLit (.int 3)))) fNil))) (bName 1) kYes (fCall 2 c_window_yield (fCons (fVar 0) (fCons (fVar 1) fNil))) [1]) fNil)))))
def F_firm_share (c_check_dam c_check_demands c_check_has_plan c_windows c_in_window c_ratio c_spare_water c_least_ratio : List PyData → Option PyData) : En → Option Fl := (sSeq (sExpr (fCall 1 c_check_dam (fCons (fVar 0) fNil))) (sSeq (sExpr (fCall 2 c_check_demands (fCons (fVar 1) (fCons (fLen (fIx (fVar 0) (fLit (.int 3)))) fNil)))) (sSeq (sIf (fT (fEq (fSum (fVar 1)) (fLit (.int 0)))) sNever sNil) (sSeq (sExpr (fCall 1 c_check_has_plan (fCons (fVar 0) fNil))) (sSeq (sOwn 2 (fLst fNil)) (sSeq (sFor (iSeq (fCall 1 c_windows (fCons (fLen (fVar 1)) fNil))) (bName 3) (sSeq (sSet 4 (fSum (fCall 2 c_in_window (fCons (fVar 1) (fCons (fVar 3) fNil))))) (sIf (fT (fGt (fVar 4) (fLit (.int 0)))) (sApp 2 (fCall 2 c_ratio (fCons (fCall 2 c_spare_water (fCons (fVar 0) (fCons (fVar 3) fNil))) (fCons (fVar 4) fNil)))) sNil))) (sSeq (sRel 2) (sRet (fCall 1 c_least_ratio (fCons (fVar 2) fNil))))))))))
def F_round_yield (c_is_between c_check_inflows c_ratio c_least_ratio : List PyData → Option PyData) : En → Option Fl := (sSeq (sIf (kNot (fT (fCall 3 c_is_between (fCons (fVar 0) (fCons (fLit (.int 0)) (fCons (fLit (.int 1000)) fNil)))))) sNever sNil) (sSeq (sExpr (fCall 1 c_check_inflows (fCons (fVar 1) fNil))) (sSeq (sSet 2 (fLen (fVar 1))) (sSeq (sSet 3 (fPlus (fVar 1) (fVar 1))) (sSeq (sOwn 4 (fLst (fCons (fCall 2 c_ratio (fCons (fSum (fVar 1)) (fCons (fVar 2) fNil))) fNil))) (sSeq (sFor (iRange1 (fVar 2)) (bName 5) (sFor (iRange2 (fLit (.int 1)) (fPlus (fVar 2) (fLit (.int 1)))) (bName 6) (sApp 4 (fCall 2 c_ratio (fCons (fPlus (fVar 0) (fSum (fCut (fVar 3) (fPart (fVar 5)) (fPart (fPlus (fVar 5) (fVar 6)))))) (fCons (fVar 6) fNil)))))) (sSeq (sRel 4) (sRet (fCall 1 c_least_ratio (fCons (fVar 4) fNil))))))))))
def F__law_ratio (w0 : En → Nat) : En → Option Fl := (sSeq (sPar 2 3 (fAbs (fVar 0)) (fAbs (fVar 1))) (sSeq (sWhile w0 (fT (fNe (fVar 3) (fLit (.int 0)))) (sPar 2 3 (fVar 3) (fMod (fInt (fVar 2)) (fVar 3)))) (sRet (fIf (fT (fGt (fVar 1) (fLit (.int 0)))) (fTup (fCons (fDiv (fVar 0) (fVar 2)) (fCons (fDiv (fVar 1) (fVar 2)) fNil))) (fTup (fCons (fSub (fLit (.int 0)) (fDiv (fVar 0) (fVar 2))) (fCons (fSub (fLit (.int 0)) (fDiv (fVar 1) (fVar 2))) fNil)))))))
def F__law_by (c__law_ratio : List PyData → Option PyData) : En → Option Fl := (sRet (fCall 2 c__law_ratio (fCons (fTimes (fIx (fVar 0) (fLit (.int 0))) (fIx (fVar 1) (fLit (.int 0)))) (fCons (fTimes (fIx (fVar 0) (fLit (.int 1))) (fIx (fVar 1) (fLit (.int 1)))) fNil))))
def F__law_less : En → Option Fl := (sRet (fLt (fTimes (fIx (fVar 0) (fLit (.int 0))) (fIx (fVar 1) (fLit (.int 1)))) (fTimes (fIx (fVar 1) (fLit (.int 0))) (fIx (fVar 0) (fLit (.int 1))))))
end DN
set_option Elab.async false
set_option linter.all false
set_option maxRecDepth 100000
set_option maxHeartbeats 4000000
namespace DN
open PySem PySem.Spec PyProof.Rows L2
/-! ### values of the denotations -/
abbrev ti (ns : List Int) : PyData := .tuple (ns.map .int)
def S_is_whole := runD 1 F_is_whole
def S_is_between := runD 3 (F_is_between S_is_whole)
def S_is_row_between := runD 4 (F_is_row_between S_is_between)
def S_is_inflows := runD 1 (F_is_inflows S_is_row_between)
def S_check_inflows := runD 1 (F_check_inflows S_is_inflows)
def S_check_demands := runD 2 (F_check_demands S_is_row_between)
def S_check_rows := runD 3 (F_check_rows S_check_inflows S_check_demands)
def S_rows_of_months := runD 4 F_rows_of_months
def S_lack_of_row := runD 7 F_lack_of_row
def S_found_storage := runD 5 (F_found_storage S_rows_of_months S_lack_of_row)
def S_least_storage := runD 3 (F_least_storage S_check_rows S_found_storage)
def S_storage_paper := runD 6 (F_storage_paper S_check_rows S_found_storage S_rows_of_months S_lack_of_row)
def S_shows_storage := runD 5 (F_shows_storage S_check_rows S_found_storage S_is_row_between S_rows_of_months S_lack_of_row)
theorem v_whole (i : Int) : S_is_whole [.int i] = some (.bool true) := rfl
theorem v_between (i lo hi : Int) : S_is_between [.int i, .int lo, .int hi] = some (.bool (decide (lo ≤ i) && decide (i ≤ hi))) := by
  simp only [runD, sRet, sSeq, sNil, sIf, sSet, sExpr, sNever, sBind, fAnd, fOr, fNot, fCall, fCons, fNil, fVar, fLit, fIsi, isInt, isBool, isTup, f1, f2, fChain, gLe, gLt, gI, gIc, fPlus, gPlus, fSub, fLen, gLen, fSum, gSum, items, intsOf_map, fT, kNot, kAnd, kOr, fEq, fNe, fGt, fLt, fLe, fGe, fIsN, gIsN, fNotN, gNotN, isNone, fIf, fMax2, fMin2, iSeq, bName, fTup, fPart, fNoPart, fIsB, fNotB, gIsB, gNotB, kYes, fTuple, gTuple, iRange1, iRange2, fCut, gCut, List.map_cons, List.map_nil, List.length_cons, List.length_nil, List.length_map, List.getElem?_cons_zero, List.getElem?_cons_succ, List.cons_append, List.nil_append, List.replicate, Option.bind_some, Option.map_some, Option.bind_none, Option.map_none, if_true, if_false, Bool.not_true, Bool.not_false, Nat.reduceAdd, Nat.reduceSub, List.set_cons_zero, List.set_cons_succ, Bool.false_eq_true, Nat.lt_irrefl, Nat.reduceLT, Bool.true_and, Bool.and_true, Bool.false_and, Bool.and_false, S_is_between, F_is_between, v_whole]
  cases decide (lo ≤ i) <;> rfl
theorem allGo_int {lo hi : Int} {en : En} (h3 : 3 < en.length) (h1 : ∀ d, (en.set 3 (.dat d))[1]? = some (.dat (.int lo))) (h2 : ∀ d, (en.set 3 (.dat d))[2]? = some (.dat (.int hi))) : ∀ ns : List Int, allGo true (bName 3) (fCall 3 S_is_between (fCons (fVar 3) (fCons (fVar 1) (fCons (fVar 2) fNil)))) en (ns.map .int) = some (.bool (ns.all fun i => decide (lo ≤ i) && decide (i ≤ hi)))
  | [] => rfl
  | i :: r => by
    have e3 : (en.set 3 (.dat (.int i)))[3]? = some (.dat (.int i)) := by rw [List.getElem?_set_self h3]
    have e1 := h1 (.int i)
    have e2 := h2 (.int i)
    have e0 : bName 3 (.int i) en = some (en.set 3 (.dat (.int i))) := if_pos h3
    show ((bName 3 (.int i) en).bind _) = _
    rw [e0]
    simp only [Option.bind_some, fCall, fCons, fVar, e1, e2, e3, fNil, Option.map_some, List.length_cons, List.length_nil, Nat.reduceAdd, if_true, v_between]
    cases hb : (decide (lo ≤ i) && decide (i ≤ hi)) with
    | true =>
      simp only [if_true, List.all_cons, hb, Bool.true_and]
      exact allGo_int h3 h1 h2 r
    | false => simp [hb]
theorem v_row (ns : List Int) (lo hi : Int) : S_is_row_between [ti ns, .int lo, .int hi] = some (.bool (ns.all fun i => decide (lo ≤ i) && decide (i ≤ hi))) := by
  simp only [runD, sRet, sSeq, sNil, sIf, sSet, sExpr, sNever, sBind, fAnd, fOr, fNot, fCall, fCons, fNil, fVar, fLit, fIsi, isInt, isBool, isTup, f1, f2, fChain, gLe, gLt, gI, gIc, fPlus, gPlus, fSub, fLen, gLen, fSum, gSum, items, intsOf_map, fT, kNot, kAnd, kOr, fEq, fNe, fGt, fLt, fLe, fGe, fIsN, gIsN, fNotN, gNotN, isNone, fIf, fMax2, fMin2, iSeq, bName, fTup, fPart, fNoPart, fIsB, fNotB, gIsB, gNotB, kYes, fTuple, gTuple, iRange1, iRange2, fCut, gCut, List.map_cons, List.map_nil, List.length_cons, List.length_nil, List.length_map, List.getElem?_cons_zero, List.getElem?_cons_succ, List.cons_append, List.nil_append, List.replicate, Option.bind_some, Option.map_some, Option.bind_none, Option.map_none, if_true, if_false, Bool.not_true, Bool.not_false, Nat.reduceAdd, Nat.reduceSub, List.set_cons_zero, List.set_cons_succ, Bool.false_eq_true, Nat.lt_irrefl, Nat.reduceLT, Bool.true_and, Bool.and_true, Bool.false_and, Bool.and_false, S_is_row_between, F_is_row_between, fAll]
  rw [allGo_int (by simp [wipeE]) (fun _ => rfl) (fun _ => rfl)]
  rfl
theorem v_row_none (lo hi : Int) : S_is_row_between [.none, .int lo, .int hi] = some (.bool false) := rfl
theorem flows_all {ns : List Int} (h : Flows ns) : (ns.all fun i => decide ((0 : Int) ≤ i) && decide (i ≤ 1000)) = true := by
  rw [List.all_eq_true]
  intro i hi
  have := h i hi
  simp [this.1, this.2]
theorem v_inflows {ns : List Int} (h : Flows ns) (h0 : 0 < ns.length) (h1 : ns.length ≤ 12) : S_is_inflows [ti ns] = some (.bool true) := by
  simp only [runD, sRet, sSeq, sNil, sIf, sSet, sExpr, sNever, sBind, fAnd, fOr, fNot, fCall, fCons, fNil, fVar, fLit, fIsi, isInt, isBool, isTup, f1, f2, fChain, gLe, gLt, gI, gIc, fPlus, gPlus, fSub, fLen, gLen, fSum, gSum, items, intsOf_map, fT, kNot, kAnd, kOr, fEq, fNe, fGt, fLt, fLe, fGe, fIsN, gIsN, fNotN, gNotN, isNone, fIf, fMax2, fMin2, iSeq, bName, fTup, fPart, fNoPart, fIsB, fNotB, gIsB, gNotB, kYes, fTuple, gTuple, iRange1, iRange2, fCut, gCut, List.map_cons, List.map_nil, List.length_cons, List.length_nil, List.length_map, List.getElem?_cons_zero, List.getElem?_cons_succ, List.cons_append, List.nil_append, List.replicate, Option.bind_some, Option.map_some, Option.bind_none, Option.map_none, if_true, if_false, Bool.not_true, Bool.not_false, Nat.reduceAdd, Nat.reduceSub, List.set_cons_zero, List.set_cons_succ, Bool.false_eq_true, Nat.lt_irrefl, Nat.reduceLT, Bool.true_and, Bool.and_true, Bool.false_and, Bool.and_false, S_is_inflows, F_is_inflows, v_row, flows_all h]
  rw [decide_eq_true (by omega), decide_eq_true (by omega)]
  rfl
theorem v_check_inflows {ns : List Int} (h : Flows ns) (h0 : 0 < ns.length) (h1 : ns.length ≤ 12) : S_check_inflows [ti ns] = some .none := by
  simp only [runD, sRet, sSeq, sNil, sIf, sSet, sExpr, sNever, sBind, fAnd, fOr, fNot, fCall, fCons, fNil, fVar, fLit, fIsi, isInt, isBool, isTup, f1, f2, fChain, gLe, gLt, gI, gIc, fPlus, gPlus, fSub, fLen, gLen, fSum, gSum, items, intsOf_map, fT, kNot, kAnd, kOr, fEq, fNe, fGt, fLt, fLe, fGe, fIsN, gIsN, fNotN, gNotN, isNone, fIf, fMax2, fMin2, iSeq, bName, fTup, fPart, fNoPart, fIsB, fNotB, gIsB, gNotB, kYes, fTuple, gTuple, iRange1, iRange2, fCut, gCut, List.map_cons, List.map_nil, List.length_cons, List.length_nil, List.length_map, List.getElem?_cons_zero, List.getElem?_cons_succ, List.cons_append, List.nil_append, List.replicate, Option.bind_some, Option.map_some, Option.bind_none, Option.map_none, if_true, if_false, Bool.not_true, Bool.not_false, Nat.reduceAdd, Nat.reduceSub, List.set_cons_zero, List.set_cons_succ, Bool.false_eq_true, Nat.lt_irrefl, Nat.reduceLT, Bool.true_and, Bool.and_true, Bool.false_and, Bool.and_false, S_check_inflows, F_check_inflows, v_inflows h h0 h1]
theorem eq_int (a b : Int) : gEq (.int a) (.int b) = some (.bool (decide (a = b))) := by
  unfold gEq
  rw [if_pos (by rfl)]
  rfl
theorem ne_int (a b : Int) : gNe (.int a) (.int b) = some (.bool (!decide (a = b))) := by
  unfold gNe
  rw [if_pos (by rfl)]
  rfl
theorem eq_bool (a b : Bool) : gEq (.bool a) (.bool b) = some (.bool (decide (a = b))) := by
  unfold gEq
  rw [if_pos (by rfl)]
  cases a <;> cases b <;> rfl
theorem ne_bool (a b : Bool) : gNe (.bool a) (.bool b) = some (.bool (!decide (a = b))) := by
  unfold gNe
  rw [if_pos (by rfl)]
  cases a <;> cases b <;> rfl
theorem v_check_demands {ns : List Int} (h : Flows ns) {m : Nat} (h0 : ns.length = m) : S_check_demands [ti ns, .int m] = some .none := by
  subst h0
  simp only [runD, sRet, sSeq, sNil, sIf, sSet, sExpr, sNever, sBind, fAnd, fOr, fNot, fCall, fCons, fNil, fVar, fLit, fIsi, isInt, isBool, isTup, f1, f2, fChain, gLe, gLt, gI, gIc, fPlus, gPlus, fSub, fLen, gLen, fSum, gSum, items, intsOf_map, fT, kNot, kAnd, kOr, fEq, fNe, fGt, fLt, fLe, fGe, fIsN, gIsN, fNotN, gNotN, isNone, fIf, fMax2, fMin2, iSeq, bName, fTup, fPart, fNoPart, fIsB, fNotB, gIsB, gNotB, kYes, fTuple, gTuple, iRange1, iRange2, fCut, gCut, List.map_cons, List.map_nil, List.length_cons, List.length_nil, List.length_map, List.getElem?_cons_zero, List.getElem?_cons_succ, List.cons_append, List.nil_append, List.replicate, Option.bind_some, Option.map_some, Option.bind_none, Option.map_none, if_true, if_false, Bool.not_true, Bool.not_false, Nat.reduceAdd, Nat.reduceSub, List.set_cons_zero, List.set_cons_succ, Bool.false_eq_true, Nat.lt_irrefl, Nat.reduceLT, Bool.true_and, Bool.and_true, Bool.false_and, Bool.and_false, S_check_demands, F_check_demands, v_row, flows_all h, eq_int, decide_true]
theorem v_check_rows {xs ys : List Int} (hx : Flows xs) (hy : Flows ys) (h0 : 0 < xs.length) (h1 : xs.length ≤ 12) (h2 : ys.length = xs.length) (b : Bool) : S_check_rows [ti xs, ti ys, .bool b] = some .none := by
  simp only [runD, sRet, sSeq, sNil, sIf, sSet, sExpr, sNever, sBind, fAnd, fOr, fNot, fCall, fCons, fNil, fVar, fLit, fIsi, isInt, isBool, isTup, f1, f2, fChain, gLe, gLt, gI, gIc, fPlus, gPlus, fSub, fLen, gLen, fSum, gSum, items, intsOf_map, fT, kNot, kAnd, kOr, fEq, fNe, fGt, fLt, fLe, fGe, fIsN, gIsN, fNotN, gNotN, isNone, fIf, fMax2, fMin2, iSeq, bName, fTup, fPart, fNoPart, fIsB, fNotB, gIsB, gNotB, kYes, fTuple, gTuple, iRange1, iRange2, fCut, gCut, List.map_cons, List.map_nil, List.length_cons, List.length_nil, List.length_map, List.getElem?_cons_zero, List.getElem?_cons_succ, List.cons_append, List.nil_append, List.replicate, Option.bind_some, Option.map_some, Option.bind_none, Option.map_none, if_true, if_false, Bool.not_true, Bool.not_false, Nat.reduceAdd, Nat.reduceSub, List.set_cons_zero, List.set_cons_succ, Bool.false_eq_true, Nat.lt_irrefl, Nat.reduceLT, Bool.true_and, Bool.and_true, Bool.false_and, Bool.and_false, S_check_rows, F_check_rows, v_check_inflows hx h0 h1, v_check_demands hy h2]
/-! comprehensions over lists that are told by a function -/
section
variable {α : Type} {b : PyData → En → Option En} {t : En → Option Bool} {f : En → Option PyData} {en : En}
theorem lcGo_map {h g : α → PyData} {p : α → Bool} : ∀ l : List α, (∀ a ∈ l, ∃ e1, b (h a) en = some e1 ∧ t e1 = some (p a) ∧ (p a = true → f e1 = some (g a))) → lcGo b t f en (l.map h) = some ((l.filter p).map g)
  | [], _ => rfl
  | a :: r, H => by
    obtain ⟨e1, h1, h2, h3⟩ := H a List.mem_cons_self
    have ih := lcGo_map r fun a ha => H a (List.mem_cons_of_mem _ ha)
    simp only [List.map_cons, lcGo, h1, h2, Option.bind_some]
    cases hp : p a with
    | true =>
      rw [if_pos rfl, h3 hp, List.filter_cons_of_pos hp, ih]
      rfl
    | false =>
      rw [if_neg (by decide), List.filter_cons_of_neg (by rw [hp]; decide), ih]
theorem lcGo_all {h g : α → PyData} (l : List α) (H : ∀ a ∈ l, ∃ e1, b (h a) en = some e1 ∧ f e1 = some (g a)) : lcGo b kYes f en (l.map h) = some (l.map g) := by
  refine (lcGo_map (t := kYes) (p := fun _ => true) (g := g) l fun a ha => ?_).trans (by rw [List.filter_eq_self.mpr (fun _ _ => rfl)])
  obtain ⟨e1, h1, h2⟩ := H a ha
  exact ⟨e1, h1, rfl, fun _ => h2⟩
theorem flatMap_len {β : Type} {o : α → List β} {k : Nat} : ∀ l : List α, (∀ a ∈ l, (o a).length ≤ k) → (l.flatMap o).length ≤ l.length * k
  | [], _ => Nat.zero_le _
  | a :: r, H => by
    rw [List.flatMap_cons, List.length_append, List.length_cons, Nat.add_mul, Nat.one_mul, Nat.add_comm]
    exact Nat.add_le_add (flatMap_len r fun x hx => H x (List.mem_cons_of_mem _ hx)) (H a List.mem_cons_self)
theorem lc2Go_map {it2 : En → Option (List PyData)} {b2 : PyData → En → Option En} {t2 : En → Option Bool} {vs2 : List Nat} {h : α → PyData} {o : α → List PyData} : ∀ l : List α, (∀ a ∈ l, ∃ e1 ds2, b (h a) en = some e1 ∧ t e1 = some true ∧ it2 e1 = some ds2 ∧ lcGo b2 t2 f (wipeE e1 vs2) ds2 = some (o a)) → lc2Go b t it2 b2 t2 f vs2 en (l.map h) = some (l.flatMap o)
  | [], _ => rfl
  | a :: r, H => by
    obtain ⟨e1, ds2, h1, h2, h3, h4⟩ := H a List.mem_cons_self
    have ih := lc2Go_map r fun a ha => H a (List.mem_cons_of_mem _ ha)
    simp only [List.map_cons, lc2Go, h1, h2, h3, h4, Option.bind_some, if_true, ih, Option.map_some, List.flatMap_cons]
end
/-! rows of months -/
def pairD (p : Nat × Nat) : PyData := .tuple [.int (p.1 : Int), .int ((p.2 : Int) + 1)]
def rowsL (m : Nat) (r : Bool) : List (Nat × Nat) := (List.range m).flatMap fun f => (List.range (if r = true then m else m - f)).map fun c => (f, c)
theorem rowsL_mem {m : Nat} {r : Bool} {p : Nat × Nat} : p ∈ rowsL m r ↔ p.1 < m ∧ p.2 < (if r = true then m else m - p.1) := by
  unfold rowsL
  simp only [List.mem_flatMap, List.mem_range, List.mem_map]
  constructor
  · rintro ⟨f, hf, c, hc, rfl⟩
    exact ⟨hf, hc⟩
  · rintro ⟨h1, h2⟩
    exact ⟨p.1, h1, p.2, h2, rfl⟩
theorem rowsL_len {m : Nat} (hm : m ≤ 12) (r : Bool) : (rowsL m r).length ≤ 144 := by
  refine Nat.le_trans (flatMap_len (k := 12) _ fun f hf => ?_) ?_
  · rw [List.length_map, List.length_range]
    cases r with
    | true => exact hm
    | false => exact Nat.le_trans (Nat.sub_le _ _) hm
  · rw [List.length_range]
    omega
theorem run_ret {n : Nat} {f : En → Option PyData} {ds : List PyData} : runD n (sRet f) ds = f (ds.map .dat ++ List.replicate (n - ds.length) .no) := by
  unfold runD sRet
  cases f (ds.map .dat ++ List.replicate (n - ds.length) .no) <;> rfl
/-! steps -/
section
variable {en e1 : En} {F G : En → Option Fl} {f g : En → Option PyData} {d : PyData} {n : Nat} {S : List PyData → Option PyData} {ds : List PyData} {t : En → Option Bool}
theorem seq_nx (h : F en = some (.nx e1)) : sSeq F G en = G e1 := by
  unfold sSeq
  rw [h]
theorem seq_rt (h : F en = some (.rt d)) : sSeq F G en = some (.rt d) := by
  unfold sSeq
  rw [h]
theorem set_ev {i : Nat} (h : f en = some d) (hb : i < en.length) : sSet i f en = some (.nx (en.set i (.dat d))) := by
  unfold sSet bName
  rw [h, Option.bind_some, if_pos hb]
  rfl
theorem bind_ev {b : PyData → En → Option En} (h : f en = some d) (hb : b d en = some e1) : sBind b f en = some (.nx e1) := by
  unfold sBind
  rw [h, Option.bind_some, hb]
  rfl
theorem ret_ev (h : f en = some d) : sRet f en = some (.rt d) := by
  unfold sRet
  rw [h]
  rfl
theorem expr_ev (h : f en = some d) : sExpr f en = some (.nx en) := by
  unfold sExpr
  rw [h]
  rfl
theorem if_t (h : t en = some true) : sIf t F G en = F en := by
  unfold sIf
  rw [h]
theorem if_f (h : t en = some false) : sIf t F G en = G en := by
  unfold sIf
  rw [h]
theorem run_rt {N : Nat} (h : F (ds.map .dat ++ List.replicate (N - ds.length) .no) = some (.rt d)) : runD N F ds = some d := by
  unfold runD
  rw [h]
theorem run_nx {N : Nat} (h : F (ds.map .dat ++ List.replicate (N - ds.length) .no) = some (.nx e1)) : runD N F ds = some .none := by
  unfold runD
  rw [h]
theorem call_ev {gs : En → Option (List PyData)} (h1 : gs en = some ds) (h2 : ds.length = n) (h3 : S ds = some d) : fCall n S gs en = some d := by
  unfold fCall
  rw [h1, Option.bind_some, if_pos h2, h3]
theorem fT_ev {b : Bool} (h : f en = some (.bool b)) : fT f en = some b := by
  unfold fT
  rw [h]
theorem and_ev {k l : En → Option Bool} {b c : Bool} (h1 : k en = some b) (h2 : b = true → l en = some c) : kAnd k l en = some (b && c) := by
  unfold kAnd
  rw [h1]
  cases b with
  | true => exact h2 rfl
  | false => rfl
theorem or_ev {k l : En → Option Bool} {b c : Bool} (h1 : k en = some b) (h2 : b = false → l en = some c) : kOr k l en = some (b || c) := by
  unfold kOr
  rw [h1]
  cases b with
  | true => rfl
  | false => exact h2 rfl
theorem fand_ev {b c : Bool} (h1 : f en = some (.bool b)) (h2 : b = true → g en = some (.bool c)) : fAnd f g en = some (.bool (b && c)) := by
  unfold fAnd
  rw [h1]
  cases b with
  | true => exact h2 rfl
  | false => rfl
theorem two_ev {q : PyData → PyData → Option PyData} {a b : PyData} (h1 : f en = some a) (h2 : g en = some b) (h3 : q a b = some d) : f2 q f g en = some d := by
  unfold f2
  rw [h1, h2]
  exact h3
theorem one_ev {q : PyData → Option PyData} {a : PyData} (h1 : f en = some a) (h3 : q a = some d) : f1 q f en = some d := by
  unfold f1
  rw [h1]
  exact h3
end
theorem range2_ev {en : En} {f g : En → Option PyData} {a b : Int} (h1 : f en = some (.int a)) (h2 : g en = some (.int b)) (ha : -1000000 ≤ a ∧ a ≤ 1000000) (hb : -1000000 ≤ b ∧ b ≤ 1000000) : iRange2 f g en = some (rangeD a (b - a).toNat) := by
  unfold iRange2
  rw [h1, h2]
  exact if_pos ⟨ha.1, ha.2, hb.1, hb.2⟩
theorem range1_ev {en : En} {f : En → Option PyData} {a : Int} (h1 : f en = some (.int a)) (ha : -1000000 ≤ a ∧ a ≤ 1000000) : iRange1 f en = some (rangeD 0 a.toNat) := by
  unfold iRange1
  rw [h1]
  exact if_pos ha
theorem rows_it {m f : Nat} {r : Bool} (hm : m ≤ 12) (hf : f < m) {x : Slot} : iRange2 (fLit (.int 1)) (fPlus (fIf (fT (fVar 1)) (fVar 0) (fSub (fVar 0) (fVar 2))) (fLit (.int 1))) [Slot.dat (.int m), Slot.dat (.bool r), Slot.dat (.int (0 + (f : Int))), x] = some (rangeD 1 (if r = true then m else m - f)) := by
  cases r with
  | true =>
    refine (range2_ev (a := 1) (b := (m : Int) + 1) rfl rfl (by omega) (by omega)).trans ?_
    rw [show ((m : Int) + 1 - 1).toNat = m by omega]
    rfl
  | false =>
    refine (range2_ev (a := 1) (b := (m : Int) - (0 + (f : Int)) + 1) rfl rfl (by omega) (by omega)).trans ?_
    rw [show ((m : Int) - (0 + (f : Int)) + 1 - 1).toNat = m - f by omega]
    rfl
theorem rows_in {m f n : Nat} {r : Bool} : lcGo (bName 3) kYes (fTup (fCons (fVar 2) (fCons (fVar 3) fNil))) [Slot.dat (.int m), Slot.dat (.bool r), Slot.dat (.int (0 + (f : Int))), Slot.no] (rangeD 1 n) = some (((List.range n).map fun c => (f, c)).map pairD) := by
  unfold rangeD
  rw [List.map_map]
  refine lcGo_all _ fun c hc => ⟨[Slot.dat (.int m), Slot.dat (.bool r), Slot.dat (.int (0 + (f : Int))), Slot.dat (.int (1 + (c : Int)))], rfl, ?_⟩
  show some (PyData.tuple [.int (0 + (f : Int)), .int (1 + (c : Int))]) = some (pairD (f, c))
  rw [Int.zero_add, Int.add_comm 1]
  rfl
theorem rows_all {m : Nat} (hm : m ≤ 12) (r : Bool) : lc2Go (bName 2) kYes (iRange2 (fLit (.int 1)) (fPlus (fIf (fT (fVar 1)) (fVar 0) (fSub (fVar 0) (fVar 2))) (fLit (.int 1)))) (bName 3) kYes (fTup (fCons (fVar 2) (fCons (fVar 3) fNil))) [3] [Slot.dat (.int m), Slot.dat (.bool r), Slot.no, Slot.no] (rangeD 0 m) = some ((rowsL m r).map pairD) := by
  unfold rowsL
  rw [List.map_flatMap]
  exact lc2Go_map (h := fun i : Nat => PyData.int (0 + (i : Int))) (List.range m) fun f hf =>
    ⟨[Slot.dat (.int m), Slot.dat (.bool r), Slot.dat (.int (0 + (f : Int))), Slot.no], rangeD 1 (if r = true then m else m - f), rfl, rfl, rows_it hm (List.mem_range.mp hf), rows_in⟩
theorem v_rows {m : Nat} (hm : m ≤ 12) (r : Bool) : S_rows_of_months [.int m, .bool r] = some (.list ((rowsL m r).map pairD)) := by
  unfold S_rows_of_months F_rows_of_months
  refine run_rt (ret_ev ?_)
  have h1 : iRange1 (fVar 0) [Slot.dat (.int (m : Int)), Slot.dat (.bool r), Slot.no, Slot.no] = some (rangeD 0 m) := range1_ev (a := (m : Int)) rfl (by omega)
  show fLc2 _ _ _ _ _ _ _ _ _ [Slot.dat (.int (m : Int)), Slot.dat (.bool r), Slot.no, Slot.no] = _
  unfold fLc2
  rw [h1, Option.bind_some]
  have h2 := rows_all hm r
  have h3 : wipeE [Slot.dat (.int (m : Int)), Slot.dat (.bool r), Slot.no, Slot.no] [2, 3] = [Slot.dat (.int (m : Int)), Slot.dat (.bool r), Slot.no, Slot.no] := rfl
  rw [h3, h2, Option.bind_some, if_pos (by rw [List.length_map]; exact Nat.le_trans (rowsL_len hm r) (by decide))]
/-! what a row lacks -/
def lack (xs ys : List Int) (f c : Nat) : Int := (((ys ++ ys).drop f).take c).sum - (((xs ++ xs).drop f).take c).sum
theorem cut_ints {l : List Int} {f c : Nat} (h : f + c ≤ l.length) : cutD (l.map .int) (some (f : Int)) (some ((f : Int) + (c : Int))) = ((l.drop f).take c).map .int := by
  unfold cutD
  rw [HT.sIx_nat, show (f : Int) + (c : Int) = ((f + c : Nat) : Int) by omega, HT.sIx_nat, List.length_map, Nat.min_eq_left (by omega), Nat.min_eq_left (by omega), Nat.add_sub_cancel_left, ← List.map_drop, ← List.map_take]
theorem v_lack {xs ys : List Int} {f c : Nat} (h : ys.length = xs.length) (h12 : xs.length ≤ 12) (hf : f < xs.length) (hc : c < xs.length) : S_lack_of_row [ti xs, ti ys, pairD (f, c)] = some (.int (lack xs ys f (c + 1))) := by
  have e1 : fCut (fPlus (fVar 1) (fVar 1)) (fPart (fVar 3)) (fPart (fPlus (fVar 3) (fVar 4))) [Slot.dat (ti xs), Slot.dat (ti ys), Slot.dat (pairD (f, c)), Slot.dat (.int (f : Int)), Slot.dat (.int ((c : Int) + 1)), Slot.no, Slot.no] = some (ti (((ys ++ ys).drop f).take (c + 1))) := by
    show (Option.bind (gPlus (ti ys) (ti ys)) fun d => gCut d (some (f : Int)) (some ((f : Int) + ((c : Int) + 1)))) = _
    show (Option.bind (if (ys.map PyData.int).length + (ys.map PyData.int).length ≤ 1000000 then some (.tuple (ys.map PyData.int ++ ys.map PyData.int)) else none) fun d => gCut d (some (f : Int)) (some ((f : Int) + ((c : Int) + 1)))) = _
    rw [if_pos (by simp only [List.length_map]; omega), Option.bind_some]
    show some (PyData.tuple (cutD (ys.map PyData.int ++ ys.map PyData.int) (some (f : Int)) (some ((f : Int) + ((c : Int) + 1))))) = _
    rw [← List.map_append, show (c : Int) + 1 = ((c + 1 : Nat) : Int) by omega, cut_ints (by simp only [List.length_append]; omega)]
  have e2 : fCut (fPlus (fVar 0) (fVar 0)) (fPart (fVar 3)) (fPart (fPlus (fVar 3) (fVar 4))) [Slot.dat (ti xs), Slot.dat (ti ys), Slot.dat (pairD (f, c)), Slot.dat (.int (f : Int)), Slot.dat (.int ((c : Int) + 1)), Slot.dat (ti (((ys ++ ys).drop f).take (c + 1))), Slot.no] = some (ti (((xs ++ xs).drop f).take (c + 1))) := by
    show (Option.bind (gPlus (ti xs) (ti xs)) fun d => gCut d (some (f : Int)) (some ((f : Int) + ((c : Int) + 1)))) = _
    show (Option.bind (if (xs.map PyData.int).length + (xs.map PyData.int).length ≤ 1000000 then some (.tuple (xs.map PyData.int ++ xs.map PyData.int)) else none) fun d => gCut d (some (f : Int)) (some ((f : Int) + ((c : Int) + 1)))) = _
    rw [if_pos (by simp only [List.length_map]; omega), Option.bind_some]
    show some (PyData.tuple (cutD (xs.map PyData.int ++ xs.map PyData.int) (some (f : Int)) (some ((f : Int) + ((c : Int) + 1))))) = _
    rw [← List.map_append, show (c : Int) + 1 = ((c + 1 : Nat) : Int) by omega, cut_ints (by simp only [List.length_append]; omega)]
  unfold S_lack_of_row F_lack_of_row
  refine run_rt ?_
  refine (seq_nx (e1 := [Slot.dat (ti xs), Slot.dat (ti ys), Slot.dat (pairD (f, c)), Slot.dat (.int (f : Int)), Slot.dat (.int ((c : Int) + 1)), Slot.no, Slot.no]) (bind_ev (d := pairD (f, c)) rfl rfl)).trans ?_
  refine (seq_nx (set_ev e1 (by simp))).trans ?_
  refine (seq_nx (set_ev e2 (by simp))).trans ?_
  refine ret_ev (two_ev (one_ev (a := ti (((ys ++ ys).drop f).take (c + 1))) rfl (d := .int _) ?_) (one_ev (a := ti (((xs ++ xs).drop f).take (c + 1))) rfl (d := .int _) ?_) rfl)
  · show Option.map _ (intsOf _) = _
    rw [intsOf_map]
    rfl
  · show Option.map _ (intsOf _) = _
    rw [intsOf_map]
    rfl
end DN
set_option Elab.async false
set_option linter.all false
set_option maxRecDepth 100000
set_option maxHeartbeats 4000000
namespace DN
open PySem PySem.Spec PyProof.Rows L2
/-! ### storages -/
def lacksL (xs ys : List Int) (r : Bool) : List Int := (rowsL xs.length r).map fun p => lack xs ys p.1 (p.2 + 1)
def st (xs ys : List Int) (r : Bool) : Int := if maxL (lacksL xs ys r) > 0 then maxL (lacksL xs ys r) else 0
def storeD (xs ys : List Int) (r : Bool) : PyData := if (r && decide (xs.sum < ys.sum)) = true then .none else .int (st xs ys r)
theorem rowsL_ne {m : Nat} (h : 0 < m) (r : Bool) : (0, 0) ∈ rowsL m r := rowsL_mem.mpr ⟨h, by cases r <;> simpa using h⟩
theorem lacksL_ne {xs ys : List Int} (h : 0 < xs.length) (r : Bool) : lacksL xs ys r ≠ [] := fun z => by
  have := List.mem_map_of_mem (f := fun p : Nat × Nat => lack xs ys p.1 (p.2 + 1)) (rowsL_ne h r)
  unfold lacksL at z
  rw [z] at this
  cases this
theorem st_nonneg (xs ys : List Int) (r : Bool) : 0 ≤ st xs ys r := by
  unfold st
  split <;> omega
theorem st_ge {xs ys : List Int} {r : Bool} {f c : Nat} (h : (f, c) ∈ rowsL xs.length r) : lack xs ys f (c + 1) ≤ st xs ys r := by
  have hm : lack xs ys f (c + 1) ∈ lacksL xs ys r := List.mem_map_of_mem (f := fun p : Nat × Nat => lack xs ys p.1 (p.2 + 1)) h
  have hne : lacksL xs ys r ≠ [] := fun z => by rw [z] at hm; cases hm
  have := (maxL_spec hne).2 _ hm
  unfold st
  split <;> omega
theorem st_le {xs ys : List Int} {r : Bool} {B : Int} (h0 : 0 < xs.length) (hB : 0 ≤ B) (h : ∀ f c, (f, c) ∈ rowsL xs.length r → lack xs ys f (c + 1) ≤ B) : st xs ys r ≤ B := by
  unfold st
  split
  · obtain ⟨p, hp, e⟩ := List.mem_map.mp (maxL_spec (lacksL_ne h0 r)).1
    rw [← e]
    exact h p.1 p.2 hp
  · exact hB
theorem st_at {xs ys : List Int} {r : Bool} (h0 : 0 < xs.length) (h : 0 < st xs ys r) : ∃ p ∈ rowsL xs.length r, lack xs ys p.1 (p.2 + 1) = st xs ys r := by
  unfold st at h ⊢
  split
  · obtain ⟨p, hp, e⟩ := List.mem_map.mp (maxL_spec (lacksL_ne h0 r)).1
    exact ⟨p, hp, e⟩
  · rename_i hn
    rw [if_neg hn] at h
    omega
section
variable {xs ys : List Int}
theorem rows_lacks {en : En} (h : ys.length = xs.length) (h12 : xs.length ≤ 12) {i : Nat} (hi : i < en.length) (h0 : ∀ d, (en.set i (.dat d))[0]? = some (.dat (ti xs))) (h1 : ∀ d, (en.set i (.dat d))[1]? = some (.dat (ti ys))) (r : Bool) :
    lcGo (bName i) kYes (fCall 3 S_lack_of_row (fCons (fVar 0) (fCons (fVar 1) (fCons (fVar i) fNil)))) en ((rowsL xs.length r).map pairD) = some ((lacksL xs ys r).map .int) := by
  unfold lacksL
  rw [List.map_map]
  refine lcGo_all _ fun p hp => ⟨en.set i (.dat (pairD p)), if_pos hi, ?_⟩
  obtain ⟨h2, h3⟩ := rowsL_mem.mp hp
  have h3' : p.2 < xs.length := by cases r <;> simp at h3 <;> omega
  refine call_ev (ds := [ti xs, ti ys, pairD p]) ?_ rfl (v_lack (f := p.1) (c := p.2) h h12 h2 h3')
  simp only [fCons, fVar, fNil, h0, h1, List.getElem?_set_self hi, Option.bind_some, Option.map_some]
theorem v_found (h0 : 0 < xs.length) (h12 : xs.length ≤ 12) (h : ys.length = xs.length) (r : Bool) : S_found_storage [ti xs, ti ys, .bool r] = some (storeD xs ys r) := by
  unfold S_found_storage F_found_storage storeD
  refine run_rt ?_
  have hs : ∀ (l : List Int) {en : En} {f : En → Option PyData}, f en = some (ti l) → fSum f en = some (.int l.sum) := fun l en f hf => one_ev hf (by
    show Option.map _ (intsOf _) = _
    rw [intsOf_map]
    rfl)
  have hc : kAnd (fT (fVar 2)) (fT (fGt (fSum (fVar 1)) (fSum (fVar 0)))) [Slot.dat (ti xs), Slot.dat (ti ys), Slot.dat (.bool r), Slot.no, Slot.no] = some (r && decide (xs.sum < ys.sum)) :=
    and_ev rfl fun _ => fT_ev (two_ev (hs ys rfl) (hs xs rfl) rfl)
  cases hb : (r && decide (xs.sum < ys.sum)) with
  | true =>
    rw [hb] at hc
    exact seq_rt ((if_t hc).trans (ret_ev rfl))
  | false =>
    rw [hb] at hc
    refine (seq_nx (e1 := [Slot.dat (ti xs), Slot.dat (ti ys), Slot.dat (.bool r), Slot.no, Slot.no]) ((if_f hc).trans rfl)).trans ?_
    refine (seq_nx (set_ev (d := .list ((rowsL xs.length r).map pairD)) (call_ev (ds := [.int xs.length, .bool r]) ?_ rfl (v_rows h12 r)) (by simp))).trans ?_
    · show some [PyData.int ((xs.map PyData.int).length : Nat), .bool r] = _
      rw [List.length_map]
    · refine ret_ev (two_ev (a := .int 0) (b := .int (maxL (lacksL xs ys r))) rfl (one_ev (a := .list ((lacksL xs ys r).map .int)) ?_ ?_) rfl)
      · show (fLc _ _ _ _ _ [Slot.dat (ti xs), Slot.dat (ti ys), Slot.dat (.bool r), Slot.dat (.list ((rowsL xs.length r).map pairD)), Slot.no]) = _
        unfold fLc
        show (if ((rowsL xs.length r).map pairD).length ≤ 1000000 then _ else none) = _
        rw [if_pos (by rw [List.length_map]; exact Nat.le_trans (rowsL_len h12 r) (by decide))]
        have := rows_lacks (en := [Slot.dat (ti xs), Slot.dat (ti ys), Slot.dat (.bool r), Slot.dat (.list ((rowsL xs.length r).map pairD)), Slot.no]) h h12 (i := 4) (by simp) (fun _ => rfl) (fun _ => rfl) r
        show Option.map PyData.list (lcGo _ _ _ [Slot.dat (ti xs), Slot.dat (ti ys), Slot.dat (.bool r), Slot.dat (.list ((rowsL xs.length r).map pairD)), Slot.no] _) = _
        rw [this]
        rfl
      · show Option.bind (intsOf _) _ = _
        rw [intsOf_map]
        show (if (lacksL xs ys r).isEmpty = true then none else _) = _
        rw [if_neg (by simpa using lacksL_ne h0 r)]
theorem v_least (hx : Flows xs) (hy : Flows ys) (h0 : 0 < xs.length) (h12 : xs.length ≤ 12) (h : ys.length = xs.length) (r : Bool) : S_least_storage [ti xs, ti ys, .bool r] = some (storeD xs ys r) := by
  unfold S_least_storage F_least_storage
  refine run_rt ((seq_nx (expr_ev (call_ev (ds := [ti xs, ti ys, .bool r]) rfl rfl (v_check_rows hx hy h0 h12 h r)))).trans (ret_ev (call_ev (ds := [ti xs, ti ys, .bool r]) rfl rfl (v_found h0 h12 h r))))
end
end DN
set_option Elab.async false
set_option linter.all false
set_option maxRecDepth 100000
set_option maxHeartbeats 4000000
namespace DN
open PySem PySem.Spec PyProof.Rows L2
theorem pairs_lay : ∀ l : List (Nat × Nat), PyData.canLayAll0 (l.map pairD) = true
  | [] => by simp only [List.map_nil, PyData.canLayAll0]
  | p :: r => by
    simp only [List.map_cons, PyData.canLayAll0, pairs_lay r, pairD, PyData.canLay0, Bool.and_self]
theorem pairs_depth : ∀ l : List (Nat × Nat), PyData.depthAll (l.map pairD) ≤ 1
  | [] => by simp only [List.map_nil, PyData.depthAll]; omega
  | p :: r => by
    have := pairs_depth r
    simp only [List.map_cons, PyData.depthAll, pairD, PyData.depth]
    omega
theorem pairs_shaped (l : List (Nat × Nat)) : SeqAt.shaped (.list (l.map pairD)) = true := by
  unfold SeqAt.shaped
  rw [Bool.and_eq_true]
  refine ⟨by simp only [PyData.canLay0]; exact pairs_lay l, decide_eq_true ?_⟩
  have := pairs_depth l
  simp only [PyData.depth]
  omega
theorem pair_shaped (p : Nat × Nat) : SeqAt.shaped (pairD p) = true := by
  unfold SeqAt.shaped pairD
  simp only [PyData.canLay0, PyData.canLayAll0, PyData.depth, PyData.depthAll]
  rfl
theorem pair_eqv (p q : Nat × Nat) : PyData.eqv (pairD p) (pairD q) = decide (p = q) := by
  unfold pairD
  simp only [PyData.eqv, PyData.eqvAll, Bool.and_true]
  by_cases h : p = q
  · subst h
    simp
  · rw [decide_eq_false h]
    rw [Bool.and_eq_false_iff]
    by_cases h1 : p.1 = q.1
    · right
      have : p.2 ≠ q.2 := fun z => h (Prod.ext h1 z)
      exact beq_eq_false_iff_ne.mpr (fun z => this (by omega))
    · left
      exact beq_eq_false_iff_ne.mpr (fun z => h1 (by omega))
theorem pair_in (p : Nat × Nat) (l : List (Nat × Nat)) : gIn (pairD p) (.list (l.map pairD)) = some (.bool (decide (p ∈ l))) := by
  show (if (SeqAt.shaped (pairD p) && SeqAt.shaped (.list (l.map pairD))) = true then some (PyData.bool ((l.map pairD).any fun z => PyData.eqv z (pairD p))) else none) = _
  rw [if_pos (by rw [pair_shaped, pairs_shaped]; rfl)]
  congr 2
  rw [List.any_map]
  induction l with
  | nil => rfl
  | cons q r ih =>
    rw [List.any_cons, ih]
    show (PyData.eqv (pairD q) (pairD p) || _) = _
    rw [pair_eqv]
    by_cases h1 : q = p
    · simp [h1]
    · have : ¬ p = q := fun z => h1 z.symm
      simp [h1, this]
theorem atI_zero {a : PyData} {l : List PyData} : atI (a :: l) 0 = some a := by
  have := ixN_at (n := (a :: l).length) (j := 0) (by simp)
  unfold atI
  rw [show (0 : Int) = ((0 : Nat) : Int) from rfl, this]
  rfl
theorem cons_ev {en : En} {f : En → Option PyData} {gs : En → Option (List PyData)} {x : PyData} {xs : List PyData} (h1 : f en = some x) (h2 : gs en = some xs) : fCons f gs en = some (x :: xs) := by
  unfold fCons
  rw [h1, h2]
  rfl
theorem var_ev {en : En} {i : Nat} {d : PyData} (e : en[i]? = some (.dat d)) : fVar i en = some d := by
  unfold fVar
  rw [e]
theorem len_ev {en : En} {i : Nat} {xs : List Int} (e : en[i]? = some (.dat (ti xs))) : fLen (fVar i) en = some (.int (xs.length : Int)) := by
  refine one_ev (var_ev e) ?_
  show some (PyData.int ((xs.map PyData.int).length : Nat)) = _
  rw [List.length_map]
section
variable {xs ys : List Int}
theorem lackcall {en : En} {p : Nat × Nat} {i : Nat} (h : ys.length = xs.length) (h12 : xs.length ≤ 12) (h2 : p.1 < xs.length) (h3 : p.2 < xs.length) (e0 : en[0]? = some (.dat (ti xs))) (e1 : en[1]? = some (.dat (ti ys))) (e2 : en[i]? = some (.dat (pairD p))) :
    fCall 3 S_lack_of_row (fCons (fVar 0) (fCons (fVar 1) (fCons (fVar i) fNil))) en = some (.int (lack xs ys p.1 (p.2 + 1))) := by
  refine call_ev (ds := [ti xs, ti ys, pairD p]) ?_ rfl (v_lack (f := p.1) (c := p.2) h h12 h2 h3)
  simp only [fCons, fVar, fNil, e0, e1, e2, Option.bind_some, Option.map_some]
theorem rows_lt {r : Bool} {m : Nat} {p : Nat × Nat} (hp : p ∈ rowsL m r) : p.1 < m ∧ p.2 < m := by
  obtain ⟨h2, h3⟩ := rowsL_mem.mp hp
  exact ⟨h2, by cases r <;> simp at h3 <;> omega⟩
/-- the test whether there is a storage, and not 0 -/
theorem no_store {en : En} {i : Nat} {d : PyData} (e : en[i]? = some (.dat d)) (h : d = .none ∨ d = .int 0) : kOr (fT (fIsN (fVar i) (fLit .none))) (fT (fEq (fVar i) (fLit (.int 0)))) en = some true := by
  have e1 : fVar i en = some d := by unfold fVar; rw [e]
  rcases h with rfl | rfl
  · exact or_ev (b := true) (c := true) (fT_ev (two_ev e1 rfl rfl)) fun z => by cases z
  · exact or_ev (b := false) (c := true) (fT_ev (two_ev e1 rfl rfl)) fun _ => fT_ev (two_ev e1 rfl (eq_int 0 0))
theorem some_store {en : En} {i : Nat} {s : Int} (e : en[i]? = some (.dat (.int s))) (h : s ≠ 0) : kOr (fT (fIsN (fVar i) (fLit .none))) (fT (fEq (fVar i) (fLit (.int 0)))) en = some false := by
  have e1 : fVar i en = some (.int s) := by unfold fVar; rw [e]
  exact or_ev (b := false) (c := false) (fT_ev (two_ev e1 rfl rfl)) fun _ => fT_ev (two_ev e1 rfl ((eq_int s 0).trans (by rw [decide_eq_false h])))
theorem v_paper_none (hx : Flows xs) (hy : Flows ys) (h0 : 0 < xs.length) (h12 : xs.length ≤ 12) (h : ys.length = xs.length) (r : Bool) (hs : storeD xs ys r = .none ∨ storeD xs ys r = .int 0) : S_storage_paper [ti xs, ti ys, .bool r] = some .none := by
  unfold S_storage_paper F_storage_paper
  refine run_rt ((seq_nx (expr_ev (call_ev (ds := [ti xs, ti ys, .bool r]) rfl rfl (v_check_rows hx hy h0 h12 h r)))).trans ?_)
  refine (seq_nx (set_ev (call_ev (ds := [ti xs, ti ys, .bool r]) rfl rfl (v_found h0 h12 h r)) (by simp))).trans ?_
  exact seq_rt ((if_t (no_store (d := storeD xs ys r) rfl hs)).trans (ret_ev rfl))
theorem v_paper_some (hx : Flows xs) (hy : Flows ys) (h0 : 0 < xs.length) (h12 : xs.length ≤ 12) (h : ys.length = xs.length) (r : Bool) (hs : storeD xs ys r = .int (st xs ys r)) (hp : 0 < st xs ys r) : ∃ p ∈ rowsL xs.length r, lack xs ys p.1 (p.2 + 1) = st xs ys r ∧ S_storage_paper [ti xs, ti ys, .bool r] = some (pairD p) := by
  obtain ⟨q, hq, eq⟩ := st_at h0 hp
  have hne : (rowsL xs.length r).filter (fun p => decide (lack xs ys p.1 (p.2 + 1) = st xs ys r)) ≠ [] := fun z => by
    have : q ∈ (rowsL xs.length r).filter (fun p => decide (lack xs ys p.1 (p.2 + 1) = st xs ys r)) := List.mem_filter.mpr ⟨hq, decide_eq_true eq⟩
    rw [z] at this
    cases this
  obtain ⟨p, rest, hpr⟩ := List.exists_cons_of_ne_nil hne
  have hpm : p ∈ (rowsL xs.length r).filter (fun p => decide (lack xs ys p.1 (p.2 + 1) = st xs ys r)) := by rw [hpr]; exact List.mem_cons_self
  obtain ⟨hp1, hp2⟩ := List.mem_filter.mp hpm
  refine ⟨p, hp1, of_decide_eq_true hp2, ?_⟩
  unfold S_storage_paper F_storage_paper
  refine run_rt ((seq_nx (expr_ev (call_ev (ds := [ti xs, ti ys, .bool r]) rfl rfl (v_check_rows hx hy h0 h12 h r)))).trans ?_)
  refine (seq_nx (set_ev ((call_ev (ds := [ti xs, ti ys, .bool r]) rfl rfl (v_found h0 h12 h r)).trans (by rw [hs])) (by simp))).trans ?_
  refine (seq_nx (e1 := [Slot.dat (ti xs), Slot.dat (ti ys), Slot.dat (.bool r), Slot.dat (.int (st xs ys r)), Slot.no, Slot.no]) ((if_f (some_store (s := st xs ys r) rfl (by omega))).trans rfl)).trans ?_
  refine (seq_nx (set_ev (d := .list ((rowsL xs.length r).map pairD)) (call_ev (ds := [.int xs.length, .bool r]) ?_ rfl (v_rows h12 r)) (by simp))).trans ?_
  · show some [PyData.int ((xs.map PyData.int).length : Nat), .bool r] = _
    rw [List.length_map]
  · refine ret_ev (two_ev (a := .list ((p :: rest).map pairD)) (b := .int 0) ?_ rfl atI_zero)
    unfold fLc
    show (if ((rowsL xs.length r).map pairD).length ≤ 1000000 then Option.map PyData.list (lcGo _ _ _ [Slot.dat (ti xs), Slot.dat (ti ys), Slot.dat (.bool r), Slot.dat (.int (st xs ys r)), Slot.dat (.list ((rowsL xs.length r).map pairD)), Slot.no] _) else none) = _
    rw [if_pos (by rw [List.length_map]; exact Nat.le_trans (rowsL_len h12 r) (by decide)), ← hpr]
    have key : lcGo (bName 5) (fT (fEq (fCall 3 S_lack_of_row (fCons (fVar 0) (fCons (fVar 1) (fCons (fVar 5) fNil)))) (fVar 3))) (fVar 5)
        [Slot.dat (ti xs), Slot.dat (ti ys), Slot.dat (.bool r), Slot.dat (.int (st xs ys r)), Slot.dat (.list ((rowsL xs.length r).map pairD)), Slot.no] ((rowsL xs.length r).map pairD) = some (((rowsL xs.length r).filter (fun p => decide (lack xs ys p.1 (p.2 + 1) = st xs ys r))).map pairD) :=
      lcGo_map (rowsL xs.length r) fun p hp => ⟨[Slot.dat (ti xs), Slot.dat (ti ys), Slot.dat (.bool r), Slot.dat (.int (st xs ys r)), Slot.dat (.list ((rowsL xs.length r).map pairD)), Slot.dat (pairD p)], rfl,
        fT_ev (two_ev (lackcall h h12 (rows_lt hp).1 (rows_lt hp).2 rfl rfl rfl) rfl (eq_int _ _)), fun _ => rfl⟩
    rw [key]
    rfl
theorem v_shows_none (hx : Flows xs) (hy : Flows ys) (h0 : 0 < xs.length) (h12 : xs.length ≤ 12) (h : ys.length = xs.length) (r : Bool) (v : PyData) (hs : storeD xs ys r = .none ∨ storeD xs ys r = .int 0) : S_shows_storage [ti xs, ti ys, .bool r, v] = some (.bool (isNone v)) := by
  unfold S_shows_storage F_shows_storage
  refine run_rt ((seq_nx (expr_ev (call_ev (ds := [ti xs, ti ys, .bool r]) rfl rfl (v_check_rows hx hy h0 h12 h r)))).trans ?_)
  refine (seq_nx (set_ev (call_ev (ds := [ti xs, ti ys, .bool r]) rfl rfl (v_found h0 h12 h r)) (by simp))).trans ?_
  exact seq_rt ((if_t (no_store (d := storeD xs ys r) rfl hs)).trans (ret_ev rfl))
theorem v_shows_pair (hx : Flows xs) (hy : Flows ys) (h0 : 0 < xs.length) (h12 : xs.length ≤ 12) (h : ys.length = xs.length) (r : Bool) {p : Nat × Nat} (hs : storeD xs ys r = .int (st xs ys r)) (hp : 0 < st xs ys r) (hr : p ∈ rowsL xs.length r) : S_shows_storage [ti xs, ti ys, .bool r, pairD p] = some (.bool (decide (lack xs ys p.1 (p.2 + 1) = st xs ys r))) := by
  obtain ⟨hr1, hr2⟩ := rows_lt hr
  unfold S_shows_storage F_shows_storage
  refine run_rt ((seq_nx (expr_ev (call_ev (ds := [ti xs, ti ys, .bool r]) rfl rfl (v_check_rows hx hy h0 h12 h r)))).trans ?_)
  refine (seq_nx (set_ev ((call_ev (ds := [ti xs, ti ys, .bool r]) rfl rfl (v_found h0 h12 h r)).trans (by rw [hs])) (by simp))).trans ?_
  refine (seq_nx (e1 := [Slot.dat (ti xs), Slot.dat (ti ys), Slot.dat (.bool r), Slot.dat (pairD p), Slot.dat (.int (st xs ys r))]) ((if_f (some_store (s := st xs ys r) rfl (by omega))).trans rfl)).trans ?_
  have hrow : fT (fCall 3 S_is_row_between (fCons (fVar 3) (fCons (fLit (.int 0)) (fCons (fLen (fVar 0)) fNil)))) [Slot.dat (ti xs), Slot.dat (ti ys), Slot.dat (.bool r), Slot.dat (pairD p), Slot.dat (.int (st xs ys r))] = some true := by
    refine fT_ev (call_ev (ds := [ti [(p.1 : Int), (p.2 : Int) + 1], .int 0, .int xs.length]) ?_ rfl ((v_row _ _ _).trans ?_))
    · exact cons_ev rfl (cons_ev rfl (cons_ev (len_ev rfl) rfl))
    · congr 2
      simp
      omega
  have hin : fT (fIn (fVar 3) (fCall 2 S_rows_of_months (fCons (fLen (fVar 0)) (fCons (fVar 2) fNil)))) [Slot.dat (ti xs), Slot.dat (ti ys), Slot.dat (.bool r), Slot.dat (pairD p), Slot.dat (.int (st xs ys r))] = some true := by
    refine fT_ev (two_ev (a := pairD p) rfl (call_ev (ds := [.int xs.length, .bool r]) ?_ rfl (v_rows h12 r)) ((pair_in p _).trans (by rw [decide_eq_true hr])))
    exact cons_ev (len_ev rfl) rfl
  refine (seq_nx (e1 := [Slot.dat (ti xs), Slot.dat (ti ys), Slot.dat (.bool r), Slot.dat (pairD p), Slot.dat (.int (st xs ys r))]) ((if_f ?_).trans rfl)).trans ?_
  · unfold kNot
    rw [and_ev (c := true) hrow fun _ => hin]
    rfl
  · exact ret_ev (two_ev (lackcall h h12 hr1 hr2 rfl rfl rfl) rfl (eq_int _ _))
end
end DN
set_option Elab.async false
set_option linter.all false
set_option maxRecDepth 100000
set_option maxHeartbeats 4000000
namespace DN
open PySem PySem.Spec PyProof.Rows L2
/-! ### windows of rows twice in a row -/
def Pf (xs ys : List Int) (k : Nat) : Int := ((ys ++ ys).take k).sum - ((xs ++ xs).take k).sum
theorem win_sum (l : List Int) (f c : Nat) : ((l.drop f).take c).sum = (l.take (f + c)).sum - (l.take f).sum := by
  rw [List.take_add, List.sum_append]
  omega
theorem lack_Pf (xs ys : List Int) (f c : Nat) : lack xs ys f c = Pf xs ys (f + c) - Pf xs ys f := by
  unfold lack Pf
  rw [win_sum, win_sum]
  omega
theorem twice_take (l : List Int) {k : Nat} (h : k ≤ l.length) : ((l ++ l).take (l.length + k)).sum = l.sum + (l.take k).sum := by
  rw [List.take_length_add_append, List.sum_append]
theorem once_take (l : List Int) {k : Nat} (h : k ≤ l.length) : (l ++ l).take k = l.take k := List.take_append_of_le_length h
section
variable {xs ys : List Int}
theorem Pf_add (h : ys.length = xs.length) {k : Nat} (hk : k ≤ xs.length) : Pf xs ys (xs.length + k) = (ys.sum - xs.sum) + Pf xs ys k := by
  unfold Pf
  rw [twice_take xs hk, ← h, twice_take ys (by omega), once_take xs hk, once_take ys (by omega)]
  omega
theorem Pf_zero : Pf xs ys 0 = 0 := by
  unfold Pf
  simp
theorem Pf_two (h : ys.length = xs.length) {k : Nat} (hk : k ≤ 2 * xs.length) : Pf (xs ++ xs) (ys ++ ys) k = Pf xs ys k := by
  unfold Pf
  rw [once_take (xs ++ xs) (by rw [List.length_append]; omega), once_take (ys ++ ys) (by rw [List.length_append]; omega)]
abbrev two (xs ys : List Int) : Int := st (xs ++ xs) (ys ++ ys) false
theorem two_ge (h : ys.length = xs.length) {f g : Nat} (hf : f < g) (hg : g ≤ 2 * xs.length) : Pf xs ys g - Pf xs ys f ≤ two xs ys := by
  have hm : (f, g - f - 1) ∈ rowsL (xs ++ xs).length false := rowsL_mem.mpr ⟨by rw [List.length_append]; show f < _; omega, by rw [List.length_append]; show g - f - 1 < (if false = true then _ else xs.length + xs.length - f); rw [if_neg (by decide)]; omega⟩
  have := st_ge (ys := ys ++ ys) hm
  rw [lack_Pf, show f + (g - f - 1 + 1) = g by omega, Pf_two h hg, Pf_two h (by omega)] at this
  exact this
theorem one_le_two (h : ys.length = xs.length) (h0 : 0 < xs.length) : st xs ys false ≤ two xs ys := by
  refine st_le h0 (st_nonneg _ _ _) fun f c hm => ?_
  obtain ⟨h1, h2⟩ := rowsL_mem.mp hm
  have h2' : c < xs.length - f := h2
  have h1' : f < xs.length := h1
  rw [lack_Pf]
  exact two_ge h (by omega) (by omega)
theorem total_le_two (h : ys.length = xs.length) (h0 : 0 < xs.length) : ys.sum - xs.sum ≤ two xs ys := by
  have := two_ge h (f := 0) (g := xs.length) h0 (by omega)
  have h1 := Pf_add h (k := 0) (Nat.zero_le _)
  rw [Nat.add_zero] at h1
  rw [h1, Pf_zero] at this
  omega
theorem true_ge {f c : Nat} (hf : f < xs.length) (hc : 0 < c) (hc2 : c ≤ xs.length) : Pf xs ys (f + c) - Pf xs ys f ≤ st xs ys true := by
  have hm : (f, c - 1) ∈ rowsL xs.length true := rowsL_mem.mpr ⟨hf, by show c - 1 < (if true = true then xs.length else _); rw [if_pos rfl]; omega⟩
  have := st_ge (ys := ys) hm
  rw [lack_Pf, show f + (c - 1 + 1) = f + c by omega] at this
  exact this
theorem two_eq (h : ys.length = xs.length) (h0 : 0 < xs.length) (hT : ys.sum ≤ xs.sum) : st xs ys true = two xs ys := by
  refine Int.le_antisymm (st_le h0 (st_nonneg _ _ _) fun f c hm => ?_) (st_le (by rw [List.length_append]; omega) (st_nonneg _ _ _) fun f c hm => ?_)
  · obtain ⟨h1, h2⟩ := rowsL_mem.mp hm
    have h1' : f < xs.length := h1
    have h2' : c < xs.length := h2
    rw [lack_Pf]
    exact two_ge h (by omega) (by omega)
  · obtain ⟨h1, h2⟩ := rowsL_mem.mp hm
    rw [List.length_append] at h1 h2
    have h1' : f < xs.length + xs.length := h1
    have h2' : c < xs.length + xs.length - f := h2
    rw [lack_Pf, Pf_two h (by omega), Pf_two h (by omega)]
    by_cases hf : xs.length ≤ f
    · have e1 := Pf_add h (k := f - xs.length) (by omega)
      have e2 := Pf_add h (k := f + (c + 1) - xs.length) (by omega)
      rw [show xs.length + (f - xs.length) = f by omega] at e1
      rw [show xs.length + (f + (c + 1) - xs.length) = f + (c + 1) by omega] at e2
      have := true_ge (xs := xs) (ys := ys) (f := f - xs.length) (c := c + 1) (by omega) (by omega) (by omega)
      rw [show f - xs.length + (c + 1) = f + (c + 1) - xs.length by omega] at this
      omega
    · by_cases hc : c + 1 ≤ xs.length
      · exact true_ge (by omega) (by omega) hc
      · have e2 := Pf_add h (k := f + (c + 1) - xs.length) (by omega)
        rw [show xs.length + (f + (c + 1) - xs.length) = f + (c + 1) by omega] at e2
        have := true_ge (xs := xs) (ys := ys) (f := f) (c := c + 1 - xs.length) (by omega) (by omega) (by omega)
        rw [show f + (c + 1 - xs.length) = f + (c + 1) - xs.length by omega] at this
        omega
theorem one_le_true (h0 : 0 < xs.length) : st xs ys false ≤ st xs ys true := by
  refine st_le h0 (st_nonneg _ _ _) fun f c hm => ?_
  obtain ⟨h1, h2⟩ := rowsL_mem.mp hm
  have h1' : f < xs.length := h1
  have h2' : c < xs.length - f := h2
  exact st_ge (rowsL_mem.mpr ⟨h1', show c < xs.length by omega⟩)
/-! wetter inflows -/
theorem take_sum_le {g : Int → Int} (hg : ∀ x : Int, x ≤ 1000 → x ≤ g x) : ∀ (l : List Int), (∀ x ∈ l, x ≤ 1000) → l.sum ≤ (l.map g).sum
  | [], _ => Int.le_refl _
  | x :: r, h => by
    rw [List.map_cons, List.sum_cons, List.sum_cons]
    exact Int.add_le_add (hg x (h x List.mem_cons_self)) (take_sum_le hg r fun y hy => h y (List.mem_cons_of_mem _ hy))
theorem wet_le {g : Int → Int} (hg : ∀ x : Int, x ≤ 1000 → x ≤ g x) (hx : Flows xs) (h0 : 0 < xs.length) (r : Bool) : st (xs.map g) ys r ≤ st xs ys r := by
  refine st_le (by rw [List.length_map]; exact h0) (st_nonneg _ _ _) fun f c hm => ?_
  rw [List.length_map] at hm
  refine Int.le_trans ?_ (st_ge (ys := ys) hm)
  unfold lack
  rw [← List.map_append, ← List.map_drop, ← List.map_take]
  have := take_sum_le hg (((xs ++ xs).drop f).take (c + 1)) fun x hxm => by
    have h1 := List.mem_of_mem_drop (List.mem_of_mem_take hxm)
    rcases List.mem_append.mp h1 with h | h <;> exact (hx x h).2
  omega
theorem same_zero (h0 : 0 < xs.length) (r : Bool) : st xs xs r = 0 := by
  refine Int.le_antisymm (st_le h0 (Int.le_refl _) fun f c _ => ?_) (st_nonneg _ _ _)
  unfold lack
  omega
theorem flows_sum : ∀ {l : List Int}, (∀ x ∈ l, 0 ≤ x) → 0 ≤ l.sum
  | [], _ => Int.le_refl _
  | x :: r, h => by
    rw [List.sum_cons]
    exact Int.add_nonneg (h x List.mem_cons_self) (flows_sum fun y hy => h y (List.mem_cons_of_mem _ hy))
theorem zeros_sum : ∀ {l : List Int}, (∀ x ∈ l, x = 0) → l.sum = 0
  | [], _ => rfl
  | x :: r, h => by
    rw [List.sum_cons, h x List.mem_cons_self, zeros_sum fun y hy => h y (List.mem_cons_of_mem _ hy)]
    rfl
theorem none_zero (hx : Flows xs) {zs : List Int} (hz : ∀ z ∈ zs, z = 0) (h0 : 0 < xs.length) (r : Bool) : st xs zs r = 0 := by
  refine Int.le_antisymm (st_le h0 (Int.le_refl _) fun f c _ => ?_) (st_nonneg _ _ _)
  unfold lack
  have h1 := flows_sum (l := ((xs ++ xs).drop f).take (c + 1)) fun x hxm => by
    have h1 := List.mem_of_mem_drop (List.mem_of_mem_take hxm)
    rcases List.mem_append.mp h1 with h | h <;> exact (hx x h).1
  have h2 := zeros_sum (l := ((zs ++ zs).drop f).take (c + 1)) fun x hxm => by
    have h1 := List.mem_of_mem_drop (List.mem_of_mem_take hxm)
    rcases List.mem_append.mp h1 with h | h <;> exact hz x h
  omega
end
end DN
set_option Elab.async false
set_option linter.all false
set_option maxRecDepth 100000
set_option maxHeartbeats 4000000
namespace DN
open PySem PySem.Spec PyProof.Rows L2
/-! ### the end -/
section
variable {K : PySem.W.Frag} {x qual : Str} {st : Stmt} {f : Addr} {fd : FuncData}
theorem df_of (F : FunD K x qual (defArgs st) (defBody st) (defScope st) [] [] f fd) : ∃ cdv, DF K x qual st f fd cdv := by
  obtain ⟨oc, od, dV, kV, doc, pm, an, cdv, ct, osl, rfl, lk, hcd, hD, _⟩ := F.ex
  rcases hD with ⟨_, rfl⟩ | ⟨e, _⟩
  · exact ⟨cdv, df_mk lk hcd F.kp⟩
  · exact (e rfl).elim
theorem df_gen (F : FunD K x qual (defArgs st) (defBody st) (defScope st) [] [] (He.ga K x) fd) : DF K x qual st (He.ga K x) fd (.ref (He.codeOf K (x, none))) := by
  obtain ⟨oc, od, dV, kV, doc, pm, an, cdv, ct, osl, rfl, lk, hcd, hD, _⟩ := F.ex
  obtain ⟨c, rfl⟩ := He.codeIn_ref hcd
  rcases hD with ⟨_, rfl⟩ | ⟨e, _⟩
  · have e1 : He.codeOf K (x, none) = c := He.codeOf_eq (p := (x, none)) lk rfl
    rw [e1]
    exact df_mk lk hcd F.kp
  · exact (e rfl).elim
end
structure TfOk (h : Heap) (K : PySem.W.Frag) (cs : List (Addr × Addr)) : Prop where
  empty : ∀ p ∈ cs, h.get? p.2 = some { cls := .none, data := .fields #[] }
  out : ∀ p ∈ cs, K.lookup p.2 = none
  hd : ∀ p ∈ cs, PySem.W.CodeHd h p.1 p.2
theorem tf_ok {fa : List He.Fa} {fn : List He.DefD} {ts : List He.Tab} {tf : List He.Defn} {ex : PySem.W.Frag → Bool} {w : World} {h : Heap} {K : PySem.W.Frag} (X : K.In h) (c : He.SaysX fa fn ts tf ex w h K) : TfOk h K (tf.map (He.cT K)) :=
  ⟨fun p hp => by obtain ⟨a, ha, rfl⟩ := List.mem_map.mp hp; exact c.empty a ha, fun p hp => by obtain ⟨a, ha, rfl⟩ := List.mem_map.mp hp; exact c.out a ha, fun p hp => by obtain ⟨a, ha, rfl⟩ := List.mem_map.mp hp; exact PySem.W.codeHd_of_K X (c.hd a ha)⟩
theorem end_at {l : PySem.W.OpenLaw} {w : World} {K : PySem.W.Frag} {h : Heap} {mg : Str → Option Value} {fa : Addr} {k : Nat} {x : Str} {fd : FuncData} {cs : List (Addr × Addr)} (T : TfOk h K cs)
    (hb : ∀ (s : Shared) (us : List Value), us.length = [x].length → BindsTo s fd ⟨us, []⟩ ([x].zip us))
    (hF : ∀ base : Heap, K.In base → base.Ns mainGlobals mg → (∀ p ∈ cs, LamX.TabB base mg p.1 p.2) → FnOk l.prog w K mg base CX0 k fa fd [x] (spLaw K (cs.map (·.2)))) : LamX.LawAtS l w K CX0 k 63 x mg fa h :=
  ⟨fd, cs, spLaw K (cs.map (·.2)), T.empty, T.out, T.hd, fun s u => hb s [u] rfl, fun H a ns hl _ hT hS => ⟨a, ns, rfl, hS, hl, fun P hP => by
    obtain ⟨p, hp, rfl⟩ := List.mem_map.mp hP
    exact ⟨#[], hT p hp, by simp [TriplesOk]⟩, fun _ => rfl⟩, hF⟩
end DN
set_option Elab.async false
set_option linter.all false
set_option maxRecDepth 100000
set_option maxHeartbeats 4000000
namespace DN
open PySem PySem.Spec PyProof.Rows L2
/-! ### ratios -/
/-- no greater than the products that are built of inputs -/
def Small (a : Int) : Prop := a.natAbs < 2 ^ 200
theorem small_log {a : Int} (h : Small a) : a.natAbs.log2 < 200 := log2_le h (by decide)
theorem times_ev {f g : En → Option PyData} {en : En} {a b : Int} (h1 : f en = some (.int a)) (h2 : g en = some (.int b)) (ha : Small a) (hb : Small b) : fTimes f g en = some (.int (a * b)) := by
  refine two_ev h1 h2 ?_
  have c : cMul a b = true := by
    unfold cMul
    have := small_log ha
    have := small_log hb
    exact decide_eq_true (by omega)
  show (if cMul a b = true then some (PyData.int (a * b)) else none) = _
  rw [if_pos c]
theorem div_ev {f g : En → Option PyData} {en : En} {a b : Int} (h1 : f en = some (.int a)) (h2 : g en = some (.int b)) (hb : 0 < b) (hs : Small b) : fDiv f g en = some (.int (a / b)) := divA h1 h2 hb (by have := small_log hs; omega)
def ratD (p : Int × Int) : PyData := .tuple [.int p.1, .int p.2]
def rat (a b : Int) : Int × Int := (a / (Nat.gcd a.natAbs b.natAbs : Nat), b / (Nat.gcd a.natAbs b.natAbs : Nat))
def S_ratio := runD 3 F_ratio
def S_is_less := runD 2 F_is_less
def S_least_ratio := runD 3 (F_least_ratio S_is_less)
theorem gcd_pos {a b : Int} (hb : 0 < b) : 0 < Nat.gcd a.natAbs b.natAbs := Nat.gcd_pos_of_pos_right _ (by omega)
theorem v_ratio {a b : Int} (hb : 0 < b) (hs : Small b) : S_ratio [.int a, .int b] = some (ratD (rat a b)) := by
  have hg := gcd_pos (a := a) hb
  have hgs : Small ((Nat.gcd a.natAbs b.natAbs : Nat) : Int) := by
    unfold Small at hs ⊢
    rw [Int.natAbs_natCast]
    exact Nat.lt_of_le_of_lt (Nat.le_of_dvd (by omega) (Nat.gcd_dvd_right _ _)) hs
  unfold S_ratio F_ratio
  refine run_rt ((seq_nx (set_ev (d := .int ((Nat.gcd a.natAbs b.natAbs : Nat) : Int)) (two_ev (a := .int a) (b := .int b) rfl rfl rfl) (by simp))).trans (ret_ev ?_))
  have e1 : fDiv (fVar 0) (fVar 2) [.dat (.int a), .dat (.int b), .dat (.int ((Nat.gcd a.natAbs b.natAbs : Nat) : Int))] = some (.int (a / ((Nat.gcd a.natAbs b.natAbs : Nat) : Int))) := div_ev rfl rfl (by omega) hgs
  have e2 : fDiv (fVar 1) (fVar 2) [.dat (.int a), .dat (.int b), .dat (.int ((Nat.gcd a.natAbs b.natAbs : Nat) : Int))] = some (.int (b / ((Nat.gcd a.natAbs b.natAbs : Nat) : Int))) := div_ev rfl rfl (by omega) hgs
  have e3 : fCons (fDiv (fVar 0) (fVar 2)) (fCons (fDiv (fVar 1) (fVar 2)) fNil) [.dat (.int a), .dat (.int b), .dat (.int ((Nat.gcd a.natAbs b.natAbs : Nat) : Int))] = some [.int (a / ((Nat.gcd a.natAbs b.natAbs : Nat) : Int)), .int (b / ((Nat.gcd a.natAbs b.natAbs : Nat) : Int))] := cons_ev e1 (cons_ev e2 rfl)
  show fTup _ [.dat (.int a), .dat (.int b), .dat (.int ((Nat.gcd a.natAbs b.natAbs : Nat) : Int))] = _
  unfold fTup
  rw [e3]
  rfl
/-- what a ratio is: the top over the bottom -/
theorem rat_mul {a b : Int} (hb : 0 < b) : (rat a b).1 * b = a * (rat a b).2 := by
  have hg := gcd_pos (a := a) hb
  unfold rat
  have d1 : ((Nat.gcd a.natAbs b.natAbs : Nat) : Int) ∣ a := Int.ofNat_dvd_left.mpr (Nat.gcd_dvd_left _ _)
  have d2 : ((Nat.gcd a.natAbs b.natAbs : Nat) : Int) ∣ b := Int.ofNat_dvd_left.mpr (Nat.gcd_dvd_right _ _)
  obtain ⟨k, hk⟩ := d1
  obtain ⟨l, hl⟩ := d2
  have g0 : ((Nat.gcd a.natAbs b.natAbs : Nat) : Int) ≠ 0 := by omega
  generalize ((Nat.gcd a.natAbs b.natAbs : Nat) : Int) = g at hk hl g0 ⊢
  subst hk hl
  show g * k / g * (g * l) = g * k * (g * l / g)
  rw [Int.mul_ediv_cancel_left _ g0, Int.mul_ediv_cancel_left _ g0]
  rw [Int.mul_left_comm, Int.mul_assoc]
theorem rat_pos {a b : Int} (hb : 0 < b) : 0 < (rat a b).2 := by
  have hg := gcd_pos (a := a) hb
  have d2 : ((Nat.gcd a.natAbs b.natAbs : Nat) : Int) ∣ b := Int.ofNat_dvd_left.mpr (Nat.gcd_dvd_right _ _)
  unfold rat
  obtain ⟨l, hl⟩ := d2
  have g0 : (0 : Int) < ((Nat.gcd a.natAbs b.natAbs : Nat) : Int) := by omega
  show 0 < b / ((Nat.gcd a.natAbs b.natAbs : Nat) : Int)
  generalize ((Nat.gcd a.natAbs b.natAbs : Nat) : Int) = g at hl g0 ⊢
  subst hl
  rw [Int.mul_ediv_cancel_left _ (by omega)]
  by_cases h : 0 < l
  · exact h
  · have := Int.mul_le_mul_of_nonneg_left (show l ≤ 0 by omega) (Int.le_of_lt g0)
    rw [Int.mul_zero] at this
    omega
def lessR (p q : Int × Int) : Bool := decide (p.1 * q.2 < q.1 * p.2)
theorem v_is_less {p q : Int × Int} (h1 : Small p.1) (h2 : Small p.2) (h3 : Small q.1) (h4 : Small q.2) : S_is_less [ratD p, ratD q] = some (.bool (lessR p q)) := by
  unfold S_is_less F_is_less
  refine run_rt (ret_ev (two_ev (a := .int (p.1 * q.2)) (b := .int (q.1 * p.2)) (times_ev (two_ev (a := ratD p) (b := .int 0) rfl rfl rfl) (two_ev (a := ratD q) (b := .int 1) rfl rfl rfl) h1 h4) (times_ev (two_ev (a := ratD q) (b := .int 0) rfl rfl rfl) (two_ev (a := ratD p) (b := .int 1) rfl rfl rfl) h3 h2) rfl))
def leastR : Int × Int → List (Int × Int) → Int × Int
  | a, [] => a
  | a, x :: r => if lessR x a = true then leastR x r else leastR a r
theorem leastR_mem : ∀ (l : List (Int × Int)) (a : Int × Int), leastR a l ∈ a :: l
  | [], a => List.mem_cons_self
  | x :: r, a => by
    unfold leastR
    split
    · exact List.mem_cons_of_mem _ (leastR_mem r x)
    · rcases List.mem_cons.mp (leastR_mem r a) with e | e
      · rw [e]; exact List.mem_cons_self
      · exact List.mem_cons_of_mem _ (List.mem_cons_of_mem _ e)
/-- all parts small, bottoms positive -/
def Rats (l : List (Int × Int)) : Prop := ∀ p ∈ l, 0 < p.2 ∧ Small p.1 ∧ Small p.2
theorem less_trans {p q r : Int × Int} (hp : 0 < p.2) (hq : 0 < q.2) (hr : 0 < r.2) (h1 : p.1 * q.2 ≤ q.1 * p.2) (h2 : q.1 * r.2 ≤ r.1 * q.2) : p.1 * r.2 ≤ r.1 * p.2 := by
  have a1 : p.1 * q.2 * r.2 ≤ q.1 * p.2 * r.2 := Int.mul_le_mul_of_nonneg_right h1 (Int.le_of_lt hr)
  have a2 : q.1 * r.2 * p.2 ≤ r.1 * q.2 * p.2 := Int.mul_le_mul_of_nonneg_right h2 (Int.le_of_lt hp)
  have e1 : q.1 * p.2 * r.2 = q.1 * r.2 * p.2 := by rw [Int.mul_assoc, Int.mul_comm p.2, ← Int.mul_assoc]
  have e2 : p.1 * q.2 * r.2 = p.1 * r.2 * q.2 := by rw [Int.mul_assoc, Int.mul_comm q.2, ← Int.mul_assoc]
  have e3 : r.1 * q.2 * p.2 = r.1 * p.2 * q.2 := by rw [Int.mul_assoc, Int.mul_comm q.2, ← Int.mul_assoc]
  exact Int.le_of_mul_le_mul_right (by omega) hq
theorem leastR_le : ∀ (l : List (Int × Int)) (a : Int × Int), Rats (a :: l) → ∀ q ∈ a :: l, (leastR a l).1 * q.2 ≤ q.1 * (leastR a l).2
  | [], a, _, q, hq => by
    rcases List.mem_cons.mp hq with e | e
    · rw [e]; exact Int.le_refl _
    · cases e
  | x :: r, a, h, q, hq => by
    have ha := h a List.mem_cons_self
    have hx := h x (List.mem_cons_of_mem _ List.mem_cons_self)
    have h1 : Rats (x :: r) := fun p hp => h p (List.mem_cons_of_mem _ hp)
    have h2 : Rats (a :: r) := fun p hp => (List.mem_cons.mp hp).elim (fun e => e ▸ ha) fun e => h p (List.mem_cons_of_mem _ (List.mem_cons_of_mem _ e))
    unfold leastR
    by_cases hl : lessR x a = true
    · rw [if_pos hl]
      have hlt : x.1 * a.2 < a.1 * x.2 := of_decide_eq_true hl
      rcases List.mem_cons.mp hq with e | e
      · subst e
        have m := h1 _ (leastR_mem r x)
        exact less_trans m.1 hx.1 ha.1 (leastR_le r x h1 x List.mem_cons_self) (Int.le_of_lt hlt)
      · exact leastR_le r x h1 q e
    · rw [if_neg hl]
      have hge : a.1 * x.2 ≤ x.1 * a.2 := by
        have : ¬ x.1 * a.2 < a.1 * x.2 := fun z => hl (decide_eq_true z)
        omega
      rcases List.mem_cons.mp hq with e | e
      · rw [e]
        exact leastR_le r a h2 a List.mem_cons_self
      · rcases List.mem_cons.mp e with e | e
        · subst e
          have m := h2 _ (leastR_mem r a)
          exact less_trans m.1 ha.1 hx.1 (leastR_le r a h2 a List.mem_cons_self) hge
        · exact leastR_le r a h2 q (List.mem_cons_of_mem _ e)
end DN
set_option Elab.async false
set_option linter.all false
set_option maxRecDepth 100000
set_option maxHeartbeats 4000000
namespace DN
open PySem PySem.Spec PyProof.Rows L2
/-! ### dams, windows, yields -/
theorem forGo_step {b : PyData → En → Option En} {F : En → Option Fl} {d : PyData} {ds : List PyData} {en e1 e2 : En} (hb : b d en = some e1) (hF : F e1 = some (.nx e2)) : forGo b F (d :: ds) en = forGo b F ds e2 := by
  show (b d en).bind _ = _
  rw [hb, Option.bind_some, hF]
theorem for_ev {it : En → Option (List PyData)} {b : PyData → En → Option En} {F : En → Option Fl} {en : En} {ds : List PyData} {r : Option Fl} (h : it en = some ds) (e : forGo b F ds en = r) : sFor it b F en = r := by
  unfold sFor
  rw [h]
  exact e
theorem seqit_ev {f : En → Option PyData} {en : En} {d : PyData} {ds : List PyData} (h : f en = some d) (e : items d = some ds) : iSeq f en = some ds := by
  unfold iSeq
  rw [h]
  exact e
theorem least_for {x : PyData} : ∀ (l : List (Int × Int)) (a : Int × Int) (s : Slot), Rats (a :: l) → ∃ s', forGo (bName 2) (sIf (fT (fCall 2 S_is_less (fCons (fVar 2) (fCons (fVar 1) fNil)))) (sSet 1 (fVar 2)) sNil) (l.map ratD) [.dat x, .dat (ratD a), s] = some (.nx [.dat x, .dat (ratD (leastR a l)), s']) := by
  intro l
  induction l with
  | nil => exact fun a s _ => ⟨s, rfl⟩
  | cons y r ih =>
    intro a s h
    have ha := h a List.mem_cons_self
    have hy := h y (List.mem_cons_of_mem _ List.mem_cons_self)
    have hb : bName 2 (ratD y) [.dat x, .dat (ratD a), s] = some [.dat x, .dat (ratD a), .dat (ratD y)] := rfl
    have ht : fT (fCall 2 S_is_less (fCons (fVar 2) (fCons (fVar 1) fNil))) [.dat x, .dat (ratD a), .dat (ratD y)] = some (lessR y a) := fT_ev (call_ev (ds := [ratD y, ratD a]) rfl rfl (v_is_less hy.2.1 hy.2.2 ha.2.1 ha.2.2))
    unfold leastR
    rw [List.map_cons]
    by_cases hl : lessR y a = true
    · rw [hl] at ht
      rw [if_pos hl, forGo_step hb ((if_t ht).trans (set_ev (d := ratD y) rfl (by simp)))]
      exact ih y _ fun p hp => h p (List.mem_cons_of_mem _ hp)
    · have hl' : lessR y a = false := by
        cases e : lessR y a with
        | true => exact absurd e hl
        | false => rfl
      rw [hl'] at ht
      rw [if_neg hl, forGo_step hb ((if_f ht).trans rfl)]
      exact ih a _ fun p hp => (List.mem_cons.mp hp).elim (fun e => e ▸ ha) fun e => h p (List.mem_cons_of_mem _ (List.mem_cons_of_mem _ e))
theorem v_least_ratio {a : Int × Int} {l : List (Int × Int)} (h : Rats (a :: l)) : S_least_ratio [.list ((a :: l).map ratD)] = some (ratD (leastR a (a :: l))) := by
  unfold S_least_ratio F_least_ratio
  obtain ⟨s', e⟩ := least_for (x := .list ((a :: l).map ratD)) (a :: l) a .no fun p hp => (List.mem_cons.mp hp).elim (fun z => z ▸ h a List.mem_cons_self) (h p)
  refine run_rt ((seq_nx (set_ev (d := ratD a) (two_ev (a := .list ((a :: l).map ratD)) (b := .int 0) rfl rfl atI_zero) (by simp))).trans ?_)
  exact (seq_nx (for_ev (seqit_ev (d := .list ((a :: l).map ratD)) rfl rfl) e)).trans (ret_ev rfl)
/-! windows -/
def winD (p : Nat × Nat) : PyData := .tuple [.int (p.1 : Int), .int (p.2 : Int)]
def winL (m : Nat) : List (Nat × Nat) := (List.range m).flatMap fun f => (List.range (m - f)).map fun k => (f, f + k)
theorem winL_mem {m : Nat} {p : Nat × Nat} : p ∈ winL m ↔ p.1 ≤ p.2 ∧ p.2 < m := by
  unfold winL
  simp only [List.mem_flatMap, List.mem_range, List.mem_map]
  constructor
  · rintro ⟨f, hf, k, hk, rfl⟩
    exact ⟨by show f ≤ f + k; omega, by show f + k < m; omega⟩
  · rintro ⟨h1, h2⟩
    exact ⟨p.1, by omega, p.2 - p.1, by omega, Prod.ext rfl (by show p.1 + (p.2 - p.1) = p.2; omega)⟩
theorem winL_len {m : Nat} (hm : m ≤ 12) : (winL m).length ≤ 144 := by
  refine Nat.le_trans (flatMap_len (k := 12) _ fun f hf => ?_) ?_
  · rw [List.length_map, List.length_range]
    omega
  · rw [List.length_range]
    omega
def S_windows := runD 3 F_windows
def S_in_window := runD 4 F_in_window
theorem v_windows {m : Nat} (hm : m ≤ 12) : S_windows [.int m] = some (.list ((winL m).map winD)) := by
  unfold S_windows F_windows
  refine run_rt (ret_ev ?_)
  show fLc2 _ _ _ _ _ _ _ _ _ [.dat (.int (m : Int)), .no, .no] = _
  have h1 : iRange1 (fVar 0) [.dat (.int (m : Int)), .no, .no] = some ((List.range m).map fun (i : Nat) => PyData.int (0 + (i : Int))) := (range1_ev (a := (m : Int)) rfl (by omega)).trans (by rw [Int.toNat_natCast]; rfl)
  have h2 : lc2Go (bName 1) kYes (iRange2 (fVar 1) (fVar 0)) (bName 2) kYes (fTup (fCons (fVar 1) (fCons (fVar 2) fNil))) [2] [.dat (.int (m : Int)), .no, .no] ((List.range m).map fun (i : Nat) => PyData.int (0 + (i : Int))) = some ((winL m).map winD) := by
    unfold winL
    rw [List.map_flatMap]
    refine lc2Go_map (h := fun i : Nat => PyData.int (0 + (i : Int))) (List.range m) fun f hf => ?_
    have hf' := List.mem_range.mp hf
    refine ⟨[.dat (.int (m : Int)), .dat (.int (0 + (f : Int))), .no], rangeD (0 + (f : Int)) (m - f), rfl, rfl, ?_, ?_⟩
    · refine (range2_ev (a := 0 + (f : Int)) (b := (m : Int)) rfl rfl (by omega) (by omega)).trans ?_
      rw [show ((m : Int) - (0 + (f : Int))).toNat = m - f by omega]
    · unfold rangeD
      rw [List.map_map]
      refine lcGo_all _ fun k hk => ⟨[.dat (.int (m : Int)), .dat (.int (0 + (f : Int))), .dat (.int (0 + (f : Int) + (k : Int)))], rfl, ?_⟩
      show some (PyData.tuple [.int (0 + (f : Int)), .int (0 + (f : Int) + (k : Int))]) = some (winD (f, f + k))
      rw [Int.zero_add]
      unfold winD
      rw [show ((f + k : Nat) : Int) = (f : Int) + (k : Int) by omega]
  unfold fLc2
  rw [h1, Option.bind_some]
  have h3 : wipeE [Slot.dat (.int (m : Int)), Slot.no, Slot.no] [1, 2] = [Slot.dat (.int (m : Int)), Slot.no, Slot.no] := rfl
  rw [h3, h2, Option.bind_some, if_pos (by rw [List.length_map]; exact Nat.le_trans (winL_len hm) (by decide))]
def cutW (xs : List Int) (p : Nat × Nat) : List Int := (xs.drop p.1).take (p.2 + 1 - p.1)
theorem v_in_window {xs : List Int} {p : Nat × Nat} (h1 : p.1 ≤ p.2) (h2 : p.2 < xs.length) : S_in_window [ti xs, winD p] = some (ti (cutW xs p)) := by
  unfold S_in_window F_in_window
  refine run_rt ((seq_nx (e1 := [.dat (ti xs), .dat (winD p), .dat (.int (p.1 : Int)), .dat (.int (p.2 : Int))]) (bind_ev (d := winD p) rfl rfl)).trans (ret_ev ?_))
  show some (PyData.tuple (cutD (xs.map .int) (some (p.1 : Int)) (some ((p.2 : Int) + 1)))) = _
  rw [show (p.2 : Int) + 1 = (p.1 : Int) + ((p.2 + 1 - p.1 : Nat) : Int) by omega, cut_ints (by omega)]
  rfl
def damD (C S E : Int) (xs : List Int) : PyData := .tuple [.int C, .int S, .int E, ti xs]
def S_most_water := runD 7 (F_most_water S_in_window)
def S_spare_water := runD 6 (F_spare_water S_most_water)
def S_window_yield := runD 4 (F_window_yield S_ratio S_spare_water)
def water (C S : Int) (xs : List Int) (p : Nat × Nat) : Int := (if p.1 = 0 then S else C) + (cutW xs p).sum
def spare (C S E : Int) (xs : List Int) (p : Nat × Nat) : Int := if p.2 + 1 = xs.length then water C S xs p - E else water C S xs p
section
variable {C S E : Int} {xs : List Int} {p : Nat × Nat}
theorem v_most_water (h1 : p.1 ≤ p.2) (h2 : p.2 < xs.length) : S_most_water [damD C S E xs, winD p] = some (.int (water C S xs p)) := by
  unfold S_most_water F_most_water
  refine run_rt ((seq_nx (e1 := [.dat (damD C S E xs), .dat (winD p), .dat (.int C), .dat (.int S), .dat (.int E), .dat (ti xs), .no]) (bind_ev (d := damD C S E xs) rfl rfl)).trans ?_)
  have hif : fIf (fT (fEq (fIx (fVar 1) (fLit (.int 0))) (fLit (.int 0)))) (fVar 3) (fVar 2) [.dat (damD C S E xs), .dat (winD p), .dat (.int C), .dat (.int S), .dat (.int E), .dat (ti xs), .no] = some (.int (if p.1 = 0 then S else C)) := by
    unfold fIf
    have ht : fT (fEq (fIx (fVar 1) (fLit (.int 0))) (fLit (.int 0))) [.dat (damD C S E xs), .dat (winD p), .dat (.int C), .dat (.int S), .dat (.int E), .dat (ti xs), .no] = some (decide ((p.1 : Int) = 0)) := fT_ev (two_ev (a := .int (p.1 : Int)) (b := .int 0) (two_ev (a := winD p) (b := .int 0) rfl rfl rfl) rfl (eq_int _ _))
    rw [ht]
    by_cases h0 : p.1 = 0
    · rw [decide_eq_true (by omega), if_pos h0]
      rfl
    · rw [decide_eq_false (by omega), if_neg h0]
      rfl
  refine (seq_nx (set_ev hif (by simp))).trans (ret_ev (two_ev (a := .int (if p.1 = 0 then S else C)) (b := .int (cutW xs p).sum) rfl (one_ev (a := ti (cutW xs p)) (call_ev (ds := [ti xs, winD p]) rfl rfl (v_in_window h1 h2)) ?_) rfl))
  show Option.map _ (intsOf _) = _
  rw [intsOf_map]
  rfl
theorem v_spare_water (h1 : p.1 ≤ p.2) (h2 : p.2 < xs.length) : S_spare_water [damD C S E xs, winD p] = some (.int (spare C S E xs p)) := by
  unfold S_spare_water F_spare_water
  refine run_rt ((seq_nx (e1 := [.dat (damD C S E xs), .dat (winD p), .dat (.int S), .dat (.int E), .dat (ti xs), .no]) (bind_ev (d := damD C S E xs) rfl rfl)).trans ?_)
  refine (seq_nx (set_ev (call_ev (ds := [damD C S E xs, winD p]) rfl rfl (v_most_water h1 h2)) (by simp))).trans (ret_ev ?_)
  show fIf _ _ _ [.dat (damD C S E xs), .dat (winD p), .dat (.int S), .dat (.int E), .dat (ti xs), .dat (.int (water C S xs p))] = _
  have ht : fT (fEq (fIx (fVar 1) (fLit (.int 1))) (fSub (fLen (fVar 4)) (fLit (.int 1)))) [.dat (damD C S E xs), .dat (winD p), .dat (.int S), .dat (.int E), .dat (ti xs), .dat (.int (water C S xs p))] = some (decide ((p.2 : Int) = (xs.length : Int) - 1)) :=
    fT_ev (two_ev (a := .int (p.2 : Int)) (b := .int ((xs.length : Int) - 1)) (two_ev (a := winD p) (b := .int 1) rfl rfl rfl) (subA (len_ev rfl) rfl) (eq_int _ _))
  unfold fIf spare
  rw [ht]
  by_cases h0 : p.2 + 1 = xs.length
  · rw [decide_eq_true (by omega), if_pos h0]
    rfl
  · rw [decide_eq_false (by omega), if_neg h0]
    rfl
theorem v_window_yield (h1 : p.1 ≤ p.2) (h2 : p.2 < xs.length) (h12 : xs.length ≤ 12) : S_window_yield [damD C S E xs, winD p] = some (ratD (rat (spare C S E xs p) ((p.2 : Int) - (p.1 : Int) + 1))) := by
  unfold S_window_yield F_window_yield
  refine run_rt ((seq_nx (e1 := [.dat (damD C S E xs), .dat (winD p), .dat (.int (p.1 : Int)), .dat (.int (p.2 : Int))]) (bind_ev (d := winD p) rfl rfl)).trans (ret_ev ?_))
  refine call_ev (ds := [.int (spare C S E xs p), .int ((p.2 : Int) - (p.1 : Int) + 1)]) (cons_ev (call_ev (ds := [damD C S E xs, winD p]) rfl rfl (v_spare_water h1 h2)) (cons_ev (plusA (subA rfl rfl) rfl) rfl)) rfl (v_ratio (by omega) ?_)
  unfold Small
  have : ((p.2 : Int) - (p.1 : Int) + 1).natAbs ≤ 12 := by omega
  exact Nat.lt_of_le_of_lt this (by decide)
end
end DN
set_option Elab.async false
set_option linter.all false
set_option maxRecDepth 100000
set_option maxHeartbeats 4000000
namespace DN
open PySem PySem.Spec PyProof.Rows L2
/-! ### firm yields -/
theorem rat_rats {a b : Int} (hb : 0 < b) (ha : Small a) (hs : Small b) : 0 < (rat a b).2 ∧ Small (rat a b).1 ∧ Small (rat a b).2 := by
  have part : ∀ z : Int, Small z → ((Nat.gcd a.natAbs b.natAbs : Nat) : Int) ∣ z → Small (z / ((Nat.gcd a.natAbs b.natAbs : Nat) : Int)) := fun z hz hd => by
    have hg := gcd_pos (a := a) hb
    obtain ⟨k, hk⟩ := hd
    have e : z / ((Nat.gcd a.natAbs b.natAbs : Nat) : Int) = k := by
      rw [hk]
      exact Int.mul_ediv_cancel_left _ (by omega)
    rw [e]
    unfold Small at hz ⊢
    rw [hk, Int.natAbs_mul, Int.natAbs_natCast] at hz
    exact Nat.lt_of_le_of_lt (Nat.le_mul_of_pos_left _ hg) hz
  exact ⟨rat_pos hb, part a ha (Int.ofNat_dvd_left.mpr (Nat.gcd_dvd_left _ _)), part b hs (Int.ofNat_dvd_left.mpr (Nat.gcd_dvd_right _ _))⟩
/-- a ratio is no less than n / k -/
theorem rat_ge {a b : Int} (hb : 0 < b) (n k : Int) : n * (rat a b).2 ≤ (rat a b).1 * k ↔ n * b ≤ a * k := by
  have e := rat_mul (a := a) hb
  have hp := rat_pos (a := a) hb
  constructor
  · intro h
    have h1 := Int.mul_le_mul_of_nonneg_right h (Int.le_of_lt hb)
    have e1 : n * (rat a b).2 * b = n * b * (rat a b).2 := by rw [Int.mul_assoc, Int.mul_comm (rat a b).2, ← Int.mul_assoc]
    have e2 : (rat a b).1 * k * b = a * k * (rat a b).2 := by
      rw [Int.mul_assoc, Int.mul_comm k, ← Int.mul_assoc, e, Int.mul_assoc, Int.mul_comm (rat a b).2, ← Int.mul_assoc]
    exact Int.le_of_mul_le_mul_right (by omega) hp
  · intro h
    have h1 := Int.mul_le_mul_of_nonneg_right h (Int.le_of_lt hp)
    have e1 : n * b * (rat a b).2 = n * (rat a b).2 * b := by rw [Int.mul_assoc, Int.mul_comm b, ← Int.mul_assoc]
    have e2 : a * k * (rat a b).2 = (rat a b).1 * k * b := by
      rw [Int.mul_assoc, Int.mul_comm k, ← Int.mul_assoc, ← e, Int.mul_assoc, Int.mul_comm b, ← Int.mul_assoc]
    exact Int.le_of_mul_le_mul_right (by omega) hb
/-- the least of some ratios a / b is no less than n / k just if each of them is so -/
theorem least_ge {α : Type} {l : List α} {x : α} {top bottom : α → Int} (hb : ∀ a ∈ x :: l, 0 < bottom a) (hs : ∀ a ∈ x :: l, Small (top a) ∧ Small (bottom a)) {n k : Int} (hk : 0 < k) :
    n * (leastR (rat (top x) (bottom x)) ((x :: l).map fun a => rat (top a) (bottom a))).2 ≤ (leastR (rat (top x) (bottom x)) ((x :: l).map fun a => rat (top a) (bottom a))).1 * k ↔ ∀ a ∈ x :: l, n * bottom a ≤ top a * k := by
  have hR : Rats (rat (top x) (bottom x) :: (x :: l).map fun a => rat (top a) (bottom a)) := fun p hp => by
    rcases List.mem_cons.mp hp with e | e
    · rw [e]
      exact rat_rats (hb x List.mem_cons_self) (hs x List.mem_cons_self).1 (hs x List.mem_cons_self).2
    · obtain ⟨a, ha, rfl⟩ := List.mem_map.mp e
      exact rat_rats (hb a ha) (hs a ha).1 (hs a ha).2
  have hm := leastR_mem ((x :: l).map fun a => rat (top a) (bottom a)) (rat (top x) (bottom x))
  have hle := leastR_le _ _ hR
  generalize leastR (rat (top x) (bottom x)) ((x :: l).map fun a => rat (top a) (bottom a)) = q at hm hle ⊢
  constructor
  · intro h a ha
    have hq := hR q hm
    have hy := rat_pos (a := top a) (hb a ha)
    have h1 := hle (rat (top a) (bottom a)) (List.mem_cons_of_mem _ (List.mem_map_of_mem (f := fun a => rat (top a) (bottom a)) ha))
    refine (rat_ge (hb a ha) n k).mp ?_
    -- n/k ≤ q ≤ y
    have a1 := Int.mul_le_mul_of_nonneg_right h (Int.le_of_lt hy)
    have a2 := Int.mul_le_mul_of_nonneg_right h1 (Int.le_of_lt hk)
    have e1 : q.1 * k * (rat (top a) (bottom a)).2 = q.1 * (rat (top a) (bottom a)).2 * k := by rw [Int.mul_assoc, Int.mul_comm k, ← Int.mul_assoc]
    have e2 : n * q.2 * (rat (top a) (bottom a)).2 = n * (rat (top a) (bottom a)).2 * q.2 := by rw [Int.mul_assoc, Int.mul_comm q.2, ← Int.mul_assoc]
    have e3 : (rat (top a) (bottom a)).1 * q.2 * k = (rat (top a) (bottom a)).1 * k * q.2 := by rw [Int.mul_assoc, Int.mul_comm q.2, ← Int.mul_assoc]
    exact Int.le_of_mul_le_mul_right (by omega) hq.1
  · intro h
    rcases List.mem_cons.mp hm with e | e
    · rw [e]
      exact (rat_ge (hb x List.mem_cons_self) n k).mpr (h x List.mem_cons_self)
    · obtain ⟨a, ha, rfl⟩ := List.mem_map.mp e
      exact (rat_ge (hb a ha) n k).mpr (h a ha)
/-! the checks -/
def S_is_dam := runD 5 (F_is_dam S_is_between S_is_inflows)
def S_check_dam := runD 1 (F_check_dam S_is_dam)
def S_check_has_plan := runD 6 F_check_has_plan
def fillE (C S : Int) (xs : List Int) : Int := xs.foldl (fun h x => if h + x < C then h + x else C) S
structure DamOk (C S E : Int) (xs : List Int) : Prop where
  c0 : 0 ≤ C
  c1 : C ≤ 1000
  s0 : 0 ≤ S
  s1 : S ≤ C
  e0 : 0 ≤ E
  e1 : E ≤ C
  fl : Flows xs
  l0 : 0 < xs.length
  l1 : xs.length ≤ 12
section
variable {C S E : Int} {xs : List Int}
theorem v_is_dam (D : DamOk C S E xs) : S_is_dam [damD C S E xs] = some (.bool true) := by
  have b : ∀ i lo hi : Int, lo ≤ i → i ≤ hi → S_is_between [.int i, .int lo, .int hi] = some (.bool true) := fun i lo hi h1 h2 => by
    rw [v_between, decide_eq_true h1, decide_eq_true h2]
    rfl
  unfold S_is_dam F_is_dam
  refine run_rt ?_
  have t1 : kAnd (fT (fIsi isTup (fVar 0))) (fT (fEq (fLen (fVar 0)) (fLit (.int 4)))) [.dat (damD C S E xs), .no, .no, .no, .no] = some true :=
    and_ev (b := true) (c := true) (fT_ev (one_ev (a := damD C S E xs) rfl rfl)) fun _ => fT_ev (two_ev (a := .int 4) (b := .int 4) (one_ev (a := damD C S E xs) rfl rfl) rfl (eq_int 4 4))
  refine (seq_nx (e1 := [.dat (damD C S E xs), .no, .no, .no, .no]) ((if_f ?_).trans rfl)).trans ?_
  · show Option.map _ (kAnd _ _ [.dat (damD C S E xs), .no, .no, .no, .no]) = _
    rw [t1]
    rfl
  refine (seq_nx (e1 := [.dat (damD C S E xs), .dat (.int C), .dat (.int S), .dat (.int E), .dat (ti xs)]) (bind_ev (d := damD C S E xs) rfl rfl)).trans ?_
  have t2 : fT (fCall 3 S_is_between (fCons (fVar 1) (fCons (fLit (.int 0)) (fCons (fLit (.int 1000)) fNil)))) [.dat (damD C S E xs), .dat (.int C), .dat (.int S), .dat (.int E), .dat (ti xs)] = some true := fT_ev (call_ev (ds := [.int C, .int 0, .int 1000]) rfl rfl (b C 0 1000 D.c0 D.c1))
  refine (seq_nx (e1 := [.dat (damD C S E xs), .dat (.int C), .dat (.int S), .dat (.int E), .dat (ti xs)]) ((if_f ?_).trans rfl)).trans ?_
  · show Option.map _ (fT _ [.dat (damD C S E xs), .dat (.int C), .dat (.int S), .dat (.int E), .dat (ti xs)]) = _
    rw [t2]
    rfl
  exact ret_ev (fand_ev (b := true) (c := true) (call_ev (ds := [.int S, .int 0, .int C]) rfl rfl (b S 0 C D.s0 D.s1)) fun _ => fand_ev (b := true) (c := true) (call_ev (ds := [.int E, .int 0, .int C]) rfl rfl (b E 0 C D.e0 D.e1)) fun _ => call_ev (ds := [ti xs]) rfl rfl (v_inflows D.fl D.l0 D.l1))
theorem v_check_dam (D : DamOk C S E xs) : S_check_dam [damD C S E xs] = some .none := by
  unfold S_check_dam F_check_dam
  have t : fT (fCall 1 S_is_dam (fCons (fVar 0) fNil)) [.dat (damD C S E xs)] = some true := fT_ev (call_ev (ds := [damD C S E xs]) rfl rfl (v_is_dam D))
  refine run_nx (e1 := [.dat (damD C S E xs)]) ((if_f ?_).trans rfl)
  show Option.map _ (fT _ [.dat (damD C S E xs)]) = _
  rw [t]
  rfl
theorem fill_for {x : PyData} : ∀ (l : List Int) (h : Int) (s : Slot), ∃ s', forGo (bName 5) (sSet 2 (fMin2 (fVar 1) (fPlus (fVar 2) (fVar 5)))) (l.map .int) [.dat x, .dat (.int C), .dat (.int h), .dat (.int E), .dat (ti xs), s] = some (.nx [.dat x, .dat (.int C), .dat (.int (fillE C h l)), .dat (.int E), .dat (ti xs), s']) := by
  intro l
  induction l with
  | nil => exact fun h s => ⟨s, rfl⟩
  | cons z r ih =>
    intro h s
    have hb : bName 5 (.int z) [.dat x, .dat (.int C), .dat (.int h), .dat (.int E), .dat (ti xs), s] = some [.dat x, .dat (.int C), .dat (.int h), .dat (.int E), .dat (ti xs), .dat (.int z)] := rfl
    have hF : sSet 2 (fMin2 (fVar 1) (fPlus (fVar 2) (fVar 5))) [.dat x, .dat (.int C), .dat (.int h), .dat (.int E), .dat (ti xs), .dat (.int z)] = some (.nx [.dat x, .dat (.int C), .dat (.int (if h + z < C then h + z else C)), .dat (.int E), .dat (ti xs), .dat (.int z)]) := set_ev (two_ev (a := .int C) (b := .int (h + z)) rfl rfl rfl) (by simp)
    rw [List.map_cons, forGo_step hb hF]
    exact ih _ _
theorem v_has_plan (hE : E ≤ fillE C S xs) : S_check_has_plan [damD C S E xs] = some .none := by
  unfold S_check_has_plan F_check_has_plan
  obtain ⟨s', e⟩ := fill_for (C := C) (E := E) (xs := xs) (x := damD C S E xs) xs S .no
  refine run_nx (e1 := [.dat (damD C S E xs), .dat (.int C), .dat (.int (fillE C S xs)), .dat (.int E), .dat (ti xs), s']) ?_
  refine (seq_nx (e1 := [.dat (damD C S E xs), .dat (.int C), .dat (.int S), .dat (.int E), .dat (ti xs), .no]) (bind_ev (d := damD C S E xs) rfl rfl)).trans ?_
  refine (seq_nx (for_ev (seqit_ev (d := ti xs) rfl rfl) e)).trans ?_
  refine (if_f (fT_ev (two_ev (a := .int (fillE C S xs)) (b := .int E) rfl rfl ?_))).trans rfl
  show some (PyData.bool (decide (fillE C S xs < E))) = _
  rw [decide_eq_false (by omega)]
/-! firm yields -/
def S_firm_yield := runD 2 (F_firm_yield S_check_dam S_check_has_plan S_least_ratio S_windows S_window_yield)
theorem cutW_sum_le {l : List Int} (h : Flows l) : 0 ≤ l.sum ∧ l.sum ≤ 1000 * l.length := by
  induction l with
  | nil => exact ⟨Int.le_refl _, Int.le_refl _⟩
  | cons x r ih =>
    obtain ⟨a, b⟩ := ih fun n hn => h n (List.mem_cons_of_mem _ hn)
    have := h x List.mem_cons_self
    rw [List.sum_cons, List.length_cons]
    omega
theorem cutW_flows {p : Nat × Nat} (h : Flows xs) : Flows (cutW xs p) := fun n hn => h n (List.mem_of_mem_drop (List.mem_of_mem_take hn))
theorem cutW_len {p : Nat × Nat} : (cutW xs p).length ≤ xs.length := by
  unfold cutW
  rw [List.length_take, List.length_drop]
  omega
theorem spare_small (D : DamOk C S E xs) (p : Nat × Nat) : Small (spare C S E xs p) := by
  have h1 := cutW_sum_le (cutW_flows (p := p) D.fl)
  have h2 := cutW_len (xs := xs) (p := p)
  have h3 := D.l1
  have hc := D.c0; have hc1 := D.c1; have hs := D.s0; have hs1 := D.s1; have he := D.e0; have he1 := D.e1
  have hb : -1000 ≤ spare C S E xs p ∧ spare C S E xs p ≤ 13000 := by
    unfold spare water
    split <;> split <;> omega
  unfold Small
  exact Nat.lt_of_le_of_lt (show (spare C S E xs p).natAbs ≤ 13000 by omega) (by decide)
theorem winL_cons {m : Nat} (h : 0 < m) : ∃ x l, winL m = x :: l := by
  cases e : winL m with
  | nil =>
    have : ((0, 0) : Nat × Nat) ∈ winL m := winL_mem.mpr ⟨Nat.le_refl _, h⟩
    rw [e] at this
    cases this
  | cons x l => exact ⟨x, l, rfl⟩
/-- the firm yield: a ratio, no less than n / k just if every window gives so much -/
theorem v_firm_yield (D : DamOk C S E xs) (hE : E ≤ fillE C S xs) : ∃ q, S_firm_yield [damD C S E xs] = some (ratD q) ∧ 0 < q.2 ∧ Small q.1 ∧ Small q.2 ∧ ∀ n k : Int, 0 < k → (n * q.2 ≤ q.1 * k ↔ ∀ p ∈ winL xs.length, n * ((p.2 : Int) - (p.1 : Int) + 1) ≤ spare C S E xs p * k) := by
  obtain ⟨x, l, hw⟩ := winL_cons D.l0
  have hb : ∀ a ∈ x :: l, 0 < ((a.2 : Int) - (a.1 : Int) + 1) := fun a ha => by
    rw [← hw] at ha
    have := winL_mem.mp ha
    omega
  have hs : ∀ a ∈ x :: l, Small (spare C S E xs a) ∧ Small ((a.2 : Int) - (a.1 : Int) + 1) := fun a ha => by
    rw [← hw] at ha
    have h1 := winL_mem.mp ha
    have h2 := D.l1
    refine ⟨spare_small D a, ?_⟩
    unfold Small
    exact Nat.lt_of_le_of_lt (show ((a.2 : Int) - (a.1 : Int) + 1).natAbs ≤ 12 by omega) (by decide)
  have hR : Rats ((x :: l).map fun a => rat (spare C S E xs a) ((a.2 : Int) - (a.1 : Int) + 1)) := fun p hp => by
    obtain ⟨a, ha, rfl⟩ := List.mem_map.mp hp
    exact rat_rats (hb a ha) (hs a ha).1 (hs a ha).2
  refine ⟨leastR (rat (spare C S E xs x) ((x.2 : Int) - (x.1 : Int) + 1)) ((x :: l).map fun a => rat (spare C S E xs a) ((a.2 : Int) - (a.1 : Int) + 1)), ?_, ?_, ?_, ?_, fun n k hk => ?_⟩
  · unfold S_firm_yield F_firm_yield
    refine run_rt ((seq_nx (expr_ev (call_ev (ds := [damD C S E xs]) rfl rfl (v_check_dam D)))).trans ((seq_nx (expr_ev (call_ev (ds := [damD C S E xs]) rfl rfl (v_has_plan hE)))).trans (ret_ev ?_)))
    have hwin : iSeq (fCall 1 S_windows (fCons (fLen (fIx (fVar 0) (fLit (.int 3)))) fNil)) [.dat (damD C S E xs), .no] = some ((winL xs.length).map winD) :=
      seqit_ev (call_ev (ds := [.int xs.length]) (cons_ev (one_ev (a := ti xs) (two_ev (a := damD C S E xs) (b := .int 3) rfl rfl rfl) (by
        show some (PyData.int ((xs.map PyData.int).length : Nat)) = _
        rw [List.length_map])) rfl) rfl (v_windows D.l1)) rfl
    refine call_ev (ds := [.list (((x :: l).map fun a => rat (spare C S E xs a) ((a.2 : Int) - (a.1 : Int) + 1)).map ratD)]) (cons_ev ?_ rfl) rfl (v_least_ratio hR)
    unfold fLc
    show Option.bind (iSeq _ [.dat (damD C S E xs), .no]) _ = _
    rw [hwin, Option.bind_some, if_pos (by rw [List.length_map]; exact Nat.le_trans (winL_len D.l1) (by decide)), ← hw]
    have key : lcGo (bName 1) kYes (fCall 2 S_window_yield (fCons (fVar 0) (fCons (fVar 1) fNil))) [.dat (damD C S E xs), .no] ((winL xs.length).map winD) = some ((winL xs.length).map fun a => ratD (rat (spare C S E xs a) ((a.2 : Int) - (a.1 : Int) + 1))) :=
      lcGo_all _ fun a ha => ⟨[.dat (damD C S E xs), .dat (winD a)], rfl, call_ev (ds := [damD C S E xs, winD a]) rfl rfl (v_window_yield (winL_mem.mp ha).1 (winL_mem.mp ha).2 D.l1)⟩
    show Option.map PyData.list (lcGo _ _ _ [.dat (damD C S E xs), .no] _) = _
    rw [key, List.map_map]
    rfl
  · exact (hR _ (by
      rcases List.mem_cons.mp (leastR_mem ((x :: l).map fun a => rat (spare C S E xs a) ((a.2 : Int) - (a.1 : Int) + 1)) (rat (spare C S E xs x) ((x.2 : Int) - (x.1 : Int) + 1))) with e | e
      · rw [e]; exact List.mem_cons_self
      · exact e)).1
  · exact (hR _ (by
      rcases List.mem_cons.mp (leastR_mem ((x :: l).map fun a => rat (spare C S E xs a) ((a.2 : Int) - (a.1 : Int) + 1)) (rat (spare C S E xs x) ((x.2 : Int) - (x.1 : Int) + 1))) with e | e
      · rw [e]; exact List.mem_cons_self
      · exact e)).2.1
  · exact (hR _ (by
      rcases List.mem_cons.mp (leastR_mem ((x :: l).map fun a => rat (spare C S E xs a) ((a.2 : Int) - (a.1 : Int) + 1)) (rat (spare C S E xs x) ((x.2 : Int) - (x.1 : Int) + 1))) with e | e
      · rw [e]; exact List.mem_cons_self
      · exact e)).2.2
  · rw [hw]
    exact least_ge hb hs hk
end
end DN
set_option Elab.async false
set_option linter.all false
set_option maxRecDepth 100000
set_option maxHeartbeats 4000000
namespace DN
open PySem PySem.Spec PyProof.Rows L2
/-! ### firm shares, round yields -/
theorem app_ev {i : Nat} {f : En → Option PyData} {en : En} {d : PyData} {ds : List PyData} (h : f en = some d) (ho : en[i]? = some (.own ds)) (hl : ds.length ≤ 1000000) : sApp i f en = some (.nx (en.set i (.own (ds ++ [d])))) := by
  unfold sApp
  rw [h, Option.bind_some, ho]
  exact if_pos hl
theorem sum_ev {f : En → Option PyData} {en : En} {l : List Int} (e : f en = some (ti l)) : fSum f en = some (.int l.sum) := one_ev e (by
  show Option.map _ (intsOf _) = _
  rw [intsOf_map]
  rfl)
/-- the least of ratios a / b, as a list: what it says of n / k -/
theorem least_all {α : Type} {l : List α} (hne : l ≠ []) {top bottom : α → Int} (hb : ∀ a ∈ l, 0 < bottom a) (hs : ∀ a ∈ l, Small (top a) ∧ Small (bottom a)) : ∃ q, S_least_ratio [.list ((l.map fun a => rat (top a) (bottom a)).map ratD)] = some (ratD q) ∧ 0 < q.2 ∧ Small q.1 ∧ Small q.2 ∧ (∃ a ∈ l, q = rat (top a) (bottom a)) ∧ ∀ n k : Int, 0 < k → (n * q.2 ≤ q.1 * k ↔ ∀ a ∈ l, n * bottom a ≤ top a * k) := by
  obtain ⟨x, r, rfl⟩ := List.exists_cons_of_ne_nil hne
  have hR : Rats ((x :: r).map fun a => rat (top a) (bottom a)) := fun p hp => by
    obtain ⟨a, ha, rfl⟩ := List.mem_map.mp hp
    exact rat_rats (hb a ha) (hs a ha).1 (hs a ha).2
  have hm : ∃ a ∈ x :: r, leastR (rat (top x) (bottom x)) ((x :: r).map fun a => rat (top a) (bottom a)) = rat (top a) (bottom a) := by
    rcases List.mem_cons.mp (leastR_mem ((x :: r).map fun a => rat (top a) (bottom a)) (rat (top x) (bottom x))) with e | e
    · exact ⟨x, List.mem_cons_self, e⟩
    · obtain ⟨a, ha, e2⟩ := List.mem_map.mp e
      exact ⟨a, ha, e2.symm⟩
  obtain ⟨a, ha, e⟩ := hm
  have hq := rat_rats (hb a ha) (hs a ha).1 (hs a ha).2
  have hv : S_least_ratio [.list (((x :: r).map fun a => rat (top a) (bottom a)).map ratD)] = some (ratD (leastR (rat (top x) (bottom x)) ((x :: r).map fun a => rat (top a) (bottom a)))) := v_least_ratio hR
  exact ⟨leastR (rat (top x) (bottom x)) ((x :: r).map fun a => rat (top a) (bottom a)), hv, e ▸ hq.1, e ▸ hq.2.1, e ▸ hq.2.2, ⟨a, ha, e⟩, fun n k hk => least_ge hb hs hk⟩
section
variable {C S E : Int} {xs ys : List Int}
def S_firm_share := runD 5 (F_firm_share S_check_dam S_check_demands S_check_has_plan S_windows S_in_window S_ratio S_spare_water S_least_ratio)
def need (ys : List Int) (p : Nat × Nat) : Int := (cutW ys p).sum
theorem need_small (hy : Flows ys) (h12 : ys.length ≤ 12) (p : Nat × Nat) : Small (need ys p) ∧ 0 ≤ need ys p := by
  have h1 := cutW_sum_le (cutW_flows (p := p) hy)
  have h2 := cutW_len (xs := ys) (p := p)
  unfold Small need
  exact ⟨Nat.lt_of_le_of_lt (show (cutW ys p).sum.natAbs ≤ 12000 by omega) (by decide), h1.1⟩
def SHARE : En → Option Fl := sSeq (sSet 4 (fSum (fCall 2 S_in_window (fCons (fVar 1) (fCons (fVar 3) fNil))))) (sIf (fT (fGt (fVar 4) (fLit (.int 0)))) (sApp 2 (fCall 2 S_ratio (fCons (fCall 2 S_spare_water (fCons (fVar 0) (fCons (fVar 3) fNil))) (fCons (fVar 4) fNil)))) sNil)
theorem share_step (D : DamOk C S E xs) (hy : Flows ys) (hl : ys.length = xs.length) {p : Nat × Nat} (hp : p ∈ winL xs.length) {acc : List (Int × Int)} (ha : acc.length ≤ 1000) {s : Slot} :
    SHARE [.dat (damD C S E xs), .dat (ti ys), .own (acc.map ratD), .dat (winD p), s] = some (.nx [.dat (damD C S E xs), .dat (ti ys), .own ((acc ++ ([p].filter fun p => decide (0 < need ys p)).map fun p => rat (spare C S E xs p) (need ys p)).map ratD), .dat (winD p), .dat (.int (need ys p))]) := by
  obtain ⟨h1, h2⟩ := winL_mem.mp hp
  have h12 : ys.length ≤ 12 := by have := D.l1; omega
  obtain ⟨n1, n2⟩ := need_small hy h12 p
  unfold SHARE
  refine (seq_nx (set_ev (d := .int (need ys p)) (sum_ev (call_ev (ds := [ti ys, winD p]) rfl rfl (v_in_window h1 (by omega)))) (by simp))).trans ?_
  have ht : fT (fGt (fVar 4) (fLit (.int 0))) [.dat (damD C S E xs), .dat (ti ys), .own (acc.map ratD), .dat (winD p), .dat (.int (need ys p))] = some (decide (0 < need ys p)) := fT_ev (two_ev (a := .int (need ys p)) (b := .int 0) rfl rfl rfl)
  by_cases h0 : 0 < need ys p
  · rw [decide_eq_true h0] at ht
    rw [List.filter_cons_of_pos (by simpa using h0), List.filter_nil, List.map_append]
    refine (if_t ht).trans ((app_ev (d := ratD (rat (spare C S E xs p) (need ys p))) ?_ rfl ?_).trans rfl)
    · exact call_ev (ds := [.int (spare C S E xs p), .int (need ys p)]) (cons_ev (call_ev (ds := [damD C S E xs, winD p]) rfl rfl (v_spare_water h1 h2)) rfl) rfl (v_ratio h0 n1)
    · rw [List.length_map]
      exact Nat.le_trans ha (by decide)
  · rw [decide_eq_false h0] at ht
    rw [List.filter_cons_of_neg (by simpa using h0), List.filter_nil, List.map_nil, List.append_nil]
    exact (if_f ht).trans rfl
theorem share_for (D : DamOk C S E xs) (hy : Flows ys) (hl : ys.length = xs.length) : ∀ (ps : List (Nat × Nat)), (∀ p ∈ ps, p ∈ winL xs.length) → ∀ (acc : List (Int × Int)) (a b : Slot), acc.length + ps.length ≤ 1000 → ∃ a' b', forGo (bName 3) SHARE (ps.map winD) [.dat (damD C S E xs), .dat (ti ys), .own (acc.map ratD), a, b] =
    some (.nx [.dat (damD C S E xs), .dat (ti ys), .own ((acc ++ (ps.filter fun p => decide (0 < need ys p)).map fun p => rat (spare C S E xs p) (need ys p)).map ratD), a', b']) := by
  intro ps
  induction ps with
  | nil =>
    intro _ acc a b _
    exact ⟨a, b, by simp only [List.filter_nil, List.map_nil, List.append_nil]; rfl⟩
  | cons p ps ih =>
    intro hp acc a b hlen
    rw [List.length_cons] at hlen
    have hb : bName 3 (winD p) [.dat (damD C S E xs), .dat (ti ys), .own (acc.map ratD), a, b] = some [.dat (damD C S E xs), .dat (ti ys), .own (acc.map ratD), .dat (winD p), b] := rfl
    rw [List.map_cons, forGo_step hb (share_step D hy hl (hp p List.mem_cons_self) (by omega))]
    have hfl : ([p].filter fun p => decide (0 < need ys p)).length ≤ 1 := List.length_filter_le _ _
    obtain ⟨a', b', e⟩ := ih (fun q hq => hp q (List.mem_cons_of_mem _ hq)) (acc ++ ([p].filter fun p => decide (0 < need ys p)).map fun p => rat (spare C S E xs p) (need ys p)) (.dat (winD p)) (.dat (.int (need ys p))) (by rw [List.length_append, List.length_map]; omega)
    refine ⟨a', b', e.trans ?_⟩
    rw [List.append_assoc, ← List.map_append, ← List.filter_append]
    rfl
theorem v_firm_share (D : DamOk C S E xs) (hE : E ≤ fillE C S xs) (hy : Flows ys) (hl : ys.length = xs.length) (h0 : 0 < ys.sum) : ∃ q, S_firm_share [damD C S E xs, ti ys] = some (ratD q) ∧ 0 < q.2 ∧ Small q.1 ∧ Small q.2 ∧ (∃ p ∈ winL xs.length, 0 < need ys p ∧ q = rat (spare C S E xs p) (need ys p)) ∧
    ∀ n k : Int, 0 < k → (n * q.2 ≤ q.1 * k ↔ ∀ p ∈ winL xs.length, 0 < need ys p → n * need ys p ≤ spare C S E xs p * k) := by
  have h12 : ys.length ≤ 12 := by have := D.l1; omega
  have hx0 := D.l0
  have hfull : ((0, xs.length - 1) : Nat × Nat) ∈ (winL xs.length).filter fun p => decide (0 < need ys p) := by
    refine List.mem_filter.mpr ⟨winL_mem.mpr ⟨Nat.zero_le _, show xs.length - 1 < xs.length by omega⟩, decide_eq_true ?_⟩
    show 0 < ((ys.drop 0).take (xs.length - 1 + 1 - 0)).sum
    rw [List.drop_zero, List.take_of_length_le (by omega)]
    exact h0
  have hne : ((winL xs.length).filter fun p => decide (0 < need ys p)) ≠ [] := fun z => by rw [z] at hfull; cases hfull
  obtain ⟨q, q1, q2, q3, q4, ⟨p, hp, q5⟩, q6⟩ := least_all hne (top := fun p => spare C S E xs p) (bottom := fun p => need ys p) (fun p hp => of_decide_eq_true (List.mem_filter.mp hp).2) (fun p hp => ⟨spare_small D p, (need_small hy h12 p).1⟩)
  refine ⟨q, ?_, q2, q3, q4, ⟨p, (List.mem_filter.mp hp).1, of_decide_eq_true (List.mem_filter.mp hp).2, q5⟩, fun n k hk => (q6 n k hk).trans ⟨fun h p hp h1 => h p (List.mem_filter.mpr ⟨hp, decide_eq_true h1⟩), fun h p hp => h p (List.mem_filter.mp hp).1 (of_decide_eq_true (List.mem_filter.mp hp).2)⟩⟩
  unfold S_firm_share F_firm_share
  refine run_rt ((seq_nx (expr_ev (call_ev (ds := [damD C S E xs]) rfl rfl (v_check_dam D)))).trans ?_)
  refine (seq_nx (expr_ev (call_ev (ds := [ti ys, .int xs.length]) (cons_ev rfl (cons_ev (one_ev (a := ti xs) (two_ev (a := damD C S E xs) (b := .int 3) rfl rfl rfl) (by
        show some (PyData.int ((xs.map PyData.int).length : Nat)) = _
        rw [List.length_map])) rfl)) rfl (v_check_demands hy hl)))).trans ?_
  refine (seq_nx (e1 := [.dat (damD C S E xs), .dat (ti ys), .no, .no, .no]) ((if_f (fT_ev (two_ev (a := .int ys.sum) (b := .int 0) (sum_ev rfl) rfl ((eq_int _ _).trans (by rw [decide_eq_false (by omega)]))))).trans rfl)).trans ?_
  refine (seq_nx (expr_ev (call_ev (ds := [damD C S E xs]) rfl rfl (v_has_plan hE)))).trans ?_
  refine (seq_nx (e1 := [.dat (damD C S E xs), .dat (ti ys), .own (([] : List (Int × Int)).map ratD), .no, .no]) rfl).trans ?_
  obtain ⟨a', b', e⟩ := share_for D hy hl (winL xs.length) (fun p hp => hp) [] .no .no (by have := winL_len D.l1; simp; omega)
  rw [List.nil_append] at e
  have hit : iSeq (fCall 1 S_windows (fCons (fLen (fVar 1)) fNil)) [.dat (damD C S E xs), .dat (ti ys), .own (([] : List (Int × Int)).map ratD), .no, .no] = some ((winL xs.length).map winD) :=
    seqit_ev (call_ev (ds := [.int xs.length]) (cons_ev ((len_ev (xs := ys) rfl).trans (by rw [hl])) rfl) rfl (v_windows D.l1)) rfl
  refine (seq_nx (for_ev hit e)).trans ?_
  refine (seq_nx (e1 := [.dat (damD C S E xs), .dat (ti ys), .dat (.list ((((winL xs.length).filter fun p => decide (0 < need ys p)).map fun p => rat (spare C S E xs p) (need ys p)).map ratD)), a', b']) rfl).trans ?_
  exact ret_ev (call_ev (ds := [.list ((((winL xs.length).filter fun p => decide (0 < need ys p)).map fun p => rat (spare C S E xs p) (need ys p)).map ratD)]) rfl rfl q1)
end
end DN
set_option Elab.async false
set_option linter.all false
set_option maxRecDepth 100000
set_option maxHeartbeats 4000000
namespace DN
open PySem PySem.Spec PyProof.Rows L2
/-! ### round yields -/
theorem own_ev {i : Nat} {f : En → Option PyData} {en : En} {ds : List PyData} (h : f en = some (.list ds)) (hi : i < en.length) : sOwn i f en = some (.nx (en.set i (.own ds))) := by
  unfold sOwn
  rw [h]
  exact if_pos hi
theorem lst_ev {gs : En → Option (List PyData)} {en : En} {ds : List PyData} (h : gs en = some ds) (hl : ds.length ≤ 64) : fLst gs en = some (.list ds) := by
  unfold fLst
  rw [h, Option.bind_some, if_pos hl]
section
variable {C : Int} {xs : List Int}
def S_round_yield := runD 7 (F_round_yield S_is_between S_check_inflows S_ratio S_least_ratio)
/-- what a row of months brings, the months twice -/
def brings (xs : List Int) (f c : Nat) : Int := (((xs ++ xs).drop f).take c).sum
theorem brings_small (hx : Flows xs) (h12 : xs.length ≤ 12) (hC : 0 ≤ C ∧ C ≤ 1000) (f c : Nat) : Small (C + brings xs f c) := by
  have h1 := cutW_sum_le (l := ((xs ++ xs).drop f).take c) fun n hn => by
    have := List.mem_of_mem_drop (List.mem_of_mem_take hn)
    rcases List.mem_append.mp this with h | h <;> exact hx n h
  have h2 : (((xs ++ xs).drop f).take c).length ≤ 24 := by
    rw [List.length_take, List.length_drop, List.length_append]
    omega
  unfold Small brings
  exact Nat.lt_of_le_of_lt (show (C + (((xs ++ xs).drop f).take c).sum).natAbs ≤ 25000 by omega) (by decide)
def En7 (C : Int) (xs : List Int) (acc : List (Int × Int)) (a b : Slot) : En := [.dat (.int C), .dat (ti xs), .dat (.int xs.length), .dat (ti (xs ++ xs)), .own (acc.map ratD), a, b]
def ONE : En → Option Fl := sApp 4 (fCall 2 S_ratio (fCons (fPlus (fVar 0) (fSum (fCut (fVar 3) (fPart (fVar 5)) (fPart (fPlus (fVar 5) (fVar 6)))))) (fCons (fVar 6) fNil)))
theorem one_step (hx : Flows xs) (h12 : xs.length ≤ 12) (hC : 0 ≤ C ∧ C ≤ 1000) {f c : Nat} (hf : f < xs.length) (hc : c < xs.length) {acc : List (Int × Int)} (ha : acc.length ≤ 1000) :
    ONE (En7 C xs acc (.dat (.int (0 + (f : Int)))) (.dat (.int (1 + (c : Int))))) = some (.nx (En7 C xs (acc ++ [rat (C + brings xs f (c + 1)) ((c : Int) + 1)]) (.dat (.int (0 + (f : Int)))) (.dat (.int (1 + (c : Int)))))) := by
  have hcut : fCut (fVar 3) (fPart (fVar 5)) (fPart (fPlus (fVar 5) (fVar 6))) (En7 C xs acc (.dat (.int (0 + (f : Int)))) (.dat (.int (1 + (c : Int))))) = some (ti (((xs ++ xs).drop f).take (c + 1))) := by
    show some (PyData.tuple (cutD ((xs ++ xs).map .int) (some (0 + (f : Int))) (some (0 + (f : Int) + (1 + (c : Int)))))) = _
    rw [Int.zero_add, show 1 + (c : Int) = ((c + 1 : Nat) : Int) by omega, cut_ints (by rw [List.length_append]; omega)]
  have hrat : fCall 2 S_ratio (fCons (fPlus (fVar 0) (fSum (fCut (fVar 3) (fPart (fVar 5)) (fPart (fPlus (fVar 5) (fVar 6)))))) (fCons (fVar 6) fNil)) (En7 C xs acc (.dat (.int (0 + (f : Int)))) (.dat (.int (1 + (c : Int))))) = some (ratD (rat (C + brings xs f (c + 1)) (1 + (c : Int)))) := by
    refine call_ev (ds := [.int (C + brings xs f (c + 1)), .int (1 + (c : Int))]) (cons_ev (plusA rfl (sum_ev hcut)) rfl) rfl (v_ratio (by omega) ?_)
    unfold Small
    exact Nat.lt_of_le_of_lt (show (1 + (c : Int)).natAbs ≤ 12 by omega) (by decide)
  refine (app_ev hrat rfl ?_).trans ?_
  · rw [List.length_map]
    exact Nat.le_trans ha (by decide)
  · unfold En7
    rw [List.map_append, Int.add_comm 1 (c : Int)]
    rfl
theorem one_for (hx : Flows xs) (h12 : xs.length ≤ 12) (hC : 0 ≤ C ∧ C ≤ 1000) {f : Nat} (hf : f < xs.length) : ∀ (cs : List Nat), (∀ c ∈ cs, c < xs.length) → ∀ (acc : List (Int × Int)) (b : Slot), acc.length + cs.length ≤ 1000 → ∃ b', forGo (bName 6) ONE (cs.map fun (c : Nat) => PyData.int (1 + (c : Int))) (En7 C xs acc (.dat (.int (0 + (f : Int)))) b) =
    some (.nx (En7 C xs (acc ++ cs.map fun c => rat (C + brings xs f (c + 1)) ((c : Int) + 1)) (.dat (.int (0 + (f : Int)))) b')) := by
  intro cs
  induction cs with
  | nil =>
    intro _ acc b _
    exact ⟨b, by simp only [List.map_nil, List.append_nil]; rfl⟩
  | cons c cs ih =>
    intro hc acc b hl
    rw [List.length_cons] at hl
    have hb : bName 6 (.int (1 + (c : Int))) (En7 C xs acc (.dat (.int (0 + (f : Int)))) b) = some (En7 C xs acc (.dat (.int (0 + (f : Int)))) (.dat (.int (1 + (c : Int))))) := rfl
    rw [List.map_cons, forGo_step hb (one_step hx h12 hC hf (hc c List.mem_cons_self) (by omega))]
    obtain ⟨b', e⟩ := ih (fun q hq => hc q (List.mem_cons_of_mem _ hq)) (acc ++ [rat (C + brings xs f (c + 1)) ((c : Int) + 1)]) (.dat (.int (1 + (c : Int)))) (by rw [List.length_append, List.length_singleton]; omega)
    refine ⟨b', e.trans ?_⟩
    rw [List.append_assoc]
    rfl
def OUT : En → Option Fl := sFor (iRange2 (fLit (.int 1)) (fPlus (fVar 2) (fLit (.int 1)))) (bName 6) ONE
def rowRats (C : Int) (xs : List Int) (f : Nat) : List (Int × Int) := (List.range xs.length).map fun c => rat (C + brings xs f (c + 1)) ((c : Int) + 1)
theorem out_for (hx : Flows xs) (h12 : xs.length ≤ 12) (hC : 0 ≤ C ∧ C ≤ 1000) : ∀ (fs : List Nat), (∀ f ∈ fs, f < xs.length) → ∀ (acc : List (Int × Int)) (a b : Slot), acc.length + 12 * fs.length ≤ 900 → ∃ a' b', forGo (bName 5) OUT (fs.map fun (f : Nat) => PyData.int (0 + (f : Int))) (En7 C xs acc a b) =
    some (.nx (En7 C xs (acc ++ fs.flatMap (rowRats C xs)) a' b')) := by
  intro fs
  induction fs with
  | nil =>
    intro _ acc a b _
    exact ⟨a, b, by simp only [List.flatMap_nil, List.map_nil, List.append_nil]; rfl⟩
  | cons f fs ih =>
    intro hf acc a b hl
    rw [List.length_cons] at hl
    have hb : bName 5 (.int (0 + (f : Int))) (En7 C xs acc a b) = some (En7 C xs acc (.dat (.int (0 + (f : Int)))) b) := rfl
    obtain ⟨b1, e1⟩ := one_for hx h12 hC (hf f List.mem_cons_self) (List.range xs.length) (fun c hc => List.mem_range.mp hc) acc b (by rw [List.length_range]; omega)
    have hr : iRange2 (fLit (.int 1)) (fPlus (fVar 2) (fLit (.int 1))) (En7 C xs acc (.dat (.int (0 + (f : Int)))) b) = some ((List.range xs.length).map fun (c : Nat) => PyData.int (1 + (c : Int))) :=
      (range2_ev (a := 1) (b := (xs.length : Int) + 1) rfl (plusA rfl rfl) (by omega) (by omega)).trans (by rw [show ((xs.length : Int) + 1 - 1).toNat = xs.length by omega]; rfl)
    have hO : OUT (En7 C xs acc (.dat (.int (0 + (f : Int)))) b) = some (.nx (En7 C xs (acc ++ rowRats C xs f) (.dat (.int (0 + (f : Int)))) b1)) := for_ev hr e1
    rw [List.map_cons, forGo_step hb hO]
    obtain ⟨a', b', e⟩ := ih (fun q hq => hf q (List.mem_cons_of_mem _ hq)) (acc ++ rowRats C xs f) (.dat (.int (0 + (f : Int)))) b1 (by
      have : (rowRats C xs f).length = xs.length := by unfold rowRats; rw [List.length_map, List.length_range]
      rw [List.length_append]
      omega)
    refine ⟨a', b', e.trans ?_⟩
    rw [List.flatMap_cons, List.append_assoc]
def yTop (C : Int) (xs : List Int) : Option (Nat × Nat) → Int
  | none => xs.sum
  | some p => C + brings xs p.1 (p.2 + 1)
def yBot (xs : List Int) : Option (Nat × Nat) → Int
  | none => xs.length
  | some p => (p.2 : Int) + 1
theorem v_round_yield (hx : Flows xs) (h0 : 0 < xs.length) (h12 : xs.length ≤ 12) (hC : 0 ≤ C ∧ C ≤ 1000) : ∃ q, S_round_yield [.int C, ti xs] = some (ratD q) ∧ 0 < q.2 ∧ Small q.1 ∧ Small q.2 ∧
    ∀ n k : Int, 0 < k → (n * q.2 ≤ q.1 * k ↔ (n * xs.length ≤ xs.sum * k ∧ ∀ f c, (f, c) ∈ rowsL xs.length true → n * ((c : Int) + 1) ≤ (C + brings xs f (c + 1)) * k)) := by
  have hm : Small (xs.length : Int) := by
    unfold Small
    exact Nat.lt_of_le_of_lt (show ((xs.length : Int)).natAbs ≤ 12 by omega) (by decide)
  have hsum := cutW_sum_le hx
  have hss : Small xs.sum := by
    unfold Small
    exact Nat.lt_of_le_of_lt (show xs.sum.natAbs ≤ 12000 by omega) (by decide)
  obtain ⟨q, q1, q2, q3, q4, _, q6⟩ := least_all (l := none :: (rowsL xs.length true).map some) (by simp) (top := yTop C xs) (bottom := yBot xs)
    (fun a ha => by cases a with
      | none => show (0 : Int) < xs.length; omega
      | some p => show (0 : Int) < (p.2 : Int) + 1; omega)
    (fun a ha => by cases a with
      | none => exact ⟨hss, hm⟩
      | some p =>
        rcases List.mem_cons.mp ha with e | e
        · cases e
        · obtain ⟨p', hp, e2⟩ := List.mem_map.mp e
          cases e2
          have := (rows_lt hp).2
          refine ⟨brings_small hx h12 hC _ _, ?_⟩
          unfold Small
          exact Nat.lt_of_le_of_lt (show ((p.2 : Int) + 1).natAbs ≤ 12 by omega) (by decide))
  refine ⟨q, ?_, q2, q3, q4, fun n k hk => (q6 n k hk).trans ⟨fun h => ⟨h none List.mem_cons_self, fun f c hc => h (some (f, c)) (List.mem_cons_of_mem _ (List.mem_map_of_mem hc))⟩, fun h a ha => ?_⟩⟩
  · have hlist : (none :: (rowsL xs.length true).map some).map (fun a => rat (yTop C xs a) (yBot xs a)) = [rat xs.sum xs.length] ++ (List.range xs.length).flatMap (rowRats C xs) := by
      rw [List.map_cons, List.map_map]
      unfold rowsL rowRats
      rw [List.map_flatMap]
      simp only [List.map_map, if_true]
      rfl
    rw [hlist] at q1
    unfold S_round_yield F_round_yield
    refine run_rt ?_
    have t1 : fT (fCall 3 S_is_between (fCons (fVar 0) (fCons (fLit (.int 0)) (fCons (fLit (.int 1000)) fNil)))) [.dat (.int C), .dat (ti xs), .no, .no, .no, .no, .no] = some true := fT_ev (call_ev (ds := [.int C, .int 0, .int 1000]) rfl rfl (by rw [v_between, decide_eq_true hC.1, decide_eq_true hC.2]; rfl))
    refine (seq_nx (e1 := [.dat (.int C), .dat (ti xs), .no, .no, .no, .no, .no]) ((if_f ?_).trans rfl)).trans ?_
    · show Option.map _ (fT _ [.dat (.int C), .dat (ti xs), .no, .no, .no, .no, .no]) = _
      rw [t1]
      rfl
    refine (seq_nx (expr_ev (call_ev (ds := [ti xs]) rfl rfl (v_check_inflows hx h0 h12)))).trans ?_
    refine (seq_nx (set_ev (d := .int xs.length) (len_ev rfl) (by simp))).trans ?_
    have htw : fPlus (fVar 1) (fVar 1) [.dat (.int C), .dat (ti xs), .dat (.int xs.length), .no, .no, .no, .no] = some (ti (xs ++ xs)) := by
      refine two_ev (a := ti xs) (b := ti xs) rfl rfl ?_
      show (if (xs.map PyData.int).length + (xs.map PyData.int).length ≤ 1000000 then some (PyData.tuple (xs.map PyData.int ++ xs.map PyData.int)) else none) = _
      have hsz : (xs.map PyData.int).length + (xs.map PyData.int).length ≤ 1000000 := by
        rw [List.length_map]
        exact Nat.le_trans (show xs.length + xs.length ≤ 24 by omega) (by decide)
      rw [if_pos hsz, ← List.map_append]
    refine (seq_nx (set_ev htw (by simp))).trans ?_
    have hfirst : fLst (fCons (fCall 2 S_ratio (fCons (fSum (fVar 1)) (fCons (fVar 2) fNil))) fNil) [.dat (.int C), .dat (ti xs), .dat (.int xs.length), .dat (ti (xs ++ xs)), .no, .no, .no] = some (.list ([rat xs.sum xs.length].map ratD)) := by
      exact lst_ev (ds := [ratD (rat xs.sum xs.length)]) (cons_ev (call_ev (ds := [.int xs.sum, .int xs.length]) (cons_ev (sum_ev (l := xs) rfl) rfl) rfl (v_ratio (by omega) hm)) rfl) (by simp)
    refine (seq_nx (e1 := En7 C xs [rat xs.sum xs.length] .no .no) ((own_ev (en := [.dat (.int C), .dat (ti xs), .dat (.int xs.length), .dat (ti (xs ++ xs)), .no, .no, .no]) hfirst (by simp)).trans rfl)).trans ?_
    obtain ⟨a', b', e⟩ := out_for hx h12 hC (List.range xs.length) (fun f hf => List.mem_range.mp hf) [rat xs.sum xs.length] .no .no (by rw [List.length_range, List.length_singleton]; omega)
    have hr : iRange1 (fVar 2) (En7 C xs [rat xs.sum xs.length] .no .no) = some ((List.range xs.length).map fun (f : Nat) => PyData.int (0 + (f : Int))) := (range1_ev (a := (xs.length : Int)) rfl (by omega)).trans (by rw [Int.toNat_natCast]; rfl)
    refine (seq_nx (for_ev hr e)).trans ?_
    refine (seq_nx (e1 := [.dat (.int C), .dat (ti xs), .dat (.int xs.length), .dat (ti (xs ++ xs)), .dat (.list (([rat xs.sum xs.length] ++ (List.range xs.length).flatMap (rowRats C xs)).map ratD)), a', b']) rfl).trans ?_
    exact ret_ev (call_ev (ds := [.list (([rat xs.sum xs.length] ++ (List.range xs.length).flatMap (rowRats C xs)).map ratD)]) rfl rfl q1)
  · rcases List.mem_cons.mp ha with e | e
    · rw [e]
      exact h.1
    · obtain ⟨p, hp, rfl⟩ := List.mem_map.mp e
      exact h.2 p.1 p.2 hp
end
end DN
set_option Elab.async false
set_option linter.all false
set_option maxRecDepth 100000
set_option maxHeartbeats 4000000
namespace DN
open PySem PySem.Spec PyProof.Rows L2
/-! ### the laws' own ratios -/
/-- how many turns Euclid's loop has at most -/
def euW : En → Nat := fun en => match en[3]? with
  | some (Slot.dat (PyData.int j)) => j.natAbs + 1
  | _ => 0
def S__law_ratio := runD 4 (F__law_ratio euW)
def EUC : En → Option Fl := sPar 2 3 (fVar 3) (fMod (fInt (fVar 2)) (fVar 3))
theorem par_ev {i j : Nat} {f g : En → Option PyData} {en : En} {a b : PyData} (h1 : f en = some a) (h2 : g en = some b) (hi : i < en.length) (hj : j < en.length) : sPar i j f g en = some (.nx ((en.set i (.dat a)).set j (.dat b))) := by
  have b1 : bName i a en = some (en.set i (.dat a)) := if_pos hi
  have b2 : bName j b (en.set i (.dat a)) = some ((en.set i (.dat a)).set j (.dat b)) := if_pos (by rw [List.length_set]; exact hj)
  unfold sPar
  rw [h1, h2, Option.bind_some, Option.bind_some, b1, Option.bind_some, b2]
  rfl
theorem euc_go {x y : PyData} : ∀ (n i j : Nat), j < n → whGo (fT (fNe (fVar 3) (fLit (.int 0)))) EUC n [.dat x, .dat y, .dat (.int i), .dat (.int j)] = some (.nx [.dat x, .dat y, .dat (.int (Nat.gcd i j : Nat)), .dat (.int 0)])
  | 0, i, j, h => by omega
  | n + 1, i, j, h => by
    have ht : fT (fNe (fVar 3) (fLit (.int 0))) [.dat x, .dat y, .dat (.int (i : Int)), .dat (.int (j : Int))] = some (!decide ((j : Int) = 0)) := fT_ev (two_ev (a := .int (j : Int)) (b := .int 0) rfl rfl (DN.ne_int _ _))
    unfold whGo
    rw [ht]
    by_cases hj : j = 0
    · subst hj
      rw [show (!decide (((0 : Nat) : Int) = 0)) = false from rfl, Nat.gcd_zero_right]
      rfl
    · rw [decide_eq_false (by omega)]
      have hm : fMod (fInt (fVar 2)) (fVar 3) [.dat x, .dat y, .dat (.int (i : Int)), .dat (.int (j : Int))] = some (.int ((i % j : Nat) : Int)) := (modA (a := (i : Int)) (b := (j : Int)) (intA rfl) rfl (by omega)).trans (by rfl)
      have hF : EUC [.dat x, .dat y, .dat (.int (i : Int)), .dat (.int (j : Int))] = some (.nx [.dat x, .dat y, .dat (.int (j : Int)), .dat (.int ((i % j : Nat) : Int))]) := par_ev rfl hm (by simp) (by simp)
      show (match EUC [.dat x, .dat y, .dat (.int (i : Int)), .dat (.int (j : Int))] with
        | some (.nx e2) => whGo (fT (fNe (fVar 3) (fLit (.int 0)))) EUC n e2
        | some (.ct e2) => whGo (fT (fNe (fVar 3) (fLit (.int 0)))) EUC n e2
        | some (.bk e2) => some (.nx e2)
        | some (.rt v) => some (.rt v)
        | none => none) = _
      rw [hF]
      have hlt : i % j < j := Nat.mod_lt _ (by omega)
      have := euc_go (x := x) (y := y) n j (i % j) (by omega)
      rw [Nat.gcd_comm j (i % j), ← Nat.gcd_rec, Nat.gcd_comm j i] at this
      exact this
theorem abs_ev {f : En → Option PyData} {en : En} {a : Int} (h : f en = some (.int a)) : fAbs f en = some (.int (a.natAbs : Int)) := by
  refine one_ev h ?_
  show some (PyData.int (if a < 0 then -a else a)) = _
  by_cases h0 : a < 0
  · rw [if_pos h0]
    congr 2
    omega
  · rw [if_neg h0]
    congr 2
    omega
theorem v_law_ratio {a b : Int} (hb : 0 < b) (hs : Small b) : S__law_ratio [.int a, .int b] = some (ratD (rat a b)) := by
  have hg := gcd_pos (a := a) hb
  have hgs : Small ((Nat.gcd a.natAbs b.natAbs : Nat) : Int) := by
    unfold Small at hs ⊢
    rw [Int.natAbs_natCast]
    exact Nat.lt_of_le_of_lt (Nat.le_of_dvd (by omega) (Nat.gcd_dvd_right _ _)) hs
  unfold S__law_ratio F__law_ratio
  refine run_rt ?_
  refine (seq_nx (e1 := [.dat (.int a), .dat (.int b), .dat (.int (a.natAbs : Int)), .dat (.int (b.natAbs : Int))]) ((par_ev (abs_ev (a := a) rfl) (abs_ev (a := b) rfl) (by simp) (by simp)).trans rfl)).trans ?_
  have hw : sWhile euW (fT (fNe (fVar 3) (fLit (.int 0)))) EUC [.dat (.int a), .dat (.int b), .dat (.int (a.natAbs : Int)), .dat (.int (b.natAbs : Int))] = some (.nx [.dat (.int a), .dat (.int b), .dat (.int (Nat.gcd a.natAbs b.natAbs : Nat)), .dat (.int 0)]) := euc_go _ _ _ (by
    show b.natAbs < ((b.natAbs : Int)).natAbs + 1
    rw [Int.natAbs_natCast]
    omega)
  refine (seq_nx hw).trans (ret_ev ?_)
  have ht : fT (fGt (fVar 1) (fLit (.int 0))) [.dat (.int a), .dat (.int b), .dat (.int (Nat.gcd a.natAbs b.natAbs : Nat)), .dat (.int 0)] = some true := fT_ev (two_ev (a := .int b) (b := .int 0) rfl rfl (by
    show some (PyData.bool (decide (0 < b))) = _
    rw [decide_eq_true hb]))
  unfold fIf
  rw [ht]
  have e1 : fDiv (fVar 0) (fVar 2) [.dat (.int a), .dat (.int b), .dat (.int (Nat.gcd a.natAbs b.natAbs : Nat)), .dat (.int 0)] = some (.int (a / ((Nat.gcd a.natAbs b.natAbs : Nat) : Int))) := div_ev rfl rfl (by omega) hgs
  have e2 : fDiv (fVar 1) (fVar 2) [.dat (.int a), .dat (.int b), .dat (.int (Nat.gcd a.natAbs b.natAbs : Nat)), .dat (.int 0)] = some (.int (b / ((Nat.gcd a.natAbs b.natAbs : Nat) : Int))) := div_ev rfl rfl (by omega) hgs
  have e3 : fCons (fDiv (fVar 0) (fVar 2)) (fCons (fDiv (fVar 1) (fVar 2)) fNil) [.dat (.int a), .dat (.int b), .dat (.int (Nat.gcd a.natAbs b.natAbs : Nat)), .dat (.int 0)] = some [.int (a / ((Nat.gcd a.natAbs b.natAbs : Nat) : Int)), .int (b / ((Nat.gcd a.natAbs b.natAbs : Nat) : Int))] := cons_ev e1 (cons_ev e2 rfl)
  show fTup _ [.dat (.int a), .dat (.int b), .dat (.int (Nat.gcd a.natAbs b.natAbs : Nat)), .dat (.int 0)] = _
  unfold fTup
  rw [e3]
  rfl
def S__law_by := runD 2 (F__law_by S__law_ratio)
def S__law_less := runD 2 F__law_less
theorem v_law_less {p q : Int × Int} (h1 : Small p.1) (h2 : Small p.2) (h3 : Small q.1) (h4 : Small q.2) : S__law_less [ratD p, ratD q] = some (.bool (lessR p q)) := by
  unfold S__law_less F__law_less
  refine run_rt (ret_ev (two_ev (a := .int (p.1 * q.2)) (b := .int (q.1 * p.2)) (times_ev (two_ev (a := ratD p) (b := .int 0) rfl rfl rfl) (two_ev (a := ratD q) (b := .int 1) rfl rfl rfl) h1 h4) (times_ev (two_ev (a := ratD q) (b := .int 0) rfl rfl rfl) (two_ev (a := ratD p) (b := .int 1) rfl rfl rfl) h3 h2) rfl))
theorem v_law_by {p q : Int × Int} (h1 : Small p.1) (h2 : Small p.2) (h3 : Small q.1) (h4 : Small q.2) (h5 : 0 < p.2 * q.2) (h6 : Small (p.2 * q.2)) : S__law_by [ratD p, ratD q] = some (ratD (rat (p.1 * q.1) (p.2 * q.2))) := by
  unfold S__law_by F__law_by
  refine run_rt (ret_ev (call_ev (ds := [.int (p.1 * q.1), .int (p.2 * q.2)]) (cons_ev (times_ev (two_ev (a := ratD p) (b := .int 0) rfl rfl rfl) (two_ev (a := ratD q) (b := .int 0) rfl rfl rfl) h1 h3) (cons_ev (times_ev (two_ev (a := ratD p) (b := .int 1) rfl rfl rfl) (two_ev (a := ratD q) (b := .int 1) rfl rfl rfl) h2 h4) rfl)) rfl (v_law_ratio h5 h6)))
/-! one ratio, one pair -/
theorem rat_low {a b : Int} (hb : 0 < b) : Nat.gcd (rat a b).1.natAbs (rat a b).2.natAbs = 1 := by
  have hg := gcd_pos (a := a) hb
  obtain ⟨k, hk⟩ := (Int.ofNat_dvd_left.mpr (Nat.gcd_dvd_left a.natAbs b.natAbs) : ((Nat.gcd a.natAbs b.natAbs : Nat) : Int) ∣ a)
  obtain ⟨l, hl⟩ := (Int.ofNat_dvd_left.mpr (Nat.gcd_dvd_right a.natAbs b.natAbs) : ((Nat.gcd a.natAbs b.natAbs : Nat) : Int) ∣ b)
  have e1 : (rat a b).1 = k := (congrArg (fun z => z / ((Nat.gcd a.natAbs b.natAbs : Nat) : Int)) hk).trans (Int.mul_ediv_cancel_left _ (by omega))
  have e2 : (rat a b).2 = l := (congrArg (fun z => z / ((Nat.gcd a.natAbs b.natAbs : Nat) : Int)) hl).trans (Int.mul_ediv_cancel_left _ (by omega))
  have h2 : a.natAbs = Nat.gcd a.natAbs b.natAbs * k.natAbs := (congrArg Int.natAbs hk).trans (by rw [Int.natAbs_mul, Int.natAbs_natCast])
  have h3 : b.natAbs = Nat.gcd a.natAbs b.natAbs * l.natAbs := (congrArg Int.natAbs hl).trans (by rw [Int.natAbs_mul, Int.natAbs_natCast])
  have h4 := Nat.gcd_mul_left (Nat.gcd a.natAbs b.natAbs) k.natAbs l.natAbs
  rw [← h2, ← h3] at h4
  rw [e1, e2]
  exact Nat.eq_of_mul_eq_mul_left hg (by omega)
/-- two ratios in lowest terms that are equal are one pair -/
theorem low_unique {p q : Int × Int} (hp : 0 < p.2) (hq : 0 < q.2) (gp : Nat.gcd p.1.natAbs p.2.natAbs = 1) (gq : Nat.gcd q.1.natAbs q.2.natAbs = 1) (h : p.1 * q.2 = q.1 * p.2) : p = q := by
  have hn : p.1.natAbs * q.2.natAbs = q.1.natAbs * p.2.natAbs := by rw [← Int.natAbs_mul, ← Int.natAbs_mul, h]
  have d1 : p.2.natAbs ∣ q.2.natAbs := (Nat.Coprime.dvd_of_dvd_mul_left (show Nat.Coprime p.2.natAbs p.1.natAbs by rw [Nat.coprime_comm]; exact gp) ⟨q.1.natAbs, by rw [hn, Nat.mul_comm]⟩)
  have d2 : q.2.natAbs ∣ p.2.natAbs := (Nat.Coprime.dvd_of_dvd_mul_left (show Nat.Coprime q.2.natAbs q.1.natAbs by rw [Nat.coprime_comm]; exact gq) ⟨p.1.natAbs, by rw [← hn, Nat.mul_comm]⟩)
  have e2 : p.2.natAbs = q.2.natAbs := Nat.dvd_antisymm d1 d2
  have e2' : p.2 = q.2 := by omega
  have e1 : p.1 = q.1 := by
    rw [← e2'] at h
    exact Int.eq_of_mul_eq_mul_right (by omega) h
  exact Prod.ext e1 e2'
end DN
set_option Elab.async false
set_option linter.all false
set_option maxRecDepth 100000
set_option maxHeartbeats 4000000
namespace DN
open PySem PySem.Spec PyProof.Rows L2
/-! ### yields and storages -/
section
variable {C : Int} {xs ys : List Int}
theorem spare_full {p : Nat × Nat} : spare C C 0 xs p = C + need xs p := by
  unfold spare water need
  split <;> split <;> omega
theorem win_cut (l : List Int) {f c : Nat} (h : f + (c + 1) ≤ l.length) : ((l ++ l).drop f).take (c + 1) = cutW l (f, f + c) := by
  unfold cutW
  show _ = (l.drop f).take (f + c + 1 - f)
  rw [show f + c + 1 - f = c + 1 by omega, List.drop_append_of_le_length (by omega), List.take_append_of_le_length (by rw [List.length_drop]; omega)]
theorem lack_need (hl : ys.length = xs.length) {f c : Nat} (h : f + (c + 1) ≤ xs.length) : lack xs ys f (c + 1) = need ys (f, f + c) - need xs (f, f + c) := by
  unfold lack need
  rw [win_cut xs h, win_cut ys (by omega)]
theorem give_all (hl : ys.length = xs.length) (h0 : 0 < xs.length) (hC : 0 ≤ C) : (∀ p ∈ winL xs.length, need ys p ≤ spare C C 0 xs p) ↔ st xs ys false ≤ C := by
  constructor
  · intro h
    refine st_le h0 hC fun f c hm => ?_
    obtain ⟨h1, h2⟩ := rowsL_mem.mp hm
    have h1' : f < xs.length := h1
    have h2' : c < xs.length - f := h2
    have := h (f, f + c) (winL_mem.mpr ⟨show f ≤ f + c by omega, show f + c < _ by omega⟩)
    rw [spare_full] at this
    rw [lack_need hl (by omega)]
    omega
  · intro h p hp
    obtain ⟨h1, h2⟩ := winL_mem.mp hp
    have := st_ge (ys := ys) (rowsL_mem.mpr ⟨show p.1 < xs.length by omega, show p.2 - p.1 < xs.length - p.1 by omega⟩ : (p.1, p.2 - p.1) ∈ rowsL xs.length false)
    rw [lack_need hl (by omega), show p.1 + (p.2 - p.1) = p.2 by omega] at this
    rw [spare_full]
    show need ys (p.1, p.2) ≤ C + need xs (p.1, p.2)
    omega
theorem const_sum {d : Int} : ∀ {l : List Int}, (∀ x ∈ l, x = d) → l.sum = d * l.length
  | [], _ => by simp
  | x :: r, h => by
    rw [List.sum_cons, h x List.mem_cons_self, const_sum fun y hy => h y (List.mem_cons_of_mem _ hy), List.length_cons]
    rw [show ((r.length + 1 : Nat) : Int) = (r.length : Int) + 1 by omega, Int.mul_add, Int.mul_one]
    omega
theorem need_const {d : Int} {m : Nat} {p : Nat × Nat} (h1 : p.1 ≤ p.2) (h2 : p.2 < m) : need (List.replicate m d) p = d * ((p.2 : Int) - (p.1 : Int) + 1) := by
  unfold need cutW
  rw [const_sum fun x hx => List.eq_of_mem_replicate (List.mem_of_mem_drop (List.mem_of_mem_take hx)), List.length_take, List.length_drop, List.length_replicate]
  congr 1
  omega
theorem firm_iff {d : Int} (h0 : 0 < xs.length) (hC : 0 ≤ C) : (∀ p ∈ winL xs.length, d * ((p.2 : Int) - (p.1 : Int) + 1) ≤ spare C C 0 xs p * 1) ↔ st xs (List.replicate xs.length d) false ≤ C := by
  rw [← give_all (ys := List.replicate xs.length d) (List.length_replicate ..) h0 hC]
  constructor
  · intro h p hp
    obtain ⟨h1, h2⟩ := winL_mem.mp hp
    have := h p hp
    rw [need_const h1 h2]
    omega
  · intro h p hp
    obtain ⟨h1, h2⟩ := winL_mem.mp hp
    have := h p hp
    rw [need_const h1 h2] at this
    omega
theorem lack_const {d : Int} {f c : Nat} (hf : f + c ≤ 2 * xs.length) : lack xs (List.replicate xs.length d) f c = d * c - brings xs f c := by
  unfold lack brings
  rw [const_sum (l := ((List.replicate xs.length d ++ List.replicate xs.length d).drop f).take c) fun x hx => by
    have := List.mem_of_mem_drop (List.mem_of_mem_take hx)
    rcases List.mem_append.mp this with h | h <;> exact List.eq_of_mem_replicate h]
  rw [List.length_take, List.length_drop, List.length_append, List.length_replicate, Nat.min_eq_left (by omega)]
theorem round_iff {d : Int} (h0 : 0 < xs.length) (hC : 0 ≤ C) : (d * xs.length ≤ xs.sum * 1 ∧ ∀ f c, (f, c) ∈ rowsL xs.length true → d * ((c : Int) + 1) ≤ (C + brings xs f (c + 1)) * 1) ↔ ((List.replicate xs.length d).sum ≤ xs.sum ∧ st xs (List.replicate xs.length d) true ≤ C) := by
  have hs : (List.replicate xs.length d).sum = d * xs.length := by
    rw [const_sum fun x hx => List.eq_of_mem_replicate hx, List.length_replicate]
  rw [hs]
  have hc : ∀ f c, (f, c) ∈ rowsL xs.length true → lack xs (List.replicate xs.length d) f (c + 1) = d * ((c : Int) + 1) - brings xs f (c + 1) := fun f c hm => by
    have := rows_lt hm
    have h1 : f < xs.length := this.1
    have h2 : c < xs.length := this.2
    rw [lack_const (by omega)]
    rw [show ((c + 1 : Nat) : Int) = (c : Int) + 1 by omega]
  constructor
  · rintro ⟨h1, h2⟩
    refine ⟨by omega, st_le h0 hC fun f c hm => ?_⟩
    have := h2 f c hm
    rw [hc f c hm]
    omega
  · rintro ⟨h1, h2⟩
    refine ⟨by omega, fun f c hm => ?_⟩
    have := st_ge (ys := List.replicate xs.length d) hm
    rw [hc f c hm] at this
    omega
theorem fillE_nonneg {S : Int} (hC : 0 ≤ C) : ∀ {l : List Int} {S : Int}, Flows l → 0 ≤ S → 0 ≤ fillE C S l
  | [], S, _, h => h
  | x :: r, S, hf, h => by
    have hx := hf x List.mem_cons_self
    show 0 ≤ fillE C (if S + x < C then S + x else C) r
    exact fillE_nonneg (S := 0) hC (fun n hn => hf n (List.mem_cons_of_mem _ hn)) (by split <;> omega)
/-- a share of demands that are s times as great is an s-th of the share -/
theorem share_scale {s : Int} (hs : 0 < s) {q r : Int × Int} (hq : 0 < q.2) (hr : 0 < r.2)
    (h1 : ∀ n k : Int, 0 < k → (n * q.2 ≤ q.1 * k ↔ ∀ p ∈ winL xs.length, 0 < need ys p → n * need ys p ≤ spare C C 0 xs p * k))
    (h2 : ∀ n k : Int, 0 < k → (n * r.2 ≤ r.1 * k ↔ ∀ p ∈ winL xs.length, 0 < s * need ys p → n * (s * need ys p) ≤ spare C C 0 xs p * k)) : s * r.1 * q.2 = q.1 * r.2 := by
  have a1 := (h1 q.1 q.2 hq).mp (Int.le_refl _)
  have a2 := (h2 q.1 (q.2 * s) (Int.mul_pos hq hs)).mpr fun p hp hn => by
    have hn' : 0 < need ys p := by
      by_cases h : 0 < need ys p
      · exact h
      · have := Int.mul_le_mul_of_nonneg_left (show need ys p ≤ 0 by omega) (Int.le_of_lt hs)
        rw [Int.mul_zero] at this
        omega
    have := Int.mul_le_mul_of_nonneg_right (a1 p hp hn') (Int.le_of_lt hs)
    rw [Int.mul_assoc, Int.mul_comm (need ys p) s, Int.mul_assoc] at this
    exact this
  have b1 := (h2 r.1 r.2 hr).mp (Int.le_refl _)
  have b2 := (h1 (r.1 * s) r.2 hr).mpr fun p hp hn => by
    have := b1 p hp (Int.mul_pos hs hn)
    rw [← Int.mul_assoc] at this
    exact this
  have e1 : r.1 * (q.2 * s) = s * r.1 * q.2 := by rw [Int.mul_comm q.2 s, ← Int.mul_assoc, Int.mul_comm r.1 s]
  have e2 : r.1 * s * q.2 = s * r.1 * q.2 := by rw [Int.mul_comm r.1 s]
  omega
theorem need_scale {s : Int} (p : Nat × Nat) : need (ys.map fun y => y * s) p = s * need ys p := by
  unfold need cutW
  rw [← List.map_drop, ← List.map_take]
  generalize (ys.drop p.1).take (p.2 + 1 - p.1) = l
  induction l with
  | nil => simp
  | cons y r ih =>
    rw [List.map_cons, List.sum_cons, List.sum_cons, ih, Int.mul_add, Int.mul_comm y s]
end
end DN
set_option Elab.async false
set_option linter.all false
set_option maxRecDepth 100000
set_option maxHeartbeats 4000000
namespace L48
open PySem PySem.Spec PyProof.Rows L2 DN
def top (i : Nat) : Stmt := PySem.Challenge.pw_damworks_k48_across_yields_and_storages.main.body.getD i (.Pass ⟨0, 0, 0, 0⟩)
structure Txt (K : PySem.W.Frag) (mg : Str → Option Value) : Prop where
  b_abs : mg "abs" = none
  b_all : mg "all" = none
  b_bool : mg "bool" = none
  b_int : mg "int" = none
  b_isinstance : mg "isinstance" = none
  b_len : mg "len" = none
  b_max : mg "max" = none
  b_min : mg "min" = none
  b_range : mg "range" = none
  b_sum : mg "sum" = none
  b_tuple : mg "tuple" = none
  m_gcd : mg "gcd" = some (.builtin "math.gcd")
  k_MOST_MONTHS : ∃ t, mg "MOST_MONTHS" = some (.int 12 t)
  k_MOST_WATER : ∃ t, mg "MOST_WATER" = some (.int 1000 t)
section
variable {P : Program} {w : World} {K : PySem.W.Frag} {mg : Str → Option Value} {base : Heap} {Ts : List Addr}
/-! is_whole -/
abbrev s_is_whole : Stmt := top 10
theorem sc_is_whole : FnScope ["value"] ["value"] (defScope s_is_whole) := ⟨rfl, rfl, rfl, by decide +kernel, rfl, by decide +kernel, by decide +kernel⟩
theorem ok_is_whole (T : Txt K mg) {f : Addr} {fd : FuncData} {cdv : Value} (D : DF K "is_whole" "is_whole" s_is_whole f fd cdv) : FnOk P w K mg base CX0 1 f fd ["value"] (spD K Ts 1 (runD 1 (F_is_whole))) := by
  refine D.ok sc_is_whole fun A outer s H E hr => ?_
  exact (s_one (s_ret (d_and (d_isi isi_int (by rfl) T.b_isinstance (by decide +kernel) (by rfl) T.b_int (by decide +kernel) (d_var 0)) (d_one (d_not (d_isi isi_bool (by rfl) T.b_isinstance (by decide +kernel) (by rfl) T.b_bool (by decide +kernel) (d_var 0)))))))
/-! is_between -/
abbrev s_is_between : Stmt := top 11
theorem sc_is_between : FnScope ["value", "least", "most"] ["value", "least", "most"] (defScope s_is_between) := ⟨rfl, rfl, rfl, by decide +kernel, rfl, by decide +kernel, by decide +kernel⟩
theorem ok_is_between {c_is_whole : List PyData → Option PyData} (T : Txt K mg) {f : Addr} {fd : FuncData} {cdv : Value} (D : DF K "is_between" "is_between" s_is_between f fd cdv) (h_is_whole : CF P w K mg base Ts 1 "is_whole" 1 c_is_whole) : FnOk P w K mg base CX0 2 f fd ["value", "least", "most"] (spD K Ts 3 (runD 3 (F_is_between c_is_whole))) := by
  refine D.ok sc_is_between fun A outer s H E hr => ?_
  have l_is_whole : 1 ≤ 1 := by decide
  exact (s_one (s_ret (d_and (d_call hr (CF.call h_is_whole) l_is_whole (by rfl) (da_cons (d_var 0) da_nil)) (d_one (d_lele (d_var 1) (d_var 0) (d_var 2))))))
/-! is_row_between -/
abbrev s_is_row_between : Stmt := top 12
theorem sc_is_row_between : FnScope ["value", "least", "most", "number"] ["value", "least", "most"] (defScope s_is_row_between) := ⟨rfl, rfl, rfl, by decide +kernel, rfl, by decide +kernel, by decide +kernel⟩
theorem ok_is_row_between {c_is_between : List PyData → Option PyData} (T : Txt K mg) {f : Addr} {fd : FuncData} {c Pt : Addr} (TB : LamX.TabB base mg c Pt) (hP : Pt ∈ Ts) (D : DF K "is_row_between" "is_row_between" s_is_row_between f fd (.ref c)) (h_is_between : CF P w K mg base Ts 2 "is_between" 3 c_is_between) : FnOk P w K mg base CX0 4 f fd ["value", "least", "most"] (spD K Ts 3 (runD 4 (F_is_row_between c_is_between))) := by
  refine D.ok sc_is_row_between fun A outer s H E hr => ?_
  have l_is_between : 2 ≤ 3 := by decide
  have l_is_betweeng : 2 ≤ 2 := by decide
  have l_gen : 2 + 1 ≤ 3 := by decide
  exact (s_one (s_ret (d_and (d_isi isi_tuple (by rfl) T.b_isinstance (by decide +kernel) (by rfl) T.b_tuple (by decide +kernel) (d_var 0)) (d_one (d_all (own := [("number", 3)]) hr (by rfl) T.b_all (by decide +kernel) TB hP rfl rfl sc_is_row_between.nd (di_seq (d_var 0)) (blkOk_by (own := [("number", 3)]) (N := ["value", "least", "most", "number"]) (sc := defScope s_is_row_between) (by decide +kernel)) (GA.genK_by (by decide +kernel)) (fun _ _ _ _ _ _ _ => (dg_name 3 sc_is_row_between.nd rfl (by first | exact Or.inl rfl | exact Or.inr rfl) (by decide))) (fun _ _ _ _ _ _ _ => (d_call (room_gen (hr.mono l_gen) _) (CF.call h_is_between) l_is_betweeng (by rfl) (da_cons (d_var 3) (da_cons (d_var 1) (da_cons (d_var 2) da_nil))))))))))
/-! ratio -/
abbrev s_ratio : Stmt := top 13
theorem sc_ratio : FnScope ["top", "bottom", "shared"] ["top", "bottom"] (defScope s_ratio) := ⟨rfl, rfl, rfl, by decide +kernel, rfl, by decide +kernel, by decide +kernel⟩
theorem ok_ratio (T : Txt K mg) {f : Addr} {fd : FuncData} {cdv : Value} (D : DF K "ratio" "ratio" s_ratio f fd cdv) : FnOk P w K mg base CX0 1 f fd ["top", "bottom"] (spD K Ts 2 (runD 3 (F_ratio))) := by
  refine D.ok sc_ratio fun A outer s H E hr => ?_
  exact (s_cons (s_set (i := 2) sc_ratio.nd rfl (by first | exact Or.inl rfl | exact Or.inr rfl) (d_gcd (by rfl) T.m_gcd (d_var 0) (d_var 1))) (s_one (s_ret (d_tup (da_cons (d_div (d_var 0) (d_var 2)) (da_cons (d_div (d_var 1) (d_var 2)) da_nil))))))
/-! is_less -/
abbrev s_is_less : Stmt := top 14
theorem sc_is_less : FnScope ["one", "other"] ["one", "other"] (defScope s_is_less) := ⟨rfl, rfl, rfl, by decide +kernel, rfl, by decide +kernel, by decide +kernel⟩
theorem ok_is_less (T : Txt K mg) {f : Addr} {fd : FuncData} {cdv : Value} (D : DF K "is_less" "is_less" s_is_less f fd cdv) : FnOk P w K mg base CX0 1 f fd ["one", "other"] (spD K Ts 2 (runD 2 (F_is_less))) := by
  refine D.ok sc_is_less fun A outer s H E hr => ?_
  exact (s_one (s_ret (d_lt (d_times (b_ix (d_b (d_var 0)) d_int) (b_ix (d_b (d_var 1)) d_int)) (d_times (b_ix (d_b (d_var 1)) d_int) (b_ix (d_b (d_var 0)) d_int)))))
/-! least_ratio -/
abbrev s_least_ratio : Stmt := top 15
theorem sc_least_ratio : FnScope ["ratios", "least", "one"] ["ratios"] (defScope s_least_ratio) := ⟨rfl, rfl, rfl, by decide +kernel, rfl, by decide +kernel, by decide +kernel⟩
theorem ok_least_ratio {c_is_less : List PyData → Option PyData} (T : Txt K mg) {f : Addr} {fd : FuncData} {cdv : Value} (D : DF K "least_ratio" "least_ratio" s_least_ratio f fd cdv) (h_is_less : CF P w K mg base Ts 1 "is_less" 2 c_is_less) : FnOk P w K mg base CX0 2 f fd ["ratios"] (spD K Ts 1 (runD 3 (F_least_ratio c_is_less))) := by
  refine D.ok sc_least_ratio fun A outer s H E hr => ?_
  have l_is_less : 1 ≤ 1 := by decide
  exact (s_cons (s_set (i := 1) sc_least_ratio.nd rfl (by first | exact Or.inl rfl | exact Or.inr rfl) (b_ix (d_b (d_var 0)) d_int)) (s_cons (s_for (vs := [2]) PassesOwn.never rfl (di_seq (d_var 0)) (dg_name 2 sc_least_ratio.nd rfl (by first | exact Or.inl rfl | exact Or.inr rfl) (by decide)) (s_one (s_if (dt_val (d_call hr (CF.call h_is_less) l_is_less (by rfl) (da_cons (d_var 2) (da_cons (d_var 1) da_nil)))) (s_one (s_set (i := 1) sc_least_ratio.nd rfl (by first | exact Or.inl rfl | exact Or.inr rfl) (d_var 2))) s_nil))) (s_one (s_ret (d_var 1)))))
/-! is_inflows -/
abbrev s_is_inflows : Stmt := top 19
theorem sc_is_inflows : FnScope ["value"] ["value"] (defScope s_is_inflows) := ⟨rfl, rfl, rfl, by decide +kernel, rfl, by decide +kernel, by decide +kernel⟩
theorem ok_is_inflows {c_is_row_between : List PyData → Option PyData} (T : Txt K mg) {f : Addr} {fd : FuncData} {cdv : Value} (D : DF K "is_inflows" "is_inflows" s_is_inflows f fd cdv) (h_is_row_between : CF P w K mg base Ts 4 "is_row_between" 3 c_is_row_between) : FnOk P w K mg base CX0 5 f fd ["value"] (spD K Ts 1 (runD 1 (F_is_inflows c_is_row_between))) := by
  refine D.ok sc_is_inflows fun A outer s H E hr => ?_
  have l_is_row_between : 4 ≤ 4 := by decide
  exact (s_one (s_ret (d_and (d_call hr (CF.call h_is_row_between) l_is_row_between (by rfl) (da_cons (d_var 0) (da_cons d_int (da_cons (d_globE (by rfl) T.k_MOST_WATER) da_nil)))) (d_one (d_lele d_int (d_len (by rfl) T.b_len (d_b (d_var 0))) (d_globE (by rfl) T.k_MOST_MONTHS))))))
/-! is_dam -/
abbrev s_is_dam : Stmt := top 20
theorem sc_is_dam : FnScope ["value", "capacity", "start", "end", "inflows"] ["value"] (defScope s_is_dam) := ⟨rfl, rfl, rfl, by decide +kernel, rfl, by decide +kernel, by decide +kernel⟩
theorem ok_is_dam {c_is_between c_is_inflows : List PyData → Option PyData} (T : Txt K mg) {f : Addr} {fd : FuncData} {cdv : Value} (D : DF K "is_dam" "is_dam" s_is_dam f fd cdv) (h_is_between : CF P w K mg base Ts 2 "is_between" 3 c_is_between) (h_is_inflows : CF P w K mg base Ts 5 "is_inflows" 1 c_is_inflows) : FnOk P w K mg base CX0 6 f fd ["value"] (spD K Ts 1 (runD 5 (F_is_dam c_is_between c_is_inflows))) := by
  refine D.ok sc_is_dam fun A outer s H E hr => ?_
  have l_is_between : 2 ≤ 5 := by decide
  have l_is_inflows : 5 ≤ 5 := by decide
  exact (s_cons (s_if (dt_not (dt_w (dw_and (dt_val (d_isi isi_tuple (by rfl) T.b_isinstance (by decide +kernel) (by rfl) T.b_tuple (by decide +kernel) (d_var 0))) (dw_and1 (dt_eq hr (d_len (by rfl) T.b_len (d_b (d_var 0))) d_int))))) (s_one (s_ret d_bl)) s_nil) (s_cons (s_bind (vs := [1, 2, 3, 4]) (d_var 0) (dg_tup rfl (dgs_cons (dg_name 1 sc_is_dam.nd rfl (by first | exact Or.inl rfl | exact Or.inr rfl) (by decide)) (dgs_cons (dg_name 2 sc_is_dam.nd rfl (by first | exact Or.inl rfl | exact Or.inr rfl) (by decide)) (dgs_cons (dg_name 3 sc_is_dam.nd rfl (by first | exact Or.inl rfl | exact Or.inr rfl) (by decide)) (dgs_cons (dg_name 4 sc_is_dam.nd rfl (by first | exact Or.inl rfl | exact Or.inr rfl) (by decide)) dgs_nil)))))) (s_cons (s_if (dt_not (dt_val (d_call hr (CF.call h_is_between) l_is_between (by rfl) (da_cons (d_var 1) (da_cons d_int (da_cons (d_globE (by rfl) T.k_MOST_WATER) da_nil)))))) (s_one (s_ret d_bl)) s_nil) (s_one (s_ret (d_and (d_call hr (CF.call h_is_between) l_is_between (by rfl) (da_cons (d_var 2) (da_cons d_int (da_cons (d_var 1) da_nil)))) (d_and (d_call hr (CF.call h_is_between) l_is_between (by rfl) (da_cons (d_var 3) (da_cons d_int (da_cons (d_var 1) da_nil)))) (d_one (d_call hr (CF.call h_is_inflows) l_is_inflows (by rfl) (da_cons (d_var 4) da_nil))))))))))
/-! check_dam -/
abbrev s_check_dam : Stmt := top 21
theorem sc_check_dam : FnScope ["dam"] ["dam"] (defScope s_check_dam) := ⟨rfl, rfl, rfl, by decide +kernel, rfl, by decide +kernel, by decide +kernel⟩
theorem ok_check_dam {c_is_dam : List PyData → Option PyData} (T : Txt K mg) {f : Addr} {fd : FuncData} {cdv : Value} (D : DF K "check_dam" "check_dam" s_check_dam f fd cdv) (h_is_dam : CF P w K mg base Ts 6 "is_dam" 1 c_is_dam) : FnOk P w K mg base CX0 7 f fd ["dam"] (spD K Ts 1 (runD 1 (F_check_dam c_is_dam))) := by
  refine D.ok sc_check_dam fun A outer s H E hr => ?_
  have l_is_dam : 6 ≤ 6 := by decide
  exact (s_one (s_if (dt_not (dt_val (d_call hr (CF.call h_is_dam) l_is_dam (by rfl) (da_cons (d_var 0) da_nil)))) (s_one s_never) s_nil))
/-! check_inflows -/
abbrev s_check_inflows : Stmt := top 22
theorem sc_check_inflows : FnScope ["inflows"] ["inflows"] (defScope s_check_inflows) := ⟨rfl, rfl, rfl, by decide +kernel, rfl, by decide +kernel, by decide +kernel⟩
theorem ok_check_inflows {c_is_inflows : List PyData → Option PyData} (T : Txt K mg) {f : Addr} {fd : FuncData} {cdv : Value} (D : DF K "check_inflows" "check_inflows" s_check_inflows f fd cdv) (h_is_inflows : CF P w K mg base Ts 5 "is_inflows" 1 c_is_inflows) : FnOk P w K mg base CX0 6 f fd ["inflows"] (spD K Ts 1 (runD 1 (F_check_inflows c_is_inflows))) := by
  refine D.ok sc_check_inflows fun A outer s H E hr => ?_
  have l_is_inflows : 5 ≤ 5 := by decide
  exact (s_one (s_if (dt_not (dt_val (d_call hr (CF.call h_is_inflows) l_is_inflows (by rfl) (da_cons (d_var 0) da_nil)))) (s_one s_never) s_nil))
/-! check_demands -/
abbrev s_check_demands : Stmt := top 23
theorem sc_check_demands : FnScope ["demands", "count"] ["demands", "count"] (defScope s_check_demands) := ⟨rfl, rfl, rfl, by decide +kernel, rfl, by decide +kernel, by decide +kernel⟩
theorem ok_check_demands {c_is_row_between : List PyData → Option PyData} (T : Txt K mg) {f : Addr} {fd : FuncData} {cdv : Value} (D : DF K "check_demands" "check_demands" s_check_demands f fd cdv) (h_is_row_between : CF P w K mg base Ts 4 "is_row_between" 3 c_is_row_between) : FnOk P w K mg base CX0 5 f fd ["demands", "count"] (spD K Ts 2 (runD 2 (F_check_demands c_is_row_between))) := by
  refine D.ok sc_check_demands fun A outer s H E hr => ?_
  have l_is_row_between : 4 ≤ 4 := by decide
  exact (s_one (s_if (dt_not (dt_w (dw_and (dt_val (d_call hr (CF.call h_is_row_between) l_is_row_between (by rfl) (da_cons (d_var 0) (da_cons d_int (da_cons (d_globE (by rfl) T.k_MOST_WATER) da_nil))))) (dw_and1 (dt_eq hr (d_len (by rfl) T.b_len (d_b (d_var 0))) (d_var 1)))))) (s_one s_never) s_nil))
/-! check_has_plan -/
abbrev s_check_has_plan : Stmt := top 24
theorem sc_check_has_plan : FnScope ["dam", "capacity", "held", "end", "inflows", "inflow"] ["dam"] (defScope s_check_has_plan) := ⟨rfl, rfl, rfl, by decide +kernel, rfl, by decide +kernel, by decide +kernel⟩
theorem ok_check_has_plan (T : Txt K mg) {f : Addr} {fd : FuncData} {cdv : Value} (D : DF K "check_has_plan" "check_has_plan" s_check_has_plan f fd cdv) : FnOk P w K mg base CX0 1 f fd ["dam"] (spD K Ts 1 (runD 6 (F_check_has_plan))) := by
  refine D.ok sc_check_has_plan fun A outer s H E hr => ?_
  exact (s_cons (s_bind (vs := [1, 2, 3, 4]) (d_var 0) (dg_tup rfl (dgs_cons (dg_name 1 sc_check_has_plan.nd rfl (by first | exact Or.inl rfl | exact Or.inr rfl) (by decide)) (dgs_cons (dg_name 2 sc_check_has_plan.nd rfl (by first | exact Or.inl rfl | exact Or.inr rfl) (by decide)) (dgs_cons (dg_name 3 sc_check_has_plan.nd rfl (by first | exact Or.inl rfl | exact Or.inr rfl) (by decide)) (dgs_cons (dg_name 4 sc_check_has_plan.nd rfl (by first | exact Or.inl rfl | exact Or.inr rfl) (by decide)) dgs_nil)))))) (s_cons (s_for (vs := [5]) PassesOwn.never rfl (di_seq (d_var 4)) (dg_name 5 sc_check_has_plan.nd rfl (by first | exact Or.inl rfl | exact Or.inr rfl) (by decide)) (s_one (s_set (i := 2) sc_check_has_plan.nd rfl (by first | exact Or.inl rfl | exact Or.inr rfl) (d_min2 rfl (by rfl) T.b_min (by decide +kernel) (d_var 1) (d_plus (d_var 2) (d_var 5)))))) (s_one (s_if (dt_lt (d_var 2) (d_var 3)) (s_one s_never) s_nil))))
/-! windows -/
abbrev s_windows : Stmt := top 26
theorem sc_windows : FnScope ["months", "first", "last"] ["months"] (defScope s_windows) := ⟨rfl, rfl, rfl, by decide +kernel, rfl, by decide +kernel, by decide +kernel⟩
theorem ok_windows (T : Txt K mg) {f : Addr} {fd : FuncData} {cdv : Value} (D : DF K "windows" "windows" s_windows f fd cdv) : FnOk P w K mg base CX0 1 f fd ["months"] (spD K Ts 1 (runD 3 (F_windows))) := by
  refine D.ok sc_windows fun A outer s H E hr => ?_
  exact (s_one (s_ret (d_lc2 (own := [("first", 1), ("last", 2)]) (vs1 := [2]) rfl sc_windows.nd (di_range1 (by rfl) T.b_range (d_var 0)) (blkOk_by (own := [("first", 1), ("last", 2)]) (N := ["months", "first", "last"]) (sc := defScope s_windows) (by decide +kernel)) (by decide) (fun _ _ _ _ _ => (dg_name 1 sc_windows.nd rfl (by first | exact Or.inl rfl | exact Or.inr rfl) (by decide))) (fun _ _ _ _ _ => dts_nil) (fun _ _ _ _ _ => (di_range2 (by rfl) T.b_range (d_var 1) (d_var 0))) (fun _ _ _ _ _ => (dg_name 2 sc_windows.nd rfl (by first | exact Or.inl rfl | exact Or.inr rfl) (by decide))) (fun _ _ _ _ _ => dts_nil) (fun _ _ _ _ _ => (d_tup (da_cons (d_var 1) (da_cons (d_var 2) da_nil)))))))
/-! in_window -/
abbrev s_in_window : Stmt := top 27
theorem sc_in_window : FnScope ["amounts", "window", "first", "last"] ["amounts", "window"] (defScope s_in_window) := ⟨rfl, rfl, rfl, by decide +kernel, rfl, by decide +kernel, by decide +kernel⟩
theorem ok_in_window (T : Txt K mg) {f : Addr} {fd : FuncData} {cdv : Value} (D : DF K "in_window" "in_window" s_in_window f fd cdv) : FnOk P w K mg base CX0 1 f fd ["amounts", "window"] (spD K Ts 2 (runD 4 (F_in_window))) := by
  refine D.ok sc_in_window fun A outer s H E hr => ?_
  exact (s_cons (s_bind (vs := [2, 3]) (d_var 1) (dg_tup rfl (dgs_cons (dg_name 2 sc_in_window.nd rfl (by first | exact Or.inl rfl | exact Or.inr rfl) (by decide)) (dgs_cons (dg_name 3 sc_in_window.nd rfl (by first | exact Or.inl rfl | exact Or.inr rfl) (by decide)) dgs_nil)))) (s_one (s_ret (b_cut (d_b (d_var 0)) (dp_some (d_var 2)) (dp_some (d_plus (d_var 3) d_int))))))
/-! most_water -/
abbrev s_most_water : Stmt := top 28
theorem sc_most_water : FnScope ["dam", "window", "capacity", "start", "_", "inflows", "held"] ["dam", "window"] (defScope s_most_water) := ⟨rfl, rfl, rfl, by decide +kernel, rfl, by decide +kernel, by decide +kernel⟩
theorem ok_most_water {c_in_window : List PyData → Option PyData} (T : Txt K mg) {f : Addr} {fd : FuncData} {cdv : Value} (D : DF K "most_water" "most_water" s_most_water f fd cdv) (h_in_window : CF P w K mg base Ts 1 "in_window" 2 c_in_window) : FnOk P w K mg base CX0 2 f fd ["dam", "window"] (spD K Ts 2 (runD 7 (F_most_water c_in_window))) := by
  refine D.ok sc_most_water fun A outer s H E hr => ?_
  have l_in_window : 1 ≤ 1 := by decide
  exact (s_cons (s_bind (vs := [2, 3, 4, 5]) (d_var 0) (dg_tup rfl (dgs_cons (dg_name 2 sc_most_water.nd rfl (by first | exact Or.inl rfl | exact Or.inr rfl) (by decide)) (dgs_cons (dg_name 3 sc_most_water.nd rfl (by first | exact Or.inl rfl | exact Or.inr rfl) (by decide)) (dgs_cons (dg_name 4 sc_most_water.nd rfl (by first | exact Or.inl rfl | exact Or.inr rfl) (by decide)) (dgs_cons (dg_name 5 sc_most_water.nd rfl (by first | exact Or.inl rfl | exact Or.inr rfl) (by decide)) dgs_nil)))))) (s_cons (s_set (i := 6) sc_most_water.nd rfl (by first | exact Or.inl rfl | exact Or.inr rfl) (d_if (dt_eq hr (b_ix (d_b (d_var 1)) d_int) d_int) (d_var 3) (d_var 2))) (s_one (s_ret (d_plus (d_var 6) (d_sum rfl (by rfl) T.b_sum (by decide +kernel) (d_b (d_call hr (CF.call h_in_window) l_in_window (by rfl) (da_cons (d_var 5) (da_cons (d_var 1) da_nil))))))))))
/-! spare_water -/
abbrev s_spare_water : Stmt := top 29
theorem sc_spare_water : FnScope ["dam", "window", "_", "end", "inflows", "water"] ["dam", "window"] (defScope s_spare_water) := ⟨rfl, rfl, rfl, by decide +kernel, rfl, by decide +kernel, by decide +kernel⟩
theorem ok_spare_water {c_most_water : List PyData → Option PyData} (T : Txt K mg) {f : Addr} {fd : FuncData} {cdv : Value} (D : DF K "spare_water" "spare_water" s_spare_water f fd cdv) (h_most_water : CF P w K mg base Ts 2 "most_water" 2 c_most_water) : FnOk P w K mg base CX0 3 f fd ["dam", "window"] (spD K Ts 2 (runD 6 (F_spare_water c_most_water))) := by
  refine D.ok sc_spare_water fun A outer s H E hr => ?_
  have l_most_water : 2 ≤ 2 := by decide
  exact (s_cons (s_bind (vs := [2, 2, 3, 4]) (d_var 0) (dg_tup rfl (dgs_cons (dg_name 2 sc_spare_water.nd rfl (by first | exact Or.inl rfl | exact Or.inr rfl) (by decide)) (dgs_cons (dg_name 2 sc_spare_water.nd rfl (by first | exact Or.inl rfl | exact Or.inr rfl) (by decide)) (dgs_cons (dg_name 3 sc_spare_water.nd rfl (by first | exact Or.inl rfl | exact Or.inr rfl) (by decide)) (dgs_cons (dg_name 4 sc_spare_water.nd rfl (by first | exact Or.inl rfl | exact Or.inr rfl) (by decide)) dgs_nil)))))) (s_cons (s_set (i := 5) sc_spare_water.nd rfl (by first | exact Or.inl rfl | exact Or.inr rfl) (d_call hr (CF.call h_most_water) l_most_water (by rfl) (da_cons (d_var 0) (da_cons (d_var 1) da_nil)))) (s_one (s_ret (d_if (dt_eq hr (b_ix (d_b (d_var 1)) d_int) (d_sub (d_len (by rfl) T.b_len (d_b (d_var 4))) d_int)) (d_sub (d_var 5) (d_var 3)) (d_var 5))))))
/-! window_yield -/
abbrev s_window_yield : Stmt := top 30
theorem sc_window_yield : FnScope ["dam", "window", "first", "last"] ["dam", "window"] (defScope s_window_yield) := ⟨rfl, rfl, rfl, by decide +kernel, rfl, by decide +kernel, by decide +kernel⟩
theorem ok_window_yield {c_ratio c_spare_water : List PyData → Option PyData} (T : Txt K mg) {f : Addr} {fd : FuncData} {cdv : Value} (D : DF K "window_yield" "window_yield" s_window_yield f fd cdv) (h_ratio : CF P w K mg base Ts 1 "ratio" 2 c_ratio) (h_spare_water : CF P w K mg base Ts 3 "spare_water" 2 c_spare_water) : FnOk P w K mg base CX0 4 f fd ["dam", "window"] (spD K Ts 2 (runD 4 (F_window_yield c_ratio c_spare_water))) := by
  refine D.ok sc_window_yield fun A outer s H E hr => ?_
  have l_ratio : 1 ≤ 3 := by decide
  have l_spare_water : 3 ≤ 3 := by decide
  exact (s_cons (s_bind (vs := [2, 3]) (d_var 1) (dg_tup rfl (dgs_cons (dg_name 2 sc_window_yield.nd rfl (by first | exact Or.inl rfl | exact Or.inr rfl) (by decide)) (dgs_cons (dg_name 3 sc_window_yield.nd rfl (by first | exact Or.inl rfl | exact Or.inr rfl) (by decide)) dgs_nil)))) (s_one (s_ret (d_call hr (CF.call h_ratio) l_ratio (by rfl) (da_cons (d_call hr (CF.call h_spare_water) l_spare_water (by rfl) (da_cons (d_var 0) (da_cons (d_var 1) da_nil))) (da_cons (d_plus (d_sub (d_var 3) (d_var 2)) d_int) da_nil))))))
/-! firm_yield -/
abbrev s_firm_yield : Stmt := top 31
theorem sc_firm_yield : FnScope ["dam", "window"] ["dam"] (defScope s_firm_yield) := ⟨rfl, rfl, rfl, by decide +kernel, rfl, by decide +kernel, by decide +kernel⟩
theorem ok_firm_yield {c_check_dam c_check_has_plan c_least_ratio c_windows c_window_yield : List PyData → Option PyData} (T : Txt K mg) {f : Addr} {fd : FuncData} {cdv : Value} (D : DF K "firm_yield" "firm_yield" s_firm_yield f fd cdv) (h_check_dam : CF P w K mg base Ts 7 "check_dam" 1 c_check_dam) (h_check_has_plan : CF P w K mg base Ts 1 "check_has_plan" 1 c_check_has_plan) (h_least_ratio : CF P w K mg base Ts 2 "least_ratio" 1 c_least_ratio) (h_windows : CF P w K mg base Ts 1 "windows" 1 c_windows) (h_window_yield : CF P w K mg base Ts 4 "window_yield" 2 c_window_yield) : FnOk P w K mg base CX0 8 f fd ["dam"] (spD K Ts 1 (runD 2 (F_firm_yield c_check_dam c_check_has_plan c_least_ratio c_windows c_window_yield))) := by
  refine D.ok sc_firm_yield fun A outer s H E hr => ?_
  have l_check_dam : 7 ≤ 7 := by decide
  have l_check_has_plan : 1 ≤ 7 := by decide
  have l_least_ratio : 2 ≤ 7 := by decide
  have l_windows : 1 ≤ 7 := by decide
  have l_window_yield : 4 ≤ 7 := by decide
  exact (s_cons (s_expr (d_call hr (CF.call h_check_dam) l_check_dam (by rfl) (da_cons (d_var 0) da_nil))) (s_cons (s_expr (d_call hr (CF.call h_check_has_plan) l_check_has_plan (by rfl) (da_cons (d_var 0) da_nil))) (s_one (s_ret (d_call hr (CF.call h_least_ratio) l_least_ratio (by rfl) (da_cons (d_lc (own := [("window", 1)]) rfl sc_firm_yield.nd (di_seq (d_call hr (CF.call h_windows) l_windows (by rfl) (da_cons (d_len (by rfl) T.b_len (d_b (b_ix (d_b (d_var 0)) d_int))) da_nil))) (blkOk_by (own := [("window", 1)]) (N := ["dam", "window"]) (sc := defScope s_firm_yield) (by decide +kernel)) (fun _ _ _ _ _ => (dg_name 1 sc_firm_yield.nd rfl (by first | exact Or.inl rfl | exact Or.inr rfl) (by decide))) (fun _ _ _ _ _ => dts_nil) (fun _ _ _ _ _ => (d_call hr (CF.call h_window_yield) l_window_yield (by rfl) (da_cons (d_var 0) (da_cons (d_var 1) da_nil))))) da_nil))))))
/-! firm_share -/
abbrev s_firm_share : Stmt := top 32
theorem sc_firm_share : FnScope ["dam", "demands", "shares", "window", "needed"] ["dam", "demands"] (defScope s_firm_share) := ⟨rfl, rfl, rfl, by decide +kernel, rfl, by decide +kernel, by decide +kernel⟩
theorem ok_firm_share {c_check_dam c_check_demands c_check_has_plan c_windows c_in_window c_ratio c_spare_water c_least_ratio : List PyData → Option PyData} (T : Txt K mg) {f : Addr} {fd : FuncData} {cdv : Value} (D : DF K "firm_share" "firm_share" s_firm_share f fd cdv) (h_check_dam : CF P w K mg base Ts 7 "check_dam" 1 c_check_dam) (h_check_demands : CF P w K mg base Ts 5 "check_demands" 2 c_check_demands) (h_check_has_plan : CF P w K mg base Ts 1 "check_has_plan" 1 c_check_has_plan) (h_windows : CF P w K mg base Ts 1 "windows" 1 c_windows) (h_in_window : CF P w K mg base Ts 1 "in_window" 2 c_in_window) (h_ratio : CF P w K mg base Ts 1 "ratio" 2 c_ratio) (h_spare_water : CF P w K mg base Ts 3 "spare_water" 2 c_spare_water) (h_least_ratio : CF P w K mg base Ts 2 "least_ratio" 1 c_least_ratio) : FnOk P w K mg base CX0 8 f fd ["dam", "demands"] (spD K Ts 2 (runD 5 (F_firm_share c_check_dam c_check_demands c_check_has_plan c_windows c_in_window c_ratio c_spare_water c_least_ratio))) := by
  refine D.ok sc_firm_share fun A outer s H E hr => ?_
  have l_check_dam : 7 ≤ 7 := by decide
  have l_check_demands : 5 ≤ 7 := by decide
  have l_check_has_plan : 1 ≤ 7 := by decide
  have l_windows : 1 ≤ 7 := by decide
  have l_in_window : 1 ≤ 7 := by decide
  have l_ratio : 1 ≤ 7 := by decide
  have l_spare_water : 3 ≤ 7 := by decide
  have l_least_ratio : 2 ≤ 7 := by decide
  exact (s_cons (s_expr (d_call hr (CF.call h_check_dam) l_check_dam (by rfl) (da_cons (d_var 0) da_nil))) (s_cons (s_expr (d_call hr (CF.call h_check_demands) l_check_demands (by rfl) (da_cons (d_var 1) (da_cons (d_len (by rfl) T.b_len (d_b (b_ix (d_b (d_var 0)) d_int))) da_nil)))) (s_cons (s_if (dt_eq hr (d_sum rfl (by rfl) T.b_sum (by decide +kernel) (d_b (d_var 1))) d_int) (s_one s_never) s_nil) (s_cons (s_expr (d_call hr (CF.call h_check_has_plan) l_check_has_plan (by rfl) (da_cons (d_var 0) da_nil))) (s_cons (s_own (i := 2) sc_firm_share.nd rfl (by first | exact Or.inl rfl | exact Or.inr rfl) (n_lst da_nil)) (s_cons (s_for (vs := [3]) PassesOwn.never rfl (di_seq (d_call hr (CF.call h_windows) l_windows (by rfl) (da_cons (d_len (by rfl) T.b_len (d_b (d_var 1))) da_nil))) (dg_name 3 sc_firm_share.nd rfl (by first | exact Or.inl rfl | exact Or.inr rfl) (by decide)) (s_cons (s_set (i := 4) sc_firm_share.nd rfl (by first | exact Or.inl rfl | exact Or.inr rfl) (d_sum rfl (by rfl) T.b_sum (by decide +kernel) (d_b (d_call hr (CF.call h_in_window) l_in_window (by rfl) (da_cons (d_var 1) (da_cons (d_var 3) da_nil)))))) (s_one (s_if (dt_gt (d_var 4) d_int) (s_one (s_app (i := 2) (ha := (d_call hr (CF.call h_ratio) l_ratio (by rfl) (da_cons (d_call hr (CF.call h_spare_water) l_spare_water (by rfl) (da_cons (d_var 0) (da_cons (d_var 3) da_nil))) (da_cons (d_var 4) da_nil)))))) s_nil)))) (s_rel 2 (s_one (s_ret (d_call hr (CF.call h_least_ratio) l_least_ratio (by rfl) (da_cons (d_var 2) da_nil)))))))))))
/-! round_yield -/
abbrev s_round_yield : Stmt := top 33
theorem sc_round_yield : FnScope ["capacity", "inflows", "months", "twice", "yields", "first", "count"] ["capacity", "inflows"] (defScope s_round_yield) := ⟨rfl, rfl, rfl, by decide +kernel, rfl, by decide +kernel, by decide +kernel⟩
theorem ok_round_yield {c_is_between c_check_inflows c_ratio c_least_ratio : List PyData → Option PyData} (T : Txt K mg) {f : Addr} {fd : FuncData} {cdv : Value} (D : DF K "round_yield" "round_yield" s_round_yield f fd cdv) (h_is_between : CF P w K mg base Ts 2 "is_between" 3 c_is_between) (h_check_inflows : CF P w K mg base Ts 6 "check_inflows" 1 c_check_inflows) (h_ratio : CF P w K mg base Ts 1 "ratio" 2 c_ratio) (h_least_ratio : CF P w K mg base Ts 2 "least_ratio" 1 c_least_ratio) : FnOk P w K mg base CX0 7 f fd ["capacity", "inflows"] (spD K Ts 2 (runD 7 (F_round_yield c_is_between c_check_inflows c_ratio c_least_ratio))) := by
  refine D.ok sc_round_yield fun A outer s H E hr => ?_
  have l_is_between : 2 ≤ 6 := by decide
  have l_check_inflows : 6 ≤ 6 := by decide
  have l_ratio : 1 ≤ 6 := by decide
  have l_least_ratio : 2 ≤ 6 := by decide
  exact (s_cons (s_if (dt_not (dt_val (d_call hr (CF.call h_is_between) l_is_between (by rfl) (da_cons (d_var 0) (da_cons d_int (da_cons (d_globE (by rfl) T.k_MOST_WATER) da_nil)))))) (s_one s_never) s_nil) (s_cons (s_expr (d_call hr (CF.call h_check_inflows) l_check_inflows (by rfl) (da_cons (d_var 1) da_nil))) (s_cons (s_set (i := 2) sc_round_yield.nd rfl (by first | exact Or.inl rfl | exact Or.inr rfl) (d_len (by rfl) T.b_len (d_b (d_var 1)))) (s_cons (s_set (i := 3) sc_round_yield.nd rfl (by first | exact Or.inl rfl | exact Or.inr rfl) (d_plus (d_var 1) (d_var 1))) (s_cons (s_own (i := 4) sc_round_yield.nd rfl (by first | exact Or.inl rfl | exact Or.inr rfl) (n_lst (da_cons (d_call hr (CF.call h_ratio) l_ratio (by rfl) (da_cons (d_sum rfl (by rfl) T.b_sum (by decide +kernel) (d_b (d_var 1))) (da_cons (d_var 2) da_nil))) da_nil))) (s_cons (s_for (vs := [5]) PassesOwn.never rfl (di_range1 (by rfl) T.b_range (d_var 2)) (dg_name 5 sc_round_yield.nd rfl (by first | exact Or.inl rfl | exact Or.inr rfl) (by decide)) (s_one (s_for (vs := [6]) PassesOwn.never rfl (di_range2 (by rfl) T.b_range d_int (d_plus (d_var 2) d_int)) (dg_name 6 sc_round_yield.nd rfl (by first | exact Or.inl rfl | exact Or.inr rfl) (by decide)) (s_one (s_app (i := 4) (ha := (d_call hr (CF.call h_ratio) l_ratio (by rfl) (da_cons (d_plus (d_var 0) (d_sum rfl (by rfl) T.b_sum (by decide +kernel) (d_b (b_cut (d_b (d_var 3)) (dp_some (d_var 5)) (dp_some (d_plus (d_var 5) (d_var 6))))))) (da_cons (d_var 6) da_nil))))))))) (s_rel 4 (s_one (s_ret (d_call hr (CF.call h_least_ratio) l_least_ratio (by rfl) (da_cons (d_var 4) da_nil)))))))))))
/-! check_rows -/
abbrev s_check_rows : Stmt := top 35
theorem sc_check_rows : FnScope ["inflows", "demands", "is_round"] ["inflows", "demands", "is_round"] (defScope s_check_rows) := ⟨rfl, rfl, rfl, by decide +kernel, rfl, by decide +kernel, by decide +kernel⟩
theorem ok_check_rows {c_check_inflows c_check_demands : List PyData → Option PyData} (T : Txt K mg) {f : Addr} {fd : FuncData} {cdv : Value} (D : DF K "check_rows" "check_rows" s_check_rows f fd cdv) (h_check_inflows : CF P w K mg base Ts 6 "check_inflows" 1 c_check_inflows) (h_check_demands : CF P w K mg base Ts 5 "check_demands" 2 c_check_demands) : FnOk P w K mg base CX0 7 f fd ["inflows", "demands", "is_round"] (spD K Ts 3 (runD 3 (F_check_rows c_check_inflows c_check_demands))) := by
  refine D.ok sc_check_rows fun A outer s H E hr => ?_
  have l_check_inflows : 6 ≤ 6 := by decide
  have l_check_demands : 5 ≤ 6 := by decide
  exact (s_cons (s_expr (d_call hr (CF.call h_check_inflows) l_check_inflows (by rfl) (da_cons (d_var 0) da_nil))) (s_cons (s_expr (d_call hr (CF.call h_check_demands) l_check_demands (by rfl) (da_cons (d_var 1) (da_cons (d_len (by rfl) T.b_len (d_b (d_var 0))) da_nil)))) (s_one (s_if (dt_not (dt_val (d_isi isi_bool (by rfl) T.b_isinstance (by decide +kernel) (by rfl) T.b_bool (by decide +kernel) (d_var 2)))) (s_one s_never) s_nil))))
/-! rows_of_months -/
abbrev s_rows_of_months : Stmt := top 36
theorem sc_rows_of_months : FnScope ["months", "is_round", "first", "count"] ["months", "is_round"] (defScope s_rows_of_months) := ⟨rfl, rfl, rfl, by decide +kernel, rfl, by decide +kernel, by decide +kernel⟩
theorem ok_rows_of_months (T : Txt K mg) {f : Addr} {fd : FuncData} {cdv : Value} (D : DF K "rows_of_months" "rows_of_months" s_rows_of_months f fd cdv) : FnOk P w K mg base CX0 1 f fd ["months", "is_round"] (spD K Ts 2 (runD 4 (F_rows_of_months))) := by
  refine D.ok sc_rows_of_months fun A outer s H E hr => ?_
  exact (s_one (s_ret (d_lc2 (own := [("first", 2), ("count", 3)]) (vs1 := [3]) rfl sc_rows_of_months.nd (di_range1 (by rfl) T.b_range (d_var 0)) (blkOk_by (own := [("first", 2), ("count", 3)]) (N := ["months", "is_round", "first", "count"]) (sc := defScope s_rows_of_months) (by decide +kernel)) (by decide) (fun _ _ _ _ _ => (dg_name 2 sc_rows_of_months.nd rfl (by first | exact Or.inl rfl | exact Or.inr rfl) (by decide))) (fun _ _ _ _ _ => dts_nil) (fun _ _ _ _ _ => (di_range2 (by rfl) T.b_range d_int (d_plus (d_if (dt_val (d_var 1)) (d_var 0) (d_sub (d_var 0) (d_var 2))) d_int))) (fun _ _ _ _ _ => (dg_name 3 sc_rows_of_months.nd rfl (by first | exact Or.inl rfl | exact Or.inr rfl) (by decide))) (fun _ _ _ _ _ => dts_nil) (fun _ _ _ _ _ => (d_tup (da_cons (d_var 2) (da_cons (d_var 3) da_nil)))))))
/-! lack_of_row -/
abbrev s_lack_of_row : Stmt := top 37
theorem sc_lack_of_row : FnScope ["inflows", "demands", "row", "first", "count", "needed", "coming"] ["inflows", "demands", "row"] (defScope s_lack_of_row) := ⟨rfl, rfl, rfl, by decide +kernel, rfl, by decide +kernel, by decide +kernel⟩
theorem ok_lack_of_row (T : Txt K mg) {f : Addr} {fd : FuncData} {cdv : Value} (D : DF K "lack_of_row" "lack_of_row" s_lack_of_row f fd cdv) : FnOk P w K mg base CX0 1 f fd ["inflows", "demands", "row"] (spD K Ts 3 (runD 7 (F_lack_of_row))) := by
  refine D.ok sc_lack_of_row fun A outer s H E hr => ?_
  exact (s_cons (s_bind (vs := [3, 4]) (d_var 2) (dg_tup rfl (dgs_cons (dg_name 3 sc_lack_of_row.nd rfl (by first | exact Or.inl rfl | exact Or.inr rfl) (by decide)) (dgs_cons (dg_name 4 sc_lack_of_row.nd rfl (by first | exact Or.inl rfl | exact Or.inr rfl) (by decide)) dgs_nil)))) (s_cons (s_set (i := 5) sc_lack_of_row.nd rfl (by first | exact Or.inl rfl | exact Or.inr rfl) (b_cut (d_b (d_plus (d_var 1) (d_var 1))) (dp_some (d_var 3)) (dp_some (d_plus (d_var 3) (d_var 4))))) (s_cons (s_set (i := 6) sc_lack_of_row.nd rfl (by first | exact Or.inl rfl | exact Or.inr rfl) (b_cut (d_b (d_plus (d_var 0) (d_var 0))) (dp_some (d_var 3)) (dp_some (d_plus (d_var 3) (d_var 4))))) (s_one (s_ret (d_sub (d_sum rfl (by rfl) T.b_sum (by decide +kernel) (d_b (d_var 5))) (d_sum rfl (by rfl) T.b_sum (by decide +kernel) (d_b (d_var 6)))))))))
/-! found_storage -/
abbrev s_found_storage : Stmt := top 38
theorem sc_found_storage : FnScope ["inflows", "demands", "is_round", "rows", "row"] ["inflows", "demands", "is_round"] (defScope s_found_storage) := ⟨rfl, rfl, rfl, by decide +kernel, rfl, by decide +kernel, by decide +kernel⟩
theorem ok_found_storage {c_rows_of_months c_lack_of_row : List PyData → Option PyData} (T : Txt K mg) {f : Addr} {fd : FuncData} {cdv : Value} (D : DF K "found_storage" "found_storage" s_found_storage f fd cdv) (h_rows_of_months : CF P w K mg base Ts 1 "rows_of_months" 2 c_rows_of_months) (h_lack_of_row : CF P w K mg base Ts 1 "lack_of_row" 3 c_lack_of_row) : FnOk P w K mg base CX0 2 f fd ["inflows", "demands", "is_round"] (spD K Ts 3 (runD 5 (F_found_storage c_rows_of_months c_lack_of_row))) := by
  refine D.ok sc_found_storage fun A outer s H E hr => ?_
  have l_rows_of_months : 1 ≤ 1 := by decide
  have l_lack_of_row : 1 ≤ 1 := by decide
  exact (s_cons (s_if (dt_w (dw_and (dt_val (d_var 2)) (dw_and1 (dt_gt (d_sum rfl (by rfl) T.b_sum (by decide +kernel) (d_b (d_var 1))) (d_sum rfl (by rfl) T.b_sum (by decide +kernel) (d_b (d_var 0))))))) (s_one (s_ret d_non)) s_nil) (s_cons (s_set (i := 3) sc_found_storage.nd rfl (by first | exact Or.inl rfl | exact Or.inr rfl) (d_call hr (CF.call h_rows_of_months) l_rows_of_months (by rfl) (da_cons (d_len (by rfl) T.b_len (d_b (d_var 0))) (da_cons (d_var 2) da_nil)))) (s_one (s_ret (d_max2 rfl (by rfl) T.b_max (by decide +kernel) d_int (d_maxL rfl (by rfl) T.b_max (by decide +kernel) (d_b (d_lc (own := [("row", 4)]) rfl sc_found_storage.nd (di_seq (d_var 3)) (blkOk_by (own := [("row", 4)]) (N := ["inflows", "demands", "is_round", "rows", "row"]) (sc := defScope s_found_storage) (by decide +kernel)) (fun _ _ _ _ _ => (dg_name 4 sc_found_storage.nd rfl (by first | exact Or.inl rfl | exact Or.inr rfl) (by decide))) (fun _ _ _ _ _ => dts_nil) (fun _ _ _ _ _ => (d_call hr (CF.call h_lack_of_row) l_lack_of_row (by rfl) (da_cons (d_var 0) (da_cons (d_var 1) (da_cons (d_var 4) da_nil)))))))))))))
/-! least_storage -/
abbrev s_least_storage : Stmt := top 39
theorem sc_least_storage : FnScope ["inflows", "demands", "is_round"] ["inflows", "demands", "is_round"] (defScope s_least_storage) := ⟨rfl, rfl, rfl, by decide +kernel, rfl, by decide +kernel, by decide +kernel⟩
theorem ok_least_storage {c_check_rows c_found_storage : List PyData → Option PyData} (T : Txt K mg) {f : Addr} {fd : FuncData} {cdv : Value} (D : DF K "least_storage" "least_storage" s_least_storage f fd cdv) (h_check_rows : CF P w K mg base Ts 7 "check_rows" 3 c_check_rows) (h_found_storage : CF P w K mg base Ts 2 "found_storage" 3 c_found_storage) : FnOk P w K mg base CX0 8 f fd ["inflows", "demands", "is_round"] (spD K Ts 3 (runD 3 (F_least_storage c_check_rows c_found_storage))) := by
  refine D.ok sc_least_storage fun A outer s H E hr => ?_
  have l_check_rows : 7 ≤ 7 := by decide
  have l_found_storage : 2 ≤ 7 := by decide
  exact (s_cons (s_expr (d_call hr (CF.call h_check_rows) l_check_rows (by rfl) (da_cons (d_var 0) (da_cons (d_var 1) (da_cons (d_var 2) da_nil))))) (s_one (s_ret (d_call hr (CF.call h_found_storage) l_found_storage (by rfl) (da_cons (d_var 0) (da_cons (d_var 1) (da_cons (d_var 2) da_nil)))))))
/-! _law_ratio -/
abbrev s__law_ratio : Stmt := top 44
theorem sc__law_ratio : FnScope ["top", "bottom", "one", "other"] ["top", "bottom"] (defScope s__law_ratio) := ⟨rfl, rfl, rfl, by decide +kernel, rfl, by decide +kernel, by decide +kernel⟩
theorem ok__law_ratio (w0 : En → Nat) (T : Txt K mg) {f : Addr} {fd : FuncData} {cdv : Value} (D : DF K "_law_ratio" "_law_ratio" s__law_ratio f fd cdv) : FnOk P w K mg base CX0 1 f fd ["top", "bottom"] (spD K Ts 2 (runD 4 (F__law_ratio w0))) := by
  refine D.ok sc__law_ratio fun A outer s H E hr => ?_
  exact (s_cons (s_par (i := 2) (j := 3) rfl sc__law_ratio.nd rfl rfl (by decide) rfl rfl (d_abs (by rfl) T.b_abs (by decide +kernel) (d_var 0)) (d_abs (by rfl) T.b_abs (by decide +kernel) (d_var 1)) (by rfl)) (s_cons (s_while w0 PassesOwn.never (dt_ne hr (d_var 3) d_int) (s_one (s_par (i := 2) (j := 3) rfl sc__law_ratio.nd rfl rfl (by decide) rfl rfl (d_var 3) (d_mod (d_toInt (by rfl) T.b_int (by decide +kernel) (d_var 2)) (d_var 3)) (by rfl)))) (s_one (s_ret (d_if (dt_gt (d_var 1) d_int) (d_tup (da_cons (d_div (d_var 0) (d_var 2)) (da_cons (d_div (d_var 1) (d_var 2)) da_nil))) (d_tup (da_cons (d_sub d_int (d_div (d_var 0) (d_var 2))) (da_cons (d_sub d_int (d_div (d_var 1) (d_var 2))) da_nil))))))))
/-! _law_by -/
abbrev s__law_by : Stmt := top 46
theorem sc__law_by : FnScope ["one", "other"] ["one", "other"] (defScope s__law_by) := ⟨rfl, rfl, rfl, by decide +kernel, rfl, by decide +kernel, by decide +kernel⟩
theorem ok__law_by {c__law_ratio : List PyData → Option PyData} (T : Txt K mg) {f : Addr} {fd : FuncData} {cdv : Value} (D : DF K "_law_by" "_law_by" s__law_by f fd cdv) (h__law_ratio : CF P w K mg base Ts 1 "_law_ratio" 2 c__law_ratio) : FnOk P w K mg base CX0 2 f fd ["one", "other"] (spD K Ts 2 (runD 2 (F__law_by c__law_ratio))) := by
  refine D.ok sc__law_by fun A outer s H E hr => ?_
  have l__law_ratio : 1 ≤ 1 := by decide
  exact (s_one (s_ret (d_call hr (CF.call h__law_ratio) l__law_ratio (by rfl) (da_cons (d_times (b_ix (d_b (d_var 0)) d_int) (b_ix (d_b (d_var 1)) d_int)) (da_cons (d_times (b_ix (d_b (d_var 0)) d_int) (b_ix (d_b (d_var 1)) d_int)) da_nil)))))
/-! _law_less -/
abbrev s__law_less : Stmt := top 48
theorem sc__law_less : FnScope ["one", "other"] ["one", "other"] (defScope s__law_less) := ⟨rfl, rfl, rfl, by decide +kernel, rfl, by decide +kernel, by decide +kernel⟩
theorem ok__law_less (T : Txt K mg) {f : Addr} {fd : FuncData} {cdv : Value} (D : DF K "_law_less" "_law_less" s__law_less f fd cdv) : FnOk P w K mg base CX0 1 f fd ["one", "other"] (spD K Ts 2 (runD 2 (F__law_less))) := by
  refine D.ok sc__law_less fun A outer s H E hr => ?_
  exact (s_one (s_ret (d_lt (d_times (b_ix (d_b (d_var 0)) d_int) (b_ix (d_b (d_var 1)) d_int)) (d_times (b_ix (d_b (d_var 1)) d_int) (b_ix (d_b (d_var 0)) d_int)))))
/-! law -/
abbrev s_law : Stmt := top 56
theorem sc_law : FnScope ["script", "row", "many", "capacity", "inflows", "demand", "dam", "equal", "gives", "round_least", "demands", "fits", "size", "one"] ["script"] (defScope s_law) := ⟨rfl, rfl, rfl, by decide +kernel, rfl, by decide +kernel, by decide +kernel⟩
def F_row : En → Option PyData := (fLst (fCons (fVar 0) (fCons (fLit (.int 0)) (fCons (fLit (.int 4448)) (fCons (fLit (.int 0)) fNil)))))
def F_tail (c__law_less c_firm_yield c_least_storage c_round_yield c_firm_share c__law_by : List PyData → Option PyData) : En → Option Fl := (sSeq (sIf (fT (fGt (fTimes (fMaxT (fVar 10)) (fVar 12)) (fLit (.int 1000)))) (sRet (fLit (.bool true))) sNil) (sRet (fEq (fCall 2 c__law_by (fCons (fTup (fCons (fVar 12) (fCons (fLit (.int 1)) fNil))) (fCons (fCall 2 c_firm_share (fCons (fVar 6) (fCons (fTuple (fLc (iSeq (fVar 10)) (bName 13) kYes (fTimes (fVar 13) (fVar 12)) [13])) fNil))) fNil))) (fCall 2 c_firm_share (fCons (fVar 6) (fCons (fVar 10) fNil))))))
def F_law (c__law_less c_firm_yield c_least_storage c_round_yield c_firm_share c__law_by : List PyData → Option PyData) : LF := (lSeq (lPar 2 3 (w2 gPlus (wP 1 (fLit (.int 1))) (wDraw 1 cTaken (wCons (wP 1 (fLit (.int 8))) wNil))) (wDraw 1 cPick (wCons (wLst (wCons (wP 1 (fLit (.int 0))) (wCons (wP 1 (fLit (.int 1))) (wCons (wP 1 (fLit (.int 10))) (wCons (wDraw 1 cTaken (wCons (wP 1 (fLit (.int 60))) wNil)) wNil))))) wNil))) (lSeq (lPar 4 5 (wDraw 1 cDemands (wCons (wP 1 (fVar 2)) wNil)) (wDraw 1 cTaken (wCons (wP 1 (fLit (.int 30))) wNil))) (lSeq (lPar 6 7 (wP 1 (fTup (fCons (fVar 3) (fCons (fVar 3) (fCons (fLit (.int 0)) (fCons (fVar 4) fNil)))))) (wP 1 (fTimes (fTup (fCons (fVar 5) fNil)) (fVar 2)))) (lSeq (lSet 8 (wP 1 (fNot (fCall 2 c__law_less (fCons (fCall 1 c_firm_yield (fCons (fVar 6) fNil)) (fCons (fTup (fCons (fVar 5) (fCons (fLit (.int 1)) fNil))) fNil)))))) (lSeq (lIf (wT 1 (fT (fNe (fVar 8) (fLe (fCall 3 c_least_storage (fCons (fVar 4) (fCons (fVar 7) (fCons (fLit (.bool false)) fNil)))) (fVar 3))))) (lRet (wP 1 (fLit (.bool false)))) lNil) (lSeq (lSet 9 (wP 1 (fCall 3 c_least_storage (fCons (fVar 4) (fCons (fVar 7) (fCons (fLit (.bool true)) fNil)))))) (lSeq (lSet 8 (wP 1 (fNot (fCall 2 c__law_less (fCons (fCall 2 c_round_yield (fCons (fVar 3) (fCons (fVar 4) fNil))) (fCons (fTup (fCons (fVar 5) (fCons (fLit (.int 1)) fNil))) fNil)))))) (lSeq (lIf (wT 1 (fT (fNe (fVar 8) (fAnd (fNotN (fVar 9) (fLit .none)) (fLe (fVar 9) (fVar 3)))))) (lRet (wP 1 (fLit (.bool false)))) lNil) (lSeq (lSet 10 (wDraw 1 cDemands (wCons (wP 1 (fVar 2)) wNil))) (lSeq (lIf (wT 1 (fT (fEq (fMaxT (fVar 10)) (fLit (.int 0))))) (lRet (wP 1 (fLit (.bool true)))) lNil) (lSeq (lSet 11 (wP 1 (fNot (fCall 2 c__law_less (fCons (fCall 2 c_firm_share (fCons (fVar 6) (fCons (fVar 10) fNil))) (fCons (fTup (fCons (fLit (.int 1)) (fCons (fLit (.int 1)) fNil))) fNil)))))) (lSeq (lIf (wT 1 (fT (fNe (fVar 11) (fLe (fCall 3 c_least_storage (fCons (fVar 4) (fCons (fVar 10) (fCons (fLit (.bool false)) fNil)))) (fVar 3))))) (lRet (wP 1 (fLit (.bool false)))) lNil) (lSeq (lSet 12 (w2 gPlus (wP 1 (fLit (.int 2))) (wDraw 1 cTaken (wCons (wP 1 (fLit (.int 3))) wNil)))) (lEnd 1 (F_tail c__law_less c_firm_yield c_least_storage c_round_yield c_firm_share c__law_by)))))))))))))))
theorem ok_law {c__law_less c_firm_yield c_least_storage c_round_yield c_firm_share c__law_by : List PyData → Option PyData} (T : Txt K mg) {f : Addr} {fd : FuncData} {cdv : Value} (D : DF K "law" "law" s_law f fd cdv) (h__law_less : CF P w K mg base Ts 1 "_law_less" 2 c__law_less) (h_firm_yield : CF P w K mg base Ts 8 "firm_yield" 1 c_firm_yield) (h_least_storage : CF P w K mg base Ts 8 "least_storage" 3 c_least_storage) (h_round_yield : CF P w K mg base Ts 7 "round_yield" 2 c_round_yield) (h_firm_share : CF P w K mg base Ts 8 "firm_share" 2 c_firm_share) (h__law_by : CF P w K mg base Ts 2 "_law_by" 2 c__law_by) (h__law_taken : CW P w K mg base Ts 1 "_law_taken" 1 cTaken) (h__law_pick : CW P w K mg base Ts 2 "_law_pick" 1 cPick) (h__law_demands : CW P w K mg base Ts 4 "_law_demands" 1 cDemands)
    (hF : ∀ ns : List Int, ns.length ≤ 63 → ∃ rw, RowOk rw ∧ F_row (lawEn 14 ns) = some (.list rw) ∧ ∀ en', (∃ rw', en' = (lawEn 14 ns).set 1 (.own rw')) → F_law c__law_less c_firm_yield c_least_storage c_round_yield c_firm_share c__law_by en' fun r => r = .rt (.bool true)) : FnOk P w K mg base CX0 9 f fd ["script"] (spLaw K Ts) := by
  refine D.okL (ρ := 1) sc_law (by decide) rfl (by decide) (fun A outer s H E hr => ?_) (fun A outer s H E hr => ?_) hF
  · exact s_own (i := 1) sc_law.nd rfl (by first | exact Or.inl rfl | exact Or.inr rfl) (n_lst (da_cons (d_var 0) (da_cons d_int (da_cons d_int (da_cons d_int da_nil)))))
  · have l__law_less : 1 ≤ 8 := by decide
    have l_firm_yield : 8 ≤ 8 := by decide
    have l_least_storage : 8 ≤ 8 := by decide
    have l_round_yield : 7 ≤ 8 := by decide
    have l_firm_share : 8 ≤ 8 := by decide
    have l__law_by : 2 ≤ 8 := by decide
    have l__law_taken : 1 ≤ 8 := by decide
    have l__law_pick : 2 ≤ 8 := by decide
    have l__law_demands : 4 ≤ 8 := by decide
    exact (l_cons (l_par (i := 2) (j := 3) rfl sc_law.nd rfl rfl (by decide) (by decide) (by decide) rfl rfl (we_plus (we_pure d_int) (we_draw hr h__law_taken l__law_taken (by rfl) rfl (by first | exact Or.inl rfl | exact Or.inr (Or.inl rfl) | exact Or.inr (Or.inr rfl)) (wa_cons (we_pure d_int) wa_nil))) (we_draw hr h__law_pick l__law_pick (by rfl) rfl (by first | exact Or.inl rfl | exact Or.inr (Or.inl rfl) | exact Or.inr (Or.inr rfl)) (wa_cons (we_lst (wa_cons (we_pure d_int) (wa_cons (we_pure d_int) (wa_cons (we_pure d_int) (wa_cons (we_draw hr h__law_taken l__law_taken (by rfl) rfl (by first | exact Or.inl rfl | exact Or.inr (Or.inl rfl) | exact Or.inr (Or.inr rfl)) (wa_cons (we_pure d_int) wa_nil)) wa_nil))))) wa_nil)) (by rfl)) (l_cons (l_par (i := 4) (j := 5) rfl sc_law.nd rfl rfl (by decide) (by decide) (by decide) rfl rfl (we_draw hr h__law_demands l__law_demands (by rfl) rfl (by first | exact Or.inl rfl | exact Or.inr (Or.inl rfl) | exact Or.inr (Or.inr rfl)) (wa_cons (we_pure (d_var 2)) wa_nil)) (we_draw hr h__law_taken l__law_taken (by rfl) rfl (by first | exact Or.inl rfl | exact Or.inr (Or.inl rfl) | exact Or.inr (Or.inr rfl)) (wa_cons (we_pure d_int) wa_nil)) (by rfl)) (l_cons (l_par (i := 6) (j := 7) rfl sc_law.nd rfl rfl (by decide) (by decide) (by decide) rfl rfl (we_pure (d_tup (da_cons (d_var 3) (da_cons (d_var 3) (da_cons d_int (da_cons (d_var 4) da_nil)))))) (we_pure (d_times (d_tup (da_cons (d_var 5) da_nil)) (d_var 2))) (by rfl)) (l_cons (l_set (i := 8) sc_law.nd rfl (by first | exact Or.inl rfl | exact Or.inr rfl) (by decide) (we_pure (d_not (d_call hr (CF.call h__law_less) l__law_less (by rfl) (da_cons (d_call hr (CF.call h_firm_yield) l_firm_yield (by rfl) (da_cons (d_var 6) da_nil)) (da_cons (d_tup (da_cons (d_var 5) (da_cons d_int da_nil))) da_nil)))))) (l_cons (l_if (wt_pure (dt_ne hr (d_var 8) (d_le (d_call hr (CF.call h_least_storage) l_least_storage (by rfl) (da_cons (d_var 4) (da_cons (d_var 7) (da_cons d_bl da_nil)))) (d_var 3)))) (l_one (l_ret (we_pure d_bl))) l_nil) (l_cons (l_set (i := 9) sc_law.nd rfl (by first | exact Or.inl rfl | exact Or.inr rfl) (by decide) (we_pure (d_call hr (CF.call h_least_storage) l_least_storage (by rfl) (da_cons (d_var 4) (da_cons (d_var 7) (da_cons d_bl da_nil)))))) (l_cons (l_set (i := 8) sc_law.nd rfl (by first | exact Or.inl rfl | exact Or.inr rfl) (by decide) (we_pure (d_not (d_call hr (CF.call h__law_less) l__law_less (by rfl) (da_cons (d_call hr (CF.call h_round_yield) l_round_yield (by rfl) (da_cons (d_var 3) (da_cons (d_var 4) da_nil))) (da_cons (d_tup (da_cons (d_var 5) (da_cons d_int da_nil))) da_nil)))))) (l_cons (l_if (wt_pure (dt_ne hr (d_var 8) (d_and (d_notN (d_var 9) d_non) (d_one (d_le (d_var 9) (d_var 3)))))) (l_one (l_ret (we_pure d_bl))) l_nil) (l_cons (l_set (i := 10) sc_law.nd rfl (by first | exact Or.inl rfl | exact Or.inr rfl) (by decide) (we_draw hr h__law_demands l__law_demands (by rfl) rfl (by first | exact Or.inl rfl | exact Or.inr (Or.inl rfl) | exact Or.inr (Or.inr rfl)) (wa_cons (we_pure (d_var 2)) wa_nil))) (l_cons (l_if (wt_pure (dt_eq hr (d_maxT hr rfl (by rfl) T.b_max (by decide +kernel) (d_b (d_var 10))) d_int)) (l_one (l_ret (we_pure d_bl))) l_nil) (l_cons (l_set (i := 11) sc_law.nd rfl (by first | exact Or.inl rfl | exact Or.inr rfl) (by decide) (we_pure (d_not (d_call hr (CF.call h__law_less) l__law_less (by rfl) (da_cons (d_call hr (CF.call h_firm_share) l_firm_share (by rfl) (da_cons (d_var 6) (da_cons (d_var 10) da_nil))) (da_cons (d_tup (da_cons d_int (da_cons d_int da_nil))) da_nil)))))) (l_cons (l_if (wt_pure (dt_ne hr (d_var 11) (d_le (d_call hr (CF.call h_least_storage) l_least_storage (by rfl) (da_cons (d_var 4) (da_cons (d_var 10) (da_cons d_bl da_nil)))) (d_var 3)))) (l_one (l_ret (we_pure d_bl))) l_nil) (l_cons (l_set (i := 12) sc_law.nd rfl (by first | exact Or.inl rfl | exact Or.inr rfl) (by decide) (we_plus (we_pure d_int) (we_draw hr h__law_taken l__law_taken (by rfl) rfl (by first | exact Or.inl rfl | exact Or.inr (Or.inl rfl) | exact Or.inr (Or.inr rfl)) (wa_cons (we_pure d_int) wa_nil)))) (l_end (s_cons (s_if (dt_gt (d_times (d_maxT hr rfl (by rfl) T.b_max (by decide +kernel) (d_b (d_var 10))) (d_var 12)) d_int) (s_one (s_ret d_bl)) s_nil) (s_one (s_ret (d_eq hr (d_call hr (CF.call h__law_by) l__law_by (by rfl) (da_cons (d_tup (da_cons (d_var 12) (da_cons d_int da_nil))) (da_cons (d_call hr (CF.call h_firm_share) l_firm_share (by rfl) (da_cons (d_var 6) (da_cons (d_tuple (by rfl) T.b_tuple (by decide +kernel) (d_b (d_lc (own := [("one", 13)]) rfl sc_law.nd (di_seq (d_var 10)) (blkOk_by (own := [("one", 13)]) (N := ["script", "row", "many", "capacity", "inflows", "demand", "dam", "equal", "gives", "round_least", "demands", "fits", "size", "one"]) (sc := defScope s_law) (by decide +kernel)) (fun _ _ _ _ _ => (dg_name 13 sc_law.nd rfl (by first | exact Or.inl rfl | exact Or.inr rfl) (by decide))) (fun _ _ _ _ _ => dts_nil) (fun _ _ _ _ _ => (d_times (d_var 13) (d_var 12)))))) da_nil))) da_nil))) (d_call hr (CF.call h_firm_share) l_firm_share (by rfl) (da_cons (d_var 6) (da_cons (d_var 10) da_nil)))))))))))))))))))))
end
end L48
set_option Elab.async false
set_option linter.all false
set_option maxRecDepth 100000
set_option maxHeartbeats 4000000
namespace L48
open PySem PySem.Spec PyProof.Rows L2 DN
section
variable {P : Program} {w : World} {K : PySem.W.Frag} {mg : Str → Option Value} {base : Heap} {Ts : List Addr}
abbrev s_taken : Stmt := top 41
theorem sc_taken : FnScope ["row", "many", "found", "cell"] ["row", "many"] (defScope s_taken) := ⟨rfl, rfl, rfl, by decide +kernel, rfl, by decide +kernel, by decide +kernel⟩
theorem ok_taken0 (T : Txt K mg) {f : Addr} {fd : FuncData} {cdv : Value} (D : DF K "_law_taken" "_law_taken" s_taken f fd cdv) : FnOk P w K mg base CX0 1 f fd ["row", "many"] (spW K Ts 1 (runZ 4 F_taken)) := by
  refine D.okZ sc_taken rfl (by decide) fun A outer s H E hr => ?_
  exact z_cons (z_if (dt_gt (b_ix (b_own 0) d_int) d_int) (z_cons (z_set (i := 2) sc_taken.nd rfl (by first | exact Or.inl rfl | exact Or.inr rfl) (by decide) (d_mod (d_toInt (by rfl) T.b_int (by decide +kernel) (b_ix (b_own 0) d_int)) (d_var 1))) (z_cons (z_row (c := 3) rfl (by first | exact Or.inl rfl | exact Or.inr (Or.inl rfl) | exact Or.inr (Or.inr rfl)) (d_div (b_ix (b_own 0) d_int) (d_var 1))) (z_one (z_ret (d_var 2))))) z_nil)
    (z_cons (z_row (c := 1) rfl (by first | exact Or.inl rfl | exact Or.inr (Or.inl rfl) | exact Or.inr (Or.inr rfl)) (d_plus (b_ix (b_own 0) d_int) d_int))
    (z_cons (z_if (dt_gt (b_ix (b_own 0) d_int) (d_len (by rfl) T.b_len (d_b (b_ix (b_own 0) d_int)))) (z_cons (z_row (c := 2) rfl (by first | exact Or.inl rfl | exact Or.inr (Or.inl rfl) | exact Or.inr (Or.inr rfl)) (d_mod (d_toInt (by rfl) T.b_int (by decide +kernel) (d_plus (d_mul (b_ix (b_own 0) d_int) d_int) d_int)) d_int)) (z_one (z_ret (d_mod (d_toInt (by rfl) T.b_int (by decide +kernel) (d_div (b_ix (b_own 0) d_int) d_int)) (d_var 1))))) z_nil)
    (z_cons (z_set (i := 3) sc_taken.nd rfl (by first | exact Or.inl rfl | exact Or.inr rfl) (by decide) (b_ix (d_b (b_ix (b_own 0) d_int)) (d_sub (b_ix (b_own 0) d_int) d_int)))
    (z_cons (z_row (c := 2) rfl (by first | exact Or.inl rfl | exact Or.inr (Or.inl rfl) | exact Or.inr (Or.inr rfl)) (d_mod (d_toInt (by rfl) T.b_int (by decide +kernel) (d_plus (d_plus (d_mul (b_ix (b_own 0) d_int) d_int) (d_var 3)) d_int)) d_int))
    (z_cons (z_if (dt_ge (d_var 3) (d_pow d_int d_int)) (z_one (z_row (c := 3) rfl (by first | exact Or.inl rfl | exact Or.inr (Or.inl rfl) | exact Or.inr (Or.inr rfl)) (d_div (d_var 3) (d_var 1)))) z_nil)
    (z_one (z_ret (d_mod (d_toInt (by rfl) T.b_int (by decide +kernel) (d_var 3)) (d_var 1)))))))))
theorem ok_taken (T : Txt K mg) {f : Addr} {fd : FuncData} {cdv : Value} (D : DF K "_law_taken" "_law_taken" s_taken f fd cdv) : FnOk P w K mg base CX0 1 f fd ["row", "many"] (spW K Ts 1 cTaken) := (ok_taken0 T D).imp (spW.imp taken_ok)
abbrev s_pick : Stmt := top 42
theorem sc_pick : FnScope ["row", "things"] ["row", "things"] (defScope s_pick) := ⟨rfl, rfl, rfl, by decide +kernel, rfl, by decide +kernel, by decide +kernel⟩
theorem ok_pick (T : Txt K mg) {f : Addr} {fd : FuncData} {cdv : Value} (D : DF K "_law_pick" "_law_pick" s_pick f fd cdv) (h_taken : CW P w K mg base Ts 1 "_law_taken" 1 cTaken) : FnOk P w K mg base CX0 2 f fd ["row", "things"] (spW K Ts 1 cPick) := by
  refine FnOk.imp (D.okW sc_pick rfl (by decide) rfl fun A outer s H E hr => ?_) (spW.imp pick_ok)
  exact we_ix (we_pure (d_var 1)) (we_draw hr h_taken (by decide) (by rfl) rfl (by first | exact Or.inl rfl | exact Or.inr (Or.inl rfl) | exact Or.inr (Or.inr rfl)) (wa_cons (we_pure (d_len (by rfl) T.b_len (d_b (d_var 1)))) wa_nil))
abbrev s_flow : Stmt := top 50
theorem sc_flow : FnScope ["row"] ["row"] (defScope s_flow) := ⟨rfl, rfl, rfl, by decide +kernel, rfl, by decide +kernel, by decide +kernel⟩
theorem ok_flow (T : Txt K mg) {f : Addr} {fd : FuncData} {cdv : Value} (D : DF K "_law_flow" "_law_flow" s_flow f fd cdv) (h_taken : CW P w K mg base Ts 1 "_law_taken" 1 cTaken) (h_pick : CW P w K mg base Ts 2 "_law_pick" 1 cPick) : FnOk P w K mg base CX0 3 f fd ["row"] (spW K Ts 0 cFlow) := by
  refine FnOk.imp (D.okW sc_flow rfl (by decide) rfl fun A outer s H E hr => ?_) (spW.imp flow_ok)
  exact we_draw hr h_pick (by decide) (by rfl) rfl (by first | exact Or.inl rfl | exact Or.inr (Or.inl rfl) | exact Or.inr (Or.inr rfl)) (wa_cons (we_lst (wa_cons (we_pure d_int) (wa_cons (we_pure d_int) (wa_cons (we_pure d_int) (wa_cons (we_pure d_int) (wa_cons (we_draw hr h_taken (by decide) (by rfl) rfl (by first | exact Or.inl rfl | exact Or.inr (Or.inl rfl) | exact Or.inr (Or.inr rfl)) (wa_cons (we_pure d_int) wa_nil)) (wa_cons (we_draw hr h_pick (by decide) (by rfl) rfl (by first | exact Or.inl rfl | exact Or.inr (Or.inl rfl) | exact Or.inr (Or.inr rfl)) (wa_cons (we_lst (wa_cons (we_pure d_int) (wa_cons (we_pure d_int) wa_nil))) wa_nil)) wa_nil))))))) wa_nil)
abbrev s_demands : Stmt := top 52
theorem sc_demands : FnScope ["row", "many", "k"] ["row", "many"] (defScope s_demands) := ⟨rfl, rfl, rfl, by decide +kernel, rfl, by decide +kernel, by decide +kernel⟩
theorem wdraw_mn {c : List PyData → (PyData → Prop) → Prop} {n : Nat} (hc : ∀ ds Q Q', (∀ d, Q d → Q' d) → c ds Q → c ds Q') : Mn (wDraw n c wNil) := fun en Q Q' h ⟨a, b⟩ => ⟨a, hc _ _ _ h b⟩
theorem ok_demands (T : Txt K mg) {f : Addr} {fd : FuncData} {cdv : Value} (D : DF K "_law_demands" "_law_demands" s_demands f fd cdv) (h_flow : CW P w K mg base Ts 3 "_law_flow" 0 cFlow) : FnOk P w K mg base CX0 4 f fd ["row", "many"] (spW K Ts 1 cDemands) := by
  refine FnOk.imp (D.okW sc_demands rfl (by decide) rfl fun A outer s H E hr => ?_) (spW.imp demands_ok)
  exact we_tuple (by rfl) T.b_tuple (by decide +kernel) (we_lc (own := [("k", 2)]) rfl sc_demands.nd (wi_range1 (by rfl) T.b_range (we_pure (d_var 1)))
    (blkOk_by (own := [("k", 2)]) (N := ["row", "many", "k"]) (sc := defScope s_demands) (by decide +kernel)) (by decide) (bOk_name (by decide)) bName_out (fun _ _ _ _ _ => dg_name 2 sc_demands.nd rfl (by first | exact Or.inl rfl | exact Or.inr rfl) (by decide)) (fun _ _ _ _ _ => wts_nil)
    (fun _ _ _ _ _ => we_draw hr h_flow (by decide) (by rfl) rfl (by first | exact Or.inl rfl | exact Or.inr (Or.inl rfl) | exact Or.inr (Or.inr rfl)) wa_nil) (wdraw_mn fun ds Q Q' h ⟨a, b⟩ => ⟨a, fun n h0 h1 => h _ (b n h0 h1)⟩) mnt_yes (fun en Q Q' h ⟨d, hd, j, h1, h2, h3, h4⟩ => ⟨d, hd, j, h1, h2, h3, h _ h4⟩))
end

end L48
set_option Elab.async false
set_option linter.all false
set_option maxRecDepth 100000
set_option maxHeartbeats 4000000
namespace L48
open PySem PySem.Spec PyProof.Rows L2 DN
theorem fnot_ev {f : En → Option PyData} {en : En} {b : Bool} (h : f en = some (.bool b)) : fNot f en = some (.bool (!b)) := by
  unfold fNot
  rw [h]
/-- a ratio against n / 1 -/
theorem gives_ev {en : En} {f g : En → Option PyData} {q : Int × Int} {n : Int} {b : Bool} (h1 : f en = some (ratD q)) (h2 : g en = some (ratD (n, 1))) (s1 : Small q.1) (s2 : Small q.2) (s3 : Small n) (h : n * q.2 ≤ q.1 * 1 ↔ b = true) : fNot (fCall 2 S__law_less (fCons f (fCons g fNil))) en = some (.bool b) := by
  refine (fnot_ev (call_ev (ds := [ratD q, ratD (n, 1)]) (cons_ev h1 (cons_ev h2 rfl)) rfl (v_law_less s1 s2 s3 (show Small 1 by unfold Small; decide)))).trans ?_
  congr 2
  unfold lessR
  show (!decide (q.1 * 1 < n * q.2)) = b
  cases b with
  | true =>
    have := h.mpr rfl
    rw [decide_eq_false (by omega)]
    rfl
  | false =>
    have : ¬ n * q.2 ≤ q.1 * 1 := fun z => by cases h.mp z
    rw [decide_eq_true (by omega)]
    rfl
theorem small_of {z : Int} (h : -100000 ≤ z ∧ z ≤ 100000) : Small z := by
  unfold Small
  exact Nat.lt_of_le_of_lt (show z.natAbs ≤ 100000 by omega) (by decide)
theorem storeD_ok {xs ys : List Int} {r : Bool} (h : (r && decide (xs.sum < ys.sum)) = false) : storeD xs ys r = .int (DN.st xs ys r) := by
  unfold storeD
  rw [h]
  rfl
theorem storeD_no {xs ys : List Int} {r : Bool} (h : (r && decide (xs.sum < ys.sum)) = true) : storeD xs ys r = .none := by
  unfold storeD
  rw [h]
  rfl
theorem ne_same (b : Bool) : gNe (.bool b) (.bool b) = some (.bool false) := (DN.ne_bool b b).trans (by rw [decide_eq_true rfl]; rfl)
section
variable {C d : Int} {xs ys ns : List Int} {rw : List PyData}
structure Given (C d : Int) (xs : List Int) : Prop where
  c0 : 0 ≤ C
  c1 : C ≤ 1000
  d0 : 0 ≤ d
  d1 : d < 30
  fl : Flows xs
  l0 : 0 < xs.length
  l1 : xs.length ≤ 8
theorem Given.dam (g : Given C d xs) : DamOk C C 0 xs := ⟨g.c0, g.c1, g.c0, Int.le_refl _, Int.le_refl _, g.c0, g.fl, g.l0, by have := g.l1; omega⟩
theorem Given.eq (g : Given C d xs) : Flows (List.replicate xs.length d) := fun n hn => by
  rw [List.eq_of_mem_replicate hn]
  have := g.d0; have := g.d1
  omega
theorem firm_gives (g : Given C d xs) {en : En} {i j : Nat} (hi : en[i]? = some (.dat (damD C C 0 xs))) (hj : en[j]? = some (.dat (.int d))) : fNot (fCall 2 S__law_less (fCons (fCall 1 S_firm_yield (fCons (fVar i) fNil)) (fCons (fTup (fCons (fVar j) (fCons (fLit (.int 1)) fNil))) fNil))) en = some (.bool (decide (DN.st xs (List.replicate xs.length d) false ≤ C))) := by
  obtain ⟨q, h1, h2, h3, h4, h5⟩ := v_firm_yield g.dam (fillE_nonneg (S := 0) g.c0 g.fl g.c0)
  refine gives_ev (call_ev (ds := [damD C C 0 xs]) (cons_ev (var_ev hi) rfl) rfl h1) (n := d) ?_ h3 h4 (small_of (by have := g.d0; have := g.d1; omega)) ?_
  · unfold fTup
    rw [cons_ev (var_ev hj) (cons_ev (f := fLit (.int 1)) (x := .int 1) rfl rfl)]
    rfl
  · rw [h5 d 1 (by decide), firm_iff g.l0 g.c0]
    exact decide_eq_true_iff.symm
theorem round_gives (g : Given C d xs) {en : En} {i j k : Nat} (hi : en[i]? = some (.dat (.int C))) (hj : en[j]? = some (.dat (ti xs))) (hk : en[k]? = some (.dat (.int d))) : fNot (fCall 2 S__law_less (fCons (fCall 2 S_round_yield (fCons (fVar i) (fCons (fVar j) fNil))) (fCons (fTup (fCons (fVar k) (fCons (fLit (.int 1)) fNil))) fNil))) en = some (.bool (decide ((List.replicate xs.length d).sum ≤ xs.sum ∧ DN.st xs (List.replicate xs.length d) true ≤ C))) := by
  obtain ⟨q, h1, h2, h3, h4, h5⟩ := v_round_yield g.fl g.l0 (by have := g.l1; omega) ⟨g.c0, g.c1⟩
  refine gives_ev (call_ev (ds := [.int C, ti xs]) (cons_ev (var_ev hi) (cons_ev (var_ev hj) rfl)) rfl h1) (n := d) ?_ h3 h4 (small_of (by have := g.d0; have := g.d1; omega)) ?_
  · unfold fTup
    rw [cons_ev (var_ev hk) (cons_ev (f := fLit (.int 1)) (x := .int 1) rfl rfl)]
    rfl
  · rw [h5 d 1 (by decide), round_iff g.l0 g.c0]
    exact decide_eq_true_iff.symm
theorem share_gives (g : Given C d xs) (hy : Flows ys) (hl : ys.length = xs.length) (h0 : 0 < ys.sum) {en : En} {i j : Nat} (hi : en[i]? = some (.dat (damD C C 0 xs))) (hj : en[j]? = some (.dat (ti ys))) : fNot (fCall 2 S__law_less (fCons (fCall 2 S_firm_share (fCons (fVar i) (fCons (fVar j) fNil))) (fCons (fTup (fCons (fLit (.int 1)) (fCons (fLit (.int 1)) fNil))) fNil))) en = some (.bool (decide (DN.st xs ys false ≤ C))) := by
  obtain ⟨q, h1, h2, h3, h4, _, h5⟩ := v_firm_share g.dam (fillE_nonneg (S := 0) g.c0 g.fl g.c0) hy hl h0
  refine gives_ev (call_ev (ds := [damD C C 0 xs, ti ys]) (cons_ev (var_ev hi) (cons_ev (var_ev hj) rfl)) rfl h1) (n := 1) rfl h3 h4 (by unfold Small; decide) ?_
  rw [h5 1 1 (by decide), decide_eq_true_iff, ← give_all hl g.l0 g.c0]
  constructor
  · intro h p hp
    by_cases hn : 0 < need ys p
    · have := h p hp hn
      omega
    · have h8 := (need_small hy (by have := g.l1; omega) p).2
      have h9 := (need_small g.fl (by have := g.l1; omega) p).2
      have := g.c0
      rw [spare_full]
      omega
  · intro h p hp _
    have := h p hp
    omega
theorem maxT_ev {en : En} {i : Nat} (h : en[i]? = some (.dat (ti ys))) (h0 : 0 < ys.length) : fMaxT (fVar i) en = some (.int (maxL ys)) := by
  refine one_ev (var_ev h) ?_
  show Option.bind (intsOf _) _ = _
  rw [intsOf_map]
  show (if ys.isEmpty = true then none else some (PyData.int (maxL ys))) = _
  rw [if_neg (by cases ys with
    | nil => simp at h0
    | cons a r => simp)]
theorem eq_rat (a : Int × Int) : gEq (ratD a) (ratD a) = some (.bool true) := by
  unfold gEq ratD
  rw [if_pos (by
    unfold SeqAt.shaped
    simp only [PyData.canLay0, PyData.canLayAll0, PyData.depth, PyData.depthAll]
    rfl)]
  congr 2
  simp only [PyData.eqv, PyData.eqvAll]
  simp
theorem tail_ok {x8 x9 x11 : Slot} {s : Int} (g : Given C d xs) (hy : Flows ys) (hl : ys.length = xs.length) (h0 : 0 < ys.sum) (s0 : 2 ≤ s) (s1 : s ≤ 4) :
    F_tail S__law_less S_firm_yield S_least_storage S_round_yield S_firm_share S__law_by [.dat (.list (ns.map .int)), .own rw, .dat (.int xs.length), .dat (.int C), .dat (ti xs), .dat (.int d), .dat (damD C C 0 xs), .dat (ti (List.replicate xs.length d)), x8, x9, .dat (ti ys), x11, .dat (.int s), .no] = some (.rt (.bool true)) := by
  have hy0 : 0 < ys.length := by have := g.l0; omega
  have hne : ys ≠ [] := fun z => by rw [z] at hy0; cases hy0
  have hmax := maxL_spec hne
  have hms := hy _ hmax.1
  have hbig : fTimes (fMaxT (fVar 10)) (fVar 12) [.dat (.list (ns.map .int)), .own rw, .dat (.int xs.length), .dat (.int C), .dat (ti xs), .dat (.int d), .dat (damD C C 0 xs), .dat (ti (List.replicate xs.length d)), x8, x9, .dat (ti ys), x11, .dat (.int s), .no] = some (.int (maxL ys * s)) :=
    times_ev (maxT_ev rfl hy0) rfl (small_of (by omega)) (small_of (by omega))
  unfold F_tail
  by_cases hb : 1000 < maxL ys * s
  · refine seq_rt ((if_t (fT_ev (two_ev hbig (b := .int 1000) rfl ?_))).trans (ret_ev rfl))
    show some (PyData.bool (decide (1000 < maxL ys * s))) = _
    rw [decide_eq_true hb]
  · refine (seq_nx (e1 := [.dat (.list (ns.map .int)), .own rw, .dat (.int xs.length), .dat (.int C), .dat (ti xs), .dat (.int d), .dat (damD C C 0 xs), .dat (ti (List.replicate xs.length d)), x8, x9, .dat (ti ys), x11, .dat (.int s), .no]) ((if_f (fT_ev (two_ev hbig (b := .int 1000) rfl ?_))).trans rfl)).trans ?_
    · show some (PyData.bool (decide (1000 < maxL ys * s))) = _
      rw [decide_eq_false hb]
    have hy2 : Flows (ys.map fun y => y * s) := fun n hn => by
      obtain ⟨y, hym, rfl⟩ := List.mem_map.mp hn
      have h1 := hy y hym
      have h2 := Int.mul_le_mul_of_nonneg_right (hmax.2 y hym) (show 0 ≤ s by omega)
      exact ⟨Int.mul_nonneg h1.1 (by omega), by omega⟩
    have hsum : (ys.map fun y => y * s).sum = s * ys.sum := by
      clear hbig hb hy2 hmax hms hne hy0 hy hl h0
      induction ys with
      | nil => simp
      | cons y r ih => rw [List.map_cons, List.sum_cons, List.sum_cons, ih, Int.mul_add, Int.mul_comm y s]
    have h12 : ys.length ≤ 12 := by have := g.l1; omega
    obtain ⟨q, q1, q2, q3, q4, ⟨p, hp, hpn, hq⟩, q5⟩ := v_firm_share g.dam (fillE_nonneg (S := 0) g.c0 g.fl g.c0) hy hl h0
    obtain ⟨r, r1, r2, r3, r4, ⟨p', hp', hpn', hr⟩, r5⟩ := v_firm_share g.dam (fillE_nonneg (S := 0) g.c0 g.fl g.c0) hy2 (by rw [List.length_map]; exact hl) (by rw [hsum]; exact Int.mul_pos (by omega) h0)
    have hsc := share_scale (s := s) (by omega) q2 r2 q5 (fun n k hk => (r5 n k hk).trans (by simp only [need_scale]))
    have hpos : 0 < 1 * r.2 := by omega
    have hone : rat (s * r.1) (1 * r.2) = q := by
      refine low_unique (rat_pos hpos) q2 (rat_low hpos) (by rw [hq]; exact rat_low hpn) ?_
      have e := rat_mul (a := s * r.1) hpos
      rw [Int.one_mul] at e ⊢
      -- (top/bottom) = s r.1 / r.2 = q
      have e2 : (rat (s * r.1) r.2).1 * r.2 * q.2 = q.1 * (rat (s * r.1) r.2).2 * r.2 := by
        rw [e, Int.mul_assoc, Int.mul_comm (rat (s * r.1) r.2).2, ← Int.mul_assoc, hsc, Int.mul_assoc, Int.mul_comm r.2, ← Int.mul_assoc]
      rw [Int.mul_assoc, Int.mul_comm r.2, ← Int.mul_assoc] at e2
      exact Int.eq_of_mul_eq_mul_right (by omega) e2
    have hmap : fTuple (fLc (iSeq (fVar 10)) (bName 13) kYes (fTimes (fVar 13) (fVar 12)) [13]) [.dat (.list (ns.map .int)), .own rw, .dat (.int xs.length), .dat (.int C), .dat (ti xs), .dat (.int d), .dat (damD C C 0 xs), .dat (ti (List.replicate xs.length d)), x8, x9, .dat (ti ys), x11, .dat (.int s), .no] = some (ti (ys.map fun y => y * s)) := by
      refine one_ev (a := .list ((ys.map fun y => y * s).map .int)) ?_ rfl
      have key := lcGo_all (b := bName 13) (f := fTimes (fVar 13) (fVar 12)) (en := [.dat (.list (ns.map .int)), .own rw, .dat (.int xs.length), .dat (.int C), .dat (ti xs), .dat (.int d), .dat (damD C C 0 xs), .dat (ti (List.replicate xs.length d)), x8, x9, .dat (ti ys), x11, .dat (.int s), .no]) (h := PyData.int) (g := PyData.int ∘ fun y => y * s) ys fun y hym => ⟨_, rfl, times_ev (a := y) (b := s) rfl rfl (small_of (by have := hy y hym; omega)) (small_of (by omega))⟩
      have hit : iSeq (fVar 10) [.dat (.list (ns.map .int)), .own rw, .dat (.int xs.length), .dat (.int C), .dat (ti xs), .dat (.int d), .dat (damD C C 0 xs), .dat (ti (List.replicate xs.length d)), x8, x9, .dat (ti ys), x11, .dat (.int s), .no] = some (ys.map .int) := seqit_ev (d := ti ys) rfl rfl
      unfold fLc
      rw [hit, Option.bind_some, if_pos (by rw [List.length_map]; exact Nat.le_trans h12 (by decide)), List.map_map]
      exact congrArg (Option.map PyData.list) key
    refine ret_ev (two_ev (a := ratD q) (b := ratD q) ((call_ev (ds := [ratD (s, 1), ratD r]) (cons_ev rfl (cons_ev (call_ev (ds := [damD C C 0 xs, ti (ys.map fun y => y * s)]) (cons_ev rfl (cons_ev hmap rfl)) rfl r1) rfl)) rfl (v_law_by (p := (s, 1)) (small_of (by show -100000 ≤ s ∧ s ≤ 100000; omega)) (show Small 1 by unfold Small; decide) r3 r4 hpos (by show Small (1 * r.2); rw [Int.one_mul]; exact r4))).trans (by rw [hone])) (call_ev (ds := [damD C C 0 xs, ti ys]) rfl rfl q1) (eq_rat q))
end
end L48
set_option Elab.async false
set_option linter.all false
set_option maxRecDepth 100000
set_option maxHeartbeats 4000000
namespace L48
open PySem PySem.Spec PyProof.Rows L2 DN
section
variable {C d : Int} {xs ys ns : List Int}
theorem times_tup {en : En} {i j : Nat} {m : Nat} (hi : en[i]? = some (.dat (.int d))) (hj : en[j]? = some (.dat (.int m))) (h0 : 0 < m) (h1 : m ≤ 100) : fTimes (fTup (fCons (fVar i) fNil)) (fVar j) en = some (ti (List.replicate m d)) := by
  have ht : fTup (fCons (fVar i) fNil) en = some (.tuple [.int d]) := by
    unfold fTup
    rw [cons_ev (var_ev hi) (show fNil en = some [] from rfl)]
    rfl
  refine two_ev ht (var_ev hj) ?_
  show (if [PyData.int d] ≠ [] ∧ 1 ≤ (m : Int) ∧ (m : Int) ≤ 1000 ∧ [PyData.int d].length ≤ 1000 then some (PyData.tuple (List.replicate (m : Int).toNat [PyData.int d]).flatten) else none) = _
  rw [if_pos ⟨by simp, by omega, by omega, by simp⟩, Int.toNat_natCast]
  show some (PyData.tuple (List.replicate m [PyData.int d]).flatten) = some (PyData.tuple ((List.replicate m d).map PyData.int))
  rw [List.map_replicate, List.flatten_replicate_singleton]
theorem none_and {en : En} (e : en[9]? = some (.dat .none)) : fAnd (fNotN (fVar 9) (fLit .none)) (fLe (fVar 9) (fVar 3)) en = some (.bool false) :=
  (fand_ev (b := false) (c := false) (two_ev (a := .none) (b := .none) (var_ev e) rfl rfl) fun z => by cases z).trans (by rw [Bool.false_and])
theorem some_and {en : En} {s : Int} (e : en[9]? = some (.dat (.int s))) (h : en[3]? = some (.dat (.int C))) : fAnd (fNotN (fVar 9) (fLit .none)) (fLe (fVar 9) (fVar 3)) en = some (.bool (decide (s ≤ C))) :=
  (fand_ev (b := true) (c := decide (s ≤ C)) (two_ev (a := .int s) (b := .none) (var_ev e) rfl rfl) fun _ => two_ev (a := .int s) (b := .int C) (var_ev e) (var_ev h) rfl).trans (by rw [Bool.true_and])
theorem law_go {rw0 : Slot} (g : Given C d xs) (en : En) (he : en = [.dat (.list (ns.map .int)), rw0, .dat (.int xs.length), .dat (.int C), .dat (ti xs), .dat (.int d), .no, .no, .no, .no, .no, .no, .no, .no]) (Q : Fl → Prop) (hQ : Q (.rt (.bool true))) :
    (lSeq (lPar 6 7 (wP 1 (fTup (fCons (fVar 3) (fCons (fVar 3) (fCons (fLit (.int 0)) (fCons (fVar 4) fNil)))))) (wP 1 (fTimes (fTup (fCons (fVar 5) fNil)) (fVar 2)))) (lSeq (lSet 8 (wP 1 (fNot (fCall 2 S__law_less (fCons (fCall 1 S_firm_yield (fCons (fVar 6) fNil)) (fCons (fTup (fCons (fVar 5) (fCons (fLit (.int 1)) fNil))) fNil)))))) (lSeq (lIf (wT 1 (fT (fNe (fVar 8) (fLe (fCall 3 S_least_storage (fCons (fVar 4) (fCons (fVar 7) (fCons (fLit (.bool false)) fNil)))) (fVar 3))))) (lRet (wP 1 (fLit (.bool false)))) lNil) (lSeq (lSet 9 (wP 1 (fCall 3 S_least_storage (fCons (fVar 4) (fCons (fVar 7) (fCons (fLit (.bool true)) fNil)))))) (lSeq (lSet 8 (wP 1 (fNot (fCall 2 S__law_less (fCons (fCall 2 S_round_yield (fCons (fVar 3) (fCons (fVar 4) fNil))) (fCons (fTup (fCons (fVar 5) (fCons (fLit (.int 1)) fNil))) fNil)))))) (lSeq (lIf (wT 1 (fT (fNe (fVar 8) (fAnd (fNotN (fVar 9) (fLit .none)) (fLe (fVar 9) (fVar 3)))))) (lRet (wP 1 (fLit (.bool false)))) lNil) (lSeq (lSet 10 (wDraw 1 cDemands (wCons (wP 1 (fVar 2)) wNil))) (lSeq (lIf (wT 1 (fT (fEq (fMaxT (fVar 10)) (fLit (.int 0))))) (lRet (wP 1 (fLit (.bool true)))) lNil) (lSeq (lSet 11 (wP 1 (fNot (fCall 2 S__law_less (fCons (fCall 2 S_firm_share (fCons (fVar 6) (fCons (fVar 10) fNil))) (fCons (fTup (fCons (fLit (.int 1)) (fCons (fLit (.int 1)) fNil))) fNil)))))) (lSeq (lIf (wT 1 (fT (fNe (fVar 11) (fLe (fCall 3 S_least_storage (fCons (fVar 4) (fCons (fVar 10) (fCons (fLit (.bool false)) fNil)))) (fVar 3))))) (lRet (wP 1 (fLit (.bool false)))) lNil) (lSeq (lSet 12 (w2 gPlus (wP 1 (fLit (.int 2))) (wDraw 1 cTaken (wCons (wP 1 (fLit (.int 3))) wNil)))) (lEnd 1 (F_tail S__law_less S_firm_yield S_least_storage S_round_yield S_firm_share S__law_by))))))))))))) en Q := by
  subst he
  have l12 : xs.length ≤ 12 := by have := g.l1; omega
  have hle : (List.replicate xs.length d).length = xs.length := List.length_replicate ..
  refine ⟨damD C C 0 xs, fun rw => rfl, ti (List.replicate xs.length d), fun rw => times_tup rfl rfl g.l0 (by omega), _, _, rfl, rfl, ?_⟩
  refine ⟨.bool (decide (DN.st xs (List.replicate xs.length d) false ≤ C)), fun rw => firm_gives g rfl rfl, _, rfl, ?_⟩
  refine ⟨false, fun rw => fT_ev (two_ev (a := .bool (decide (DN.st xs (List.replicate xs.length d) false ≤ C))) (b := .bool (decide (DN.st xs (List.replicate xs.length d) false ≤ C))) rfl (two_ev (a := .int (DN.st xs (List.replicate xs.length d) false)) (b := .int C) (call_ev (ds := [ti xs, ti (List.replicate xs.length d), .bool false]) rfl rfl (v_least g.fl g.eq g.l0 l12 hle false)) rfl rfl) (ne_same _)), ?_⟩
  refine iteF ?_
  refine ⟨storeD xs (List.replicate xs.length d) true, fun rw => call_ev (ds := [ti xs, ti (List.replicate xs.length d), .bool true]) rfl rfl (v_least g.fl g.eq g.l0 l12 hle true), _, rfl, ?_⟩
  refine ⟨.bool (decide ((List.replicate xs.length d).sum ≤ xs.sum ∧ DN.st xs (List.replicate xs.length d) true ≤ C)), fun rw => round_gives g rfl rfl rfl, _, rfl, ?_⟩
  refine ⟨false, fun rw => ?_, ?_⟩
  · refine fT_ev (two_ev (a := .bool (decide ((List.replicate xs.length d).sum ≤ xs.sum ∧ DN.st xs (List.replicate xs.length d) true ≤ C))) (b := .bool (decide ((List.replicate xs.length d).sum ≤ xs.sum ∧ DN.st xs (List.replicate xs.length d) true ≤ C))) rfl ?_ (ne_same _))
    by_cases hT : xs.sum < (List.replicate xs.length d).sum
    · have e := storeD_no (xs := xs) (ys := List.replicate xs.length d) (r := true) (by rw [decide_eq_true hT]; rfl)
      have hd2 : decide ((List.replicate xs.length d).sum ≤ xs.sum ∧ DN.st xs (List.replicate xs.length d) true ≤ C) = false := decide_eq_false (fun h => by have := h.1; omega)
      rw [hd2]
      refine none_and ?_
      exact congrArg (fun z => some (Slot.dat z)) e
    · have e := storeD_ok (xs := xs) (ys := List.replicate xs.length d) (r := true) (by rw [decide_eq_false hT]; rfl)
      have hd : decide ((List.replicate xs.length d).sum ≤ xs.sum ∧ DN.st xs (List.replicate xs.length d) true ≤ C) = decide (DN.st xs (List.replicate xs.length d) true ≤ C) := decide_eq_decide.mpr ⟨fun h => h.2, fun h => ⟨by omega, h⟩⟩
      rw [hd]
      refine some_and ?_ rfl
      exact congrArg (fun z => some (Slot.dat z)) e
  refine iteF ?_
  refine ⟨.int xs.length, fun rw => rfl, rfl, xs.length, rfl, by omega, fun ys ly fy => ?_⟩
  refine ⟨_, rfl, ?_⟩
  have hy0 : 0 < ys.length := by have := g.l0; omega
  have hne : ys ≠ [] := fun z => by rw [z] at hy0; cases hy0
  have hmax := maxL_spec hne
  have hms := fy _ hmax.1
  refine ⟨decide (maxL ys = 0), fun rw => fT_ev (two_ev (maxT_ev rfl hy0) (b := .int 0) rfl (DN.eq_int _ _)), ?_⟩
  by_cases hz : maxL ys = 0
  · rw [decide_eq_true hz]
    exact iteT ⟨.bool true, fun rw => rfl, true, rfl, hQ⟩
  · rw [decide_eq_false hz]
    refine iteF ?_
    have hsum : 0 < ys.sum := by
      have key : ∀ l : List Int, Flows l → ∀ y ∈ l, y ≤ l.sum := by
        intro l
        induction l with
        | nil => intro _ y hy; cases hy
        | cons a r ih =>
          intro hf y hy
          have h1 := (cutW_sum_le (l := r) fun n hn => hf n (List.mem_cons_of_mem _ hn)).1
          have h2 := hf a List.mem_cons_self
          rw [List.sum_cons]
          rcases List.mem_cons.mp hy with e | e
          · omega
          · have := ih (fun n hn => hf n (List.mem_cons_of_mem _ hn)) y e
            omega
      have := key ys fy _ hmax.1
      omega
    refine ⟨.bool (decide (DN.st xs ys false ≤ C)), fun rw => share_gives g fy ly hsum rfl rfl, _, rfl, ?_⟩
    refine ⟨false, fun rw => fT_ev (two_ev (a := .bool (decide (DN.st xs ys false ≤ C))) (b := .bool (decide (DN.st xs ys false ≤ C))) rfl (two_ev (a := .int (DN.st xs ys false)) (b := .int C) (call_ev (ds := [ti xs, ti ys, .bool false]) rfl rfl (v_least g.fl fy g.l0 l12 ly false)) rfl rfl) (ne_same _)), ?_⟩
    refine iteF ?_
    refine ⟨.int 2, fun rw => rfl, .int 3, fun rw => rfl, rfl, 3, rfl, by decide, by decide, fun k k0 k1 => ⟨.int (2 + k), rfl, _, rfl, fun rw2 _ => ⟨true, ?_, hQ⟩⟩⟩
    exact tail_ok g fy ly hsum (by omega) (by omega)
theorem law_sem : ∀ ns : List Int, ns.length ≤ 63 → ∃ rw, RowOk rw ∧ F_row (lawEn 14 ns) = some (.list rw) ∧ ∀ en', (∃ rw', en' = (lawEn 14 ns).set 1 (.own rw')) → F_law S__law_less S_firm_yield S_least_storage S_round_yield S_firm_share S__law_by en' fun r => r = .rt (.bool true) := by
  intro ns hns
  refine ⟨_, rowOk (ns := ns) (i := 0) (m := 4448) (c := 0) hns (by decide) (by decide) (by decide) (by decide), rfl, ?_⟩
  rintro en' ⟨rw', rfl⟩
  refine ⟨.int 1, fun _ => rfl, .int 8, fun _ => rfl, rfl, 8, rfl, by decide, by decide, fun k k0 k1 => ⟨.int (1 + k), rfl, ?_⟩⟩
  refine ⟨.int 0, fun _ => rfl, .int 1, fun _ => rfl, .int 10, fun _ => rfl, .int 60, fun _ => rfl, rfl, 60, rfl, by decide, by decide, fun r r0 r1 => ?_⟩
  refine ⟨by simp, rfl, [.int 0, .int 1, .int 10, .int r], rfl, by simp, by simp, fun c hc => ?_⟩
  obtain ⟨C, rfl, c0, c1⟩ : ∃ C : Int, c = .int C ∧ 0 ≤ C ∧ C ≤ 1000 := by
    simp only [List.mem_cons, List.not_mem_nil, or_false] at hc
    rcases hc with rfl | rfl | rfl | rfl
    · exact ⟨0, rfl, by omega, by omega⟩
    · exact ⟨1, rfl, by omega, by omega⟩
    · exact ⟨10, rfl, by omega, by omega⟩
    · exact ⟨r, rfl, r0, by omega⟩
  refine ⟨_, _, rfl, rfl, ?_⟩
  obtain ⟨j, rfl⟩ : ∃ j : Nat, k = (j : Int) := ⟨k.toNat, by omega⟩
  refine ⟨.int (1 + (j : Int)), fun _ => rfl, rfl, 1 + j, by simp, by omega, fun xs lx fx => ?_⟩
  refine ⟨.int 30, fun _ => rfl, rfl, 30, rfl, by decide, by decide, fun d d0 d1 => ?_⟩
  refine ⟨_, _, rfl, rfl, ?_⟩
  refine law_go (ns := ns) (rw0 := .own rw') ⟨c0, c1, d0, d1, fx, by omega, by omega⟩ _ ?_ _ rfl
  rw [lx, show ((1 + j : Nat) : Int) = 1 + (j : Int) by omega]
  rfl
end
end L48
set_option Elab.async false
set_option linter.all false
set_option maxRecDepth 100000
set_option maxHeartbeats 0
namespace L48
open PySem PySem.Spec PyProof.Rows L2 DN
def exs : PySem.W.Frag → Bool := fun K => He.eqO (PySem.W.nsIn K mainGlobals "gcd") (some (some (.builtin "math.gcd")))
def dd (x : Str) (i : Nat) : He.DefD := ⟨(x, none), x, x, defArgs (top i), defBody (top i), defScope (top i), [], []⟩
def fns : List He.DefD := [dd "is_whole" 10, dd "is_between" 11, dd "is_row_between" 12, dd "ratio" 13, dd "is_less" 14, dd "least_ratio" 15, dd "is_inflows" 19, dd "is_dam" 20, dd "check_dam" 21, dd "check_inflows" 22, dd "check_demands" 23, dd "check_has_plan" 24, dd "windows" 26, dd "in_window" 27, dd "most_water" 28, dd "spare_water" 29, dd "window_yield" 30, dd "firm_yield" 31, dd "firm_share" 32, dd "round_yield" 33, dd "check_rows" 35, dd "rows_of_months" 36, dd "lack_of_row" 37, dd "found_storage" 38, dd "least_storage" 39, dd "_law_ratio" 44, dd "_law_by" 46, dd "_law_less" 48, dd "_law_taken" 41, dd "_law_pick" 42, dd "_law_flow" 50, dd "_law_demands" 52, dd "law" 56]
def fas : List He.Fa := [.glo "is_whole", .glo "is_between", .glo "is_row_between", .glo "ratio", .glo "is_less", .glo "least_ratio", .glo "is_inflows", .glo "is_dam", .glo "check_dam", .glo "check_inflows", .glo "check_demands", .glo "check_has_plan", .glo "windows", .glo "in_window", .glo "most_water", .glo "spare_water", .glo "window_yield", .glo "firm_yield", .glo "firm_share", .glo "round_yield", .glo "check_rows", .glo "rows_of_months", .glo "lack_of_row", .glo "found_storage", .glo "least_storage", .glo "_law_ratio", .glo "_law_by", .glo "_law_less", .glo "_law_taken", .glo "_law_pick", .glo "_law_flow", .glo "_law_demands", .glo "law", .free "abs", .free "all", .free "bool", .free "int", .free "isinstance", .free "len", .free "max", .free "min", .free "range", .free "sum", .free "tuple", .int "MOST_MONTHS" 12, .int "MOST_WATER" 1000]
def tfs : List He.Defn := [("is_row_between", none)]
def others : List PySem.Str := (["DamError", "BadDam", "BadDemands", "BadInflows", "BadFlag", "BadCapacity", "NoPlan", "is_whole", "is_between", "is_row_between"] : List PySem.Str) ++ (["ratio", "is_less", "least_ratio", "MOST_WATER", "MOST_MONTHS", "is_inflows", "is_dam", "check_dam", "check_inflows", "check_demands"] : List PySem.Str) ++ (["check_has_plan", "windows", "in_window", "most_water", "spare_water", "window_yield", "firm_yield", "firm_share", "round_yield", "check_rows"] : List PySem.Str) ++ (["rows_of_months", "lack_of_row", "found_storage", "least_storage", "_law_taken", "_law_pick", "_law_alike", "_law_ratio", "_law_plus", "_law_by"] : List PySem.Str) ++ (["_law_sum", "_law_less", "_law_is_ratio", "_law_flow", "_law_dam", "_law_demands", "_law_most_held", "_law_levels", "_law_can"] : List PySem.Str)
abbrev TheRow : PySem.W.OpenRow := PySem.W.OpenLaw.row PySem.Challenge.rw_damworks_k48_across_yields_and_storages
abbrev hk : PySem.W.Hook := He.hookX 4 fas fns [] tfs exs
def ob (s : PySem.W.SharedT) : He.AlX := He.obsX 4 fas fns [] tfs exs (HandSHeadRun.getT s)
theorem ob_eq (s : PySem.W.SharedT) : ob s = hk.obs s.abs := He.obsX_eq (HandSHeadRun.getT_eq s)
theorem run (w : World) : HandSHeadRun.RunEqI TheRow (PySem.W.view TheRow.prog [0, 56]) hk ob 9000 others w := by
  unfold HandSHeadRun.RunEqI
  kernel_rfl
theorem facts {w : World} {K : PySem.W.Frag} {h : Heap} {mg : Str → Option Value} {f : Addr} (X : K.In h) (G : h.Ns mainGlobals mg) (hfa : mg ("law" : Str) = some (.ref f)) (c : He.SaysX fas fns [] tfs exs w h K) : LamX.LawAtS PySem.Challenge.rw_damworks_k48_across_yields_and_storages w K CX0 9 63 "script" mg f h := by
  have e := hfa.symm.trans (He.glo_ok X G (c.t.d.fact 32 (f := .glo "law") rfl))
  cases e
  have T : Txt K mg := ⟨He.free_ok X G (c.t.d.fact 33 (f := .free "abs") rfl), He.free_ok X G (c.t.d.fact 34 (f := .free "all") rfl), He.free_ok X G (c.t.d.fact 35 (f := .free "bool") rfl), He.free_ok X G (c.t.d.fact 36 (f := .free "int") rfl), He.free_ok X G (c.t.d.fact 37 (f := .free "isinstance") rfl), He.free_ok X G (c.t.d.fact 38 (f := .free "len") rfl), He.free_ok X G (c.t.d.fact 39 (f := .free "max") rfl), He.free_ok X G (c.t.d.fact 40 (f := .free "min") rfl), He.free_ok X G (c.t.d.fact 41 (f := .free "range") rfl), He.free_ok X G (c.t.d.fact 42 (f := .free "sum") rfl), He.free_ok X G (c.t.d.fact 43 (f := .free "tuple") rfl), PySem.W.mg_of X G (He.eqO_ok (show He.eqO (PySem.W.nsIn K mainGlobals "gcd") (some (some (.builtin "math.gcd"))) = true from c.more)), He.int_ok X G (c.t.d.fact 44 (f := .int "MOST_MONTHS" 12) rfl), He.int_ok X G (c.t.d.fact 45 (f := .int "MOST_WATER" 1000) rfl)⟩
  obtain ⟨fd_is_whole, E_is_whole⟩ := c.t.d.def_ 0 (d := dd "is_whole" 10) rfl
  obtain ⟨cd_is_whole, D_is_whole⟩ := df_of (st := top 10) E_is_whole
  obtain ⟨fd_is_between, E_is_between⟩ := c.t.d.def_ 1 (d := dd "is_between" 11) rfl
  obtain ⟨cd_is_between, D_is_between⟩ := df_of (st := top 11) E_is_between
  obtain ⟨fd_is_row_between, E_is_row_between⟩ := c.t.d.def_ 2 (d := dd "is_row_between" 12) rfl
  have D_is_row_between := df_gen (st := top 12) E_is_row_between
  obtain ⟨fd_ratio, E_ratio⟩ := c.t.d.def_ 3 (d := dd "ratio" 13) rfl
  obtain ⟨cd_ratio, D_ratio⟩ := df_of (st := top 13) E_ratio
  obtain ⟨fd_is_less, E_is_less⟩ := c.t.d.def_ 4 (d := dd "is_less" 14) rfl
  obtain ⟨cd_is_less, D_is_less⟩ := df_of (st := top 14) E_is_less
  obtain ⟨fd_least_ratio, E_least_ratio⟩ := c.t.d.def_ 5 (d := dd "least_ratio" 15) rfl
  obtain ⟨cd_least_ratio, D_least_ratio⟩ := df_of (st := top 15) E_least_ratio
  obtain ⟨fd_is_inflows, E_is_inflows⟩ := c.t.d.def_ 6 (d := dd "is_inflows" 19) rfl
  obtain ⟨cd_is_inflows, D_is_inflows⟩ := df_of (st := top 19) E_is_inflows
  obtain ⟨fd_is_dam, E_is_dam⟩ := c.t.d.def_ 7 (d := dd "is_dam" 20) rfl
  obtain ⟨cd_is_dam, D_is_dam⟩ := df_of (st := top 20) E_is_dam
  obtain ⟨fd_check_dam, E_check_dam⟩ := c.t.d.def_ 8 (d := dd "check_dam" 21) rfl
  obtain ⟨cd_check_dam, D_check_dam⟩ := df_of (st := top 21) E_check_dam
  obtain ⟨fd_check_inflows, E_check_inflows⟩ := c.t.d.def_ 9 (d := dd "check_inflows" 22) rfl
  obtain ⟨cd_check_inflows, D_check_inflows⟩ := df_of (st := top 22) E_check_inflows
  obtain ⟨fd_check_demands, E_check_demands⟩ := c.t.d.def_ 10 (d := dd "check_demands" 23) rfl
  obtain ⟨cd_check_demands, D_check_demands⟩ := df_of (st := top 23) E_check_demands
  obtain ⟨fd_check_has_plan, E_check_has_plan⟩ := c.t.d.def_ 11 (d := dd "check_has_plan" 24) rfl
  obtain ⟨cd_check_has_plan, D_check_has_plan⟩ := df_of (st := top 24) E_check_has_plan
  obtain ⟨fd_windows, E_windows⟩ := c.t.d.def_ 12 (d := dd "windows" 26) rfl
  obtain ⟨cd_windows, D_windows⟩ := df_of (st := top 26) E_windows
  obtain ⟨fd_in_window, E_in_window⟩ := c.t.d.def_ 13 (d := dd "in_window" 27) rfl
  obtain ⟨cd_in_window, D_in_window⟩ := df_of (st := top 27) E_in_window
  obtain ⟨fd_most_water, E_most_water⟩ := c.t.d.def_ 14 (d := dd "most_water" 28) rfl
  obtain ⟨cd_most_water, D_most_water⟩ := df_of (st := top 28) E_most_water
  obtain ⟨fd_spare_water, E_spare_water⟩ := c.t.d.def_ 15 (d := dd "spare_water" 29) rfl
  obtain ⟨cd_spare_water, D_spare_water⟩ := df_of (st := top 29) E_spare_water
  obtain ⟨fd_window_yield, E_window_yield⟩ := c.t.d.def_ 16 (d := dd "window_yield" 30) rfl
  obtain ⟨cd_window_yield, D_window_yield⟩ := df_of (st := top 30) E_window_yield
  obtain ⟨fd_firm_yield, E_firm_yield⟩ := c.t.d.def_ 17 (d := dd "firm_yield" 31) rfl
  obtain ⟨cd_firm_yield, D_firm_yield⟩ := df_of (st := top 31) E_firm_yield
  obtain ⟨fd_firm_share, E_firm_share⟩ := c.t.d.def_ 18 (d := dd "firm_share" 32) rfl
  obtain ⟨cd_firm_share, D_firm_share⟩ := df_of (st := top 32) E_firm_share
  obtain ⟨fd_round_yield, E_round_yield⟩ := c.t.d.def_ 19 (d := dd "round_yield" 33) rfl
  obtain ⟨cd_round_yield, D_round_yield⟩ := df_of (st := top 33) E_round_yield
  obtain ⟨fd_check_rows, E_check_rows⟩ := c.t.d.def_ 20 (d := dd "check_rows" 35) rfl
  obtain ⟨cd_check_rows, D_check_rows⟩ := df_of (st := top 35) E_check_rows
  obtain ⟨fd_rows_of_months, E_rows_of_months⟩ := c.t.d.def_ 21 (d := dd "rows_of_months" 36) rfl
  obtain ⟨cd_rows_of_months, D_rows_of_months⟩ := df_of (st := top 36) E_rows_of_months
  obtain ⟨fd_lack_of_row, E_lack_of_row⟩ := c.t.d.def_ 22 (d := dd "lack_of_row" 37) rfl
  obtain ⟨cd_lack_of_row, D_lack_of_row⟩ := df_of (st := top 37) E_lack_of_row
  obtain ⟨fd_found_storage, E_found_storage⟩ := c.t.d.def_ 23 (d := dd "found_storage" 38) rfl
  obtain ⟨cd_found_storage, D_found_storage⟩ := df_of (st := top 38) E_found_storage
  obtain ⟨fd_least_storage, E_least_storage⟩ := c.t.d.def_ 24 (d := dd "least_storage" 39) rfl
  obtain ⟨cd_least_storage, D_least_storage⟩ := df_of (st := top 39) E_least_storage
  obtain ⟨fd__law_ratio, E__law_ratio⟩ := c.t.d.def_ 25 (d := dd "_law_ratio" 44) rfl
  obtain ⟨cd__law_ratio, D__law_ratio⟩ := df_of (st := top 44) E__law_ratio
  obtain ⟨fd__law_by, E__law_by⟩ := c.t.d.def_ 26 (d := dd "_law_by" 46) rfl
  obtain ⟨cd__law_by, D__law_by⟩ := df_of (st := top 46) E__law_by
  obtain ⟨fd__law_less, E__law_less⟩ := c.t.d.def_ 27 (d := dd "_law_less" 48) rfl
  obtain ⟨cd__law_less, D__law_less⟩ := df_of (st := top 48) E__law_less
  obtain ⟨fd__law_taken, E__law_taken⟩ := c.t.d.def_ 28 (d := dd "_law_taken" 41) rfl
  obtain ⟨cd__law_taken, D__law_taken⟩ := df_of (st := top 41) E__law_taken
  obtain ⟨fd__law_pick, E__law_pick⟩ := c.t.d.def_ 29 (d := dd "_law_pick" 42) rfl
  obtain ⟨cd__law_pick, D__law_pick⟩ := df_of (st := top 42) E__law_pick
  obtain ⟨fd__law_flow, E__law_flow⟩ := c.t.d.def_ 30 (d := dd "_law_flow" 50) rfl
  obtain ⟨cd__law_flow, D__law_flow⟩ := df_of (st := top 50) E__law_flow
  obtain ⟨fd__law_demands, E__law_demands⟩ := c.t.d.def_ 31 (d := dd "_law_demands" 52) rfl
  obtain ⟨cd__law_demands, D__law_demands⟩ := df_of (st := top 52) E__law_demands
  obtain ⟨fd_law, E_law⟩ := c.t.d.def_ 32 (d := dd "law" 56) rfl
  obtain ⟨cd_law, D_law⟩ := df_of (st := top 56) E_law
  refine end_at (cs := tfs.map (He.cT K)) (tf_ok X c) (FunD.bindsA (ps := ["script"]) E_law (fun _ _ _ _ _ _ us hl => match us, hl with | [_], _ => rfl)) fun base XB GB TB => ?_
  have tb_is_row_between := TB _ (List.mem_map_of_mem (f := He.cT K) (show (("is_row_between", none) : He.Defn) ∈ tfs by simp [tfs]))
  have tm_is_row_between : (He.cT K ("is_row_between", none)).2 ∈ (tfs.map (He.cT K)).map (·.2) := List.mem_map_of_mem (List.mem_map_of_mem (by simp [tfs]))
  have b_is_whole : Binds K fd_is_whole ["value"] [] := D_is_whole.binds fun _ _ _ _ _ _ us hl => match us, hl with | [_], _ => rfl
  have C_is_whole : CF PySem.Challenge.rw_damworks_k48_across_yields_and_storages.prog w K mg base ((tfs.map (He.cT K)).map (·.2)) 1 "is_whole" 1 S_is_whole := ⟨_, fd_is_whole, _, He.glo_ok X G (c.t.d.fact 0 (f := .glo "is_whole") rfl), D_is_whole.kp, b_is_whole, ok_is_whole T D_is_whole ⟩
  have b_is_between : Binds K fd_is_between ["value", "least", "most"] [] := D_is_between.binds fun _ _ _ _ _ _ us hl => match us, hl with | [_, _, _], _ => rfl
  have C_is_between : CF PySem.Challenge.rw_damworks_k48_across_yields_and_storages.prog w K mg base ((tfs.map (He.cT K)).map (·.2)) 2 "is_between" 3 S_is_between := ⟨_, fd_is_between, _, He.glo_ok X G (c.t.d.fact 1 (f := .glo "is_between") rfl), D_is_between.kp, b_is_between, ok_is_between T D_is_between C_is_whole⟩
  have b_is_row_between : Binds K fd_is_row_between ["value", "least", "most"] [] := D_is_row_between.binds fun _ _ _ _ _ _ us hl => match us, hl with | [_, _, _], _ => rfl
  have C_is_row_between : CF PySem.Challenge.rw_damworks_k48_across_yields_and_storages.prog w K mg base ((tfs.map (He.cT K)).map (·.2)) 4 "is_row_between" 3 S_is_row_between := ⟨_, fd_is_row_between, _, He.glo_ok X G (c.t.d.fact 2 (f := .glo "is_row_between") rfl), D_is_row_between.kp, b_is_row_between, ok_is_row_between T tb_is_row_between tm_is_row_between D_is_row_between C_is_between⟩
  have b_ratio : Binds K fd_ratio ["top", "bottom"] [] := D_ratio.binds fun _ _ _ _ _ _ us hl => match us, hl with | [_, _], _ => rfl
  have C_ratio : CF PySem.Challenge.rw_damworks_k48_across_yields_and_storages.prog w K mg base ((tfs.map (He.cT K)).map (·.2)) 1 "ratio" 2 S_ratio := ⟨_, fd_ratio, _, He.glo_ok X G (c.t.d.fact 3 (f := .glo "ratio") rfl), D_ratio.kp, b_ratio, ok_ratio T D_ratio ⟩
  have b_is_less : Binds K fd_is_less ["one", "other"] [] := D_is_less.binds fun _ _ _ _ _ _ us hl => match us, hl with | [_, _], _ => rfl
  have C_is_less : CF PySem.Challenge.rw_damworks_k48_across_yields_and_storages.prog w K mg base ((tfs.map (He.cT K)).map (·.2)) 1 "is_less" 2 S_is_less := ⟨_, fd_is_less, _, He.glo_ok X G (c.t.d.fact 4 (f := .glo "is_less") rfl), D_is_less.kp, b_is_less, ok_is_less T D_is_less ⟩
  have b_least_ratio : Binds K fd_least_ratio ["ratios"] [] := D_least_ratio.binds fun _ _ _ _ _ _ us hl => match us, hl with | [_], _ => rfl
  have C_least_ratio : CF PySem.Challenge.rw_damworks_k48_across_yields_and_storages.prog w K mg base ((tfs.map (He.cT K)).map (·.2)) 2 "least_ratio" 1 S_least_ratio := ⟨_, fd_least_ratio, _, He.glo_ok X G (c.t.d.fact 5 (f := .glo "least_ratio") rfl), D_least_ratio.kp, b_least_ratio, ok_least_ratio T D_least_ratio C_is_less⟩
  have b_is_inflows : Binds K fd_is_inflows ["value"] [] := D_is_inflows.binds fun _ _ _ _ _ _ us hl => match us, hl with | [_], _ => rfl
  have C_is_inflows : CF PySem.Challenge.rw_damworks_k48_across_yields_and_storages.prog w K mg base ((tfs.map (He.cT K)).map (·.2)) 5 "is_inflows" 1 S_is_inflows := ⟨_, fd_is_inflows, _, He.glo_ok X G (c.t.d.fact 6 (f := .glo "is_inflows") rfl), D_is_inflows.kp, b_is_inflows, ok_is_inflows T D_is_inflows C_is_row_between⟩
  have b_is_dam : Binds K fd_is_dam ["value"] [] := D_is_dam.binds fun _ _ _ _ _ _ us hl => match us, hl with | [_], _ => rfl
  have C_is_dam : CF PySem.Challenge.rw_damworks_k48_across_yields_and_storages.prog w K mg base ((tfs.map (He.cT K)).map (·.2)) 6 "is_dam" 1 S_is_dam := ⟨_, fd_is_dam, _, He.glo_ok X G (c.t.d.fact 7 (f := .glo "is_dam") rfl), D_is_dam.kp, b_is_dam, ok_is_dam T D_is_dam C_is_between C_is_inflows⟩
  have b_check_dam : Binds K fd_check_dam ["dam"] [] := D_check_dam.binds fun _ _ _ _ _ _ us hl => match us, hl with | [_], _ => rfl
  have C_check_dam : CF PySem.Challenge.rw_damworks_k48_across_yields_and_storages.prog w K mg base ((tfs.map (He.cT K)).map (·.2)) 7 "check_dam" 1 S_check_dam := ⟨_, fd_check_dam, _, He.glo_ok X G (c.t.d.fact 8 (f := .glo "check_dam") rfl), D_check_dam.kp, b_check_dam, ok_check_dam T D_check_dam C_is_dam⟩
  have b_check_inflows : Binds K fd_check_inflows ["inflows"] [] := D_check_inflows.binds fun _ _ _ _ _ _ us hl => match us, hl with | [_], _ => rfl
  have C_check_inflows : CF PySem.Challenge.rw_damworks_k48_across_yields_and_storages.prog w K mg base ((tfs.map (He.cT K)).map (·.2)) 6 "check_inflows" 1 S_check_inflows := ⟨_, fd_check_inflows, _, He.glo_ok X G (c.t.d.fact 9 (f := .glo "check_inflows") rfl), D_check_inflows.kp, b_check_inflows, ok_check_inflows T D_check_inflows C_is_inflows⟩
  have b_check_demands : Binds K fd_check_demands ["demands", "count"] [] := D_check_demands.binds fun _ _ _ _ _ _ us hl => match us, hl with | [_, _], _ => rfl
  have C_check_demands : CF PySem.Challenge.rw_damworks_k48_across_yields_and_storages.prog w K mg base ((tfs.map (He.cT K)).map (·.2)) 5 "check_demands" 2 S_check_demands := ⟨_, fd_check_demands, _, He.glo_ok X G (c.t.d.fact 10 (f := .glo "check_demands") rfl), D_check_demands.kp, b_check_demands, ok_check_demands T D_check_demands C_is_row_between⟩
  have b_check_has_plan : Binds K fd_check_has_plan ["dam"] [] := D_check_has_plan.binds fun _ _ _ _ _ _ us hl => match us, hl with | [_], _ => rfl
  have C_check_has_plan : CF PySem.Challenge.rw_damworks_k48_across_yields_and_storages.prog w K mg base ((tfs.map (He.cT K)).map (·.2)) 1 "check_has_plan" 1 S_check_has_plan := ⟨_, fd_check_has_plan, _, He.glo_ok X G (c.t.d.fact 11 (f := .glo "check_has_plan") rfl), D_check_has_plan.kp, b_check_has_plan, ok_check_has_plan T D_check_has_plan ⟩
  have b_windows : Binds K fd_windows ["months"] [] := D_windows.binds fun _ _ _ _ _ _ us hl => match us, hl with | [_], _ => rfl
  have C_windows : CF PySem.Challenge.rw_damworks_k48_across_yields_and_storages.prog w K mg base ((tfs.map (He.cT K)).map (·.2)) 1 "windows" 1 S_windows := ⟨_, fd_windows, _, He.glo_ok X G (c.t.d.fact 12 (f := .glo "windows") rfl), D_windows.kp, b_windows, ok_windows T D_windows ⟩
  have b_in_window : Binds K fd_in_window ["amounts", "window"] [] := D_in_window.binds fun _ _ _ _ _ _ us hl => match us, hl with | [_, _], _ => rfl
  have C_in_window : CF PySem.Challenge.rw_damworks_k48_across_yields_and_storages.prog w K mg base ((tfs.map (He.cT K)).map (·.2)) 1 "in_window" 2 S_in_window := ⟨_, fd_in_window, _, He.glo_ok X G (c.t.d.fact 13 (f := .glo "in_window") rfl), D_in_window.kp, b_in_window, ok_in_window T D_in_window ⟩
  have b_most_water : Binds K fd_most_water ["dam", "window"] [] := D_most_water.binds fun _ _ _ _ _ _ us hl => match us, hl with | [_, _], _ => rfl
  have C_most_water : CF PySem.Challenge.rw_damworks_k48_across_yields_and_storages.prog w K mg base ((tfs.map (He.cT K)).map (·.2)) 2 "most_water" 2 S_most_water := ⟨_, fd_most_water, _, He.glo_ok X G (c.t.d.fact 14 (f := .glo "most_water") rfl), D_most_water.kp, b_most_water, ok_most_water T D_most_water C_in_window⟩
  have b_spare_water : Binds K fd_spare_water ["dam", "window"] [] := D_spare_water.binds fun _ _ _ _ _ _ us hl => match us, hl with | [_, _], _ => rfl
  have C_spare_water : CF PySem.Challenge.rw_damworks_k48_across_yields_and_storages.prog w K mg base ((tfs.map (He.cT K)).map (·.2)) 3 "spare_water" 2 S_spare_water := ⟨_, fd_spare_water, _, He.glo_ok X G (c.t.d.fact 15 (f := .glo "spare_water") rfl), D_spare_water.kp, b_spare_water, ok_spare_water T D_spare_water C_most_water⟩
  have b_window_yield : Binds K fd_window_yield ["dam", "window"] [] := D_window_yield.binds fun _ _ _ _ _ _ us hl => match us, hl with | [_, _], _ => rfl
  have C_window_yield : CF PySem.Challenge.rw_damworks_k48_across_yields_and_storages.prog w K mg base ((tfs.map (He.cT K)).map (·.2)) 4 "window_yield" 2 S_window_yield := ⟨_, fd_window_yield, _, He.glo_ok X G (c.t.d.fact 16 (f := .glo "window_yield") rfl), D_window_yield.kp, b_window_yield, ok_window_yield T D_window_yield C_ratio C_spare_water⟩
  have b_firm_yield : Binds K fd_firm_yield ["dam"] [] := D_firm_yield.binds fun _ _ _ _ _ _ us hl => match us, hl with | [_], _ => rfl
  have C_firm_yield : CF PySem.Challenge.rw_damworks_k48_across_yields_and_storages.prog w K mg base ((tfs.map (He.cT K)).map (·.2)) 8 "firm_yield" 1 S_firm_yield := ⟨_, fd_firm_yield, _, He.glo_ok X G (c.t.d.fact 17 (f := .glo "firm_yield") rfl), D_firm_yield.kp, b_firm_yield, ok_firm_yield T D_firm_yield C_check_dam C_check_has_plan C_least_ratio C_windows C_window_yield⟩
  have b_firm_share : Binds K fd_firm_share ["dam", "demands"] [] := D_firm_share.binds fun _ _ _ _ _ _ us hl => match us, hl with | [_, _], _ => rfl
  have C_firm_share : CF PySem.Challenge.rw_damworks_k48_across_yields_and_storages.prog w K mg base ((tfs.map (He.cT K)).map (·.2)) 8 "firm_share" 2 S_firm_share := ⟨_, fd_firm_share, _, He.glo_ok X G (c.t.d.fact 18 (f := .glo "firm_share") rfl), D_firm_share.kp, b_firm_share, ok_firm_share T D_firm_share C_check_dam C_check_demands C_check_has_plan C_windows C_in_window C_ratio C_spare_water C_least_ratio⟩
  have b_round_yield : Binds K fd_round_yield ["capacity", "inflows"] [] := D_round_yield.binds fun _ _ _ _ _ _ us hl => match us, hl with | [_, _], _ => rfl
  have C_round_yield : CF PySem.Challenge.rw_damworks_k48_across_yields_and_storages.prog w K mg base ((tfs.map (He.cT K)).map (·.2)) 7 "round_yield" 2 S_round_yield := ⟨_, fd_round_yield, _, He.glo_ok X G (c.t.d.fact 19 (f := .glo "round_yield") rfl), D_round_yield.kp, b_round_yield, ok_round_yield T D_round_yield C_is_between C_check_inflows C_ratio C_least_ratio⟩
  have b_check_rows : Binds K fd_check_rows ["inflows", "demands", "is_round"] [] := D_check_rows.binds fun _ _ _ _ _ _ us hl => match us, hl with | [_, _, _], _ => rfl
  have C_check_rows : CF PySem.Challenge.rw_damworks_k48_across_yields_and_storages.prog w K mg base ((tfs.map (He.cT K)).map (·.2)) 7 "check_rows" 3 S_check_rows := ⟨_, fd_check_rows, _, He.glo_ok X G (c.t.d.fact 20 (f := .glo "check_rows") rfl), D_check_rows.kp, b_check_rows, ok_check_rows T D_check_rows C_check_inflows C_check_demands⟩
  have b_rows_of_months : Binds K fd_rows_of_months ["months", "is_round"] [] := D_rows_of_months.binds fun _ _ _ _ _ _ us hl => match us, hl with | [_, _], _ => rfl
  have C_rows_of_months : CF PySem.Challenge.rw_damworks_k48_across_yields_and_storages.prog w K mg base ((tfs.map (He.cT K)).map (·.2)) 1 "rows_of_months" 2 S_rows_of_months := ⟨_, fd_rows_of_months, _, He.glo_ok X G (c.t.d.fact 21 (f := .glo "rows_of_months") rfl), D_rows_of_months.kp, b_rows_of_months, ok_rows_of_months T D_rows_of_months ⟩
  have b_lack_of_row : Binds K fd_lack_of_row ["inflows", "demands", "row"] [] := D_lack_of_row.binds fun _ _ _ _ _ _ us hl => match us, hl with | [_, _, _], _ => rfl
  have C_lack_of_row : CF PySem.Challenge.rw_damworks_k48_across_yields_and_storages.prog w K mg base ((tfs.map (He.cT K)).map (·.2)) 1 "lack_of_row" 3 S_lack_of_row := ⟨_, fd_lack_of_row, _, He.glo_ok X G (c.t.d.fact 22 (f := .glo "lack_of_row") rfl), D_lack_of_row.kp, b_lack_of_row, ok_lack_of_row T D_lack_of_row ⟩
  have b_found_storage : Binds K fd_found_storage ["inflows", "demands", "is_round"] [] := D_found_storage.binds fun _ _ _ _ _ _ us hl => match us, hl with | [_, _, _], _ => rfl
  have C_found_storage : CF PySem.Challenge.rw_damworks_k48_across_yields_and_storages.prog w K mg base ((tfs.map (He.cT K)).map (·.2)) 2 "found_storage" 3 S_found_storage := ⟨_, fd_found_storage, _, He.glo_ok X G (c.t.d.fact 23 (f := .glo "found_storage") rfl), D_found_storage.kp, b_found_storage, ok_found_storage T D_found_storage C_rows_of_months C_lack_of_row⟩
  have b_least_storage : Binds K fd_least_storage ["inflows", "demands", "is_round"] [] := D_least_storage.binds fun _ _ _ _ _ _ us hl => match us, hl with | [_, _, _], _ => rfl
  have C_least_storage : CF PySem.Challenge.rw_damworks_k48_across_yields_and_storages.prog w K mg base ((tfs.map (He.cT K)).map (·.2)) 8 "least_storage" 3 S_least_storage := ⟨_, fd_least_storage, _, He.glo_ok X G (c.t.d.fact 24 (f := .glo "least_storage") rfl), D_least_storage.kp, b_least_storage, ok_least_storage T D_least_storage C_check_rows C_found_storage⟩
  have b__law_ratio : Binds K fd__law_ratio ["top", "bottom"] [] := D__law_ratio.binds fun _ _ _ _ _ _ us hl => match us, hl with | [_, _], _ => rfl
  have C__law_ratio : CF PySem.Challenge.rw_damworks_k48_across_yields_and_storages.prog w K mg base ((tfs.map (He.cT K)).map (·.2)) 1 "_law_ratio" 2 S__law_ratio := ⟨_, fd__law_ratio, _, He.glo_ok X G (c.t.d.fact 25 (f := .glo "_law_ratio") rfl), D__law_ratio.kp, b__law_ratio, ok__law_ratio euW T D__law_ratio ⟩
  have b__law_by : Binds K fd__law_by ["one", "other"] [] := D__law_by.binds fun _ _ _ _ _ _ us hl => match us, hl with | [_, _], _ => rfl
  have C__law_by : CF PySem.Challenge.rw_damworks_k48_across_yields_and_storages.prog w K mg base ((tfs.map (He.cT K)).map (·.2)) 2 "_law_by" 2 S__law_by := ⟨_, fd__law_by, _, He.glo_ok X G (c.t.d.fact 26 (f := .glo "_law_by") rfl), D__law_by.kp, b__law_by, ok__law_by T D__law_by C__law_ratio⟩
  have b__law_less : Binds K fd__law_less ["one", "other"] [] := D__law_less.binds fun _ _ _ _ _ _ us hl => match us, hl with | [_, _], _ => rfl
  have C__law_less : CF PySem.Challenge.rw_damworks_k48_across_yields_and_storages.prog w K mg base ((tfs.map (He.cT K)).map (·.2)) 1 "_law_less" 2 S__law_less := ⟨_, fd__law_less, _, He.glo_ok X G (c.t.d.fact 27 (f := .glo "_law_less") rfl), D__law_less.kp, b__law_less, ok__law_less T D__law_less ⟩
  have b__law_taken : Binds K fd__law_taken ["row", "many"] [] := D__law_taken.binds fun _ _ _ _ _ _ us hl => match us, hl with | [_, _], _ => rfl
  have C__law_taken : CW PySem.Challenge.rw_damworks_k48_across_yields_and_storages.prog w K mg base ((tfs.map (He.cT K)).map (·.2)) 1 "_law_taken" 1 cTaken := ⟨_, fd__law_taken, _, He.glo_ok X G (c.t.d.fact 28 (f := .glo "_law_taken") rfl), D__law_taken.kp, b__law_taken, ok_taken T D__law_taken ⟩
  have b__law_pick : Binds K fd__law_pick ["row", "things"] [] := D__law_pick.binds fun _ _ _ _ _ _ us hl => match us, hl with | [_, _], _ => rfl
  have C__law_pick : CW PySem.Challenge.rw_damworks_k48_across_yields_and_storages.prog w K mg base ((tfs.map (He.cT K)).map (·.2)) 2 "_law_pick" 1 cPick := ⟨_, fd__law_pick, _, He.glo_ok X G (c.t.d.fact 29 (f := .glo "_law_pick") rfl), D__law_pick.kp, b__law_pick, ok_pick T D__law_pick C__law_taken⟩
  have b__law_flow : Binds K fd__law_flow ["row"] [] := D__law_flow.binds fun _ _ _ _ _ _ us hl => match us, hl with | [_], _ => rfl
  have C__law_flow : CW PySem.Challenge.rw_damworks_k48_across_yields_and_storages.prog w K mg base ((tfs.map (He.cT K)).map (·.2)) 3 "_law_flow" 0 cFlow := ⟨_, fd__law_flow, _, He.glo_ok X G (c.t.d.fact 30 (f := .glo "_law_flow") rfl), D__law_flow.kp, b__law_flow, ok_flow T D__law_flow C__law_taken C__law_pick⟩
  have b__law_demands : Binds K fd__law_demands ["row", "many"] [] := D__law_demands.binds fun _ _ _ _ _ _ us hl => match us, hl with | [_, _], _ => rfl
  have C__law_demands : CW PySem.Challenge.rw_damworks_k48_across_yields_and_storages.prog w K mg base ((tfs.map (He.cT K)).map (·.2)) 4 "_law_demands" 1 cDemands := ⟨_, fd__law_demands, _, He.glo_ok X G (c.t.d.fact 31 (f := .glo "_law_demands") rfl), D__law_demands.kp, b__law_demands, ok_demands T D__law_demands C__law_flow⟩
  exact ok_law T D_law C__law_less C_firm_yield C_least_storage C_round_yield C_firm_share C__law_by C__law_taken C__law_pick C__law_demands law_sem
end L48
open PySem PySem.W PySem.Calls PyProof.Rows
theorem PySem.Challenge.cw_damworks_k48_across_yields_and_storages_holds : PySem.Challenge.rw_damworks_k48_across_yields_and_storages.Holds := by
  w_on; o_law
  refine HandSHeadRun.head_imp (r := L48.TheRow) (q := view L48.TheRow.prog [0, 56]) (H := L48.hk) (ob := L48.ob) (M := 9000) (loose := L48.others) (d := HandSHeadRun.topDef L48.TheRow.prog 56) (kwd := []) L48.ob_eq
    L48.run (by kernel_rfl) (by kernel_rfl) (by kernel_rfl) (by rfl) (by first | assumption | decide +kernel) (by decide +kernel) ⟨rfl, rfl, rfl, rfl, rfl, by decide +kernel⟩ ?hw ?hc
  case hw => w_witness2
  case hc =>
    refine LamX.walk_ofTsE (l := PySem.Challenge.rw_damworks_k48_across_yields_and_storages) (n := 63) (k := 9) (x := "script") (CX := fun _ => L2.CX0) rfl (by decide) (by kernel_rfl) ⟨rfl, by decide, by decide⟩ ?F (fun _ _ _ _ _ z => z)
    intro w mg fa h Y G hmg0
    obtain ⟨K, KX, c⟩ := Y
    have hmg : mg ("law" : PySem.Str) = some (.ref fa) := by
      have e : (HandSHeadRun.topDef L48.TheRow.prog 56).name = ("law" : PySem.Str) := by kernel_rfl
      rw [← e]
      exact hmg0
    exact ⟨K, KX, L48.facts KX G hmg c⟩
