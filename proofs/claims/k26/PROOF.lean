import PyProof.Rows.All
import Wide.All
import OpenK.AllK
import Wide.FinOn
import HandS.Words
import HandS.Defaults
import HandS.EndTab
import HandS.HeadWalk
import HandS.Head0
import HandS.Head1
import HandS.Head2
import HandS.HeadHook4
import HandS.ForMost
import HandS.AnyAll
import HandS.GenOver
import HandS.Lambda
import HandS.Wide
import HandS.IsInst
import HandS.Deep
import HandS.TupMul
import HandS.Gcd
import HandS.TupAny
import KE.KTupSum
import HandS.Style
import HandS.Zip
import KE.GoesMore
import KE.GoesEnum
import KE.DataMinMax
import HandS.WordsExc
import HandS.ExcIs
import HandS.TryOnly
import HandS.Head3
import HandS.Rev
import HandS.SortKw
import KE.GoesEnumKw
import PyProof.Rows.ListCopyD
import HandS.Flow
import HandS.CallLocal
import KE.KDictZip
import PyProof.CollectWalk
import PyProof.ListNew
import HandS.ListItems
import KE.SortData
import KE.SortKeyHeap
import HandS.SetFor
import HandS.Strs
import KE.GoesZip
import PyProof.ListRange
import PySem.Challenge.RW_damworks_k26_whole_waits
set_option Elab.async false
set_option linter.all false
namespace DN
open PySem PySem.Spec PyProof.Rows L2
abbrev lsOf (K : PySem.W.Frag) (tl : List He.Defn) : List (Addr × Str) := tl.map fun d => ((He.cT K d).2, d.1 ++ (".<locals>.<lambda>" : Str))
end DN
set_option maxRecDepth 100000
set_option maxHeartbeats 4000000
namespace GA
open PySem PySem.Spec PyProof.Rows L2
abbrev St := L2.St
section
variable {prog : Program} {w : World} {A : Around} {R : Result → Shared → Prop} {I : Addr}
theorem all_loop {St : Nat → Shared → Prop} (turn : ∀ m s, St m s → wpAny (model prog w) A.in1 (pyNext (.ref I)) (fun r s' => match r with
      | none => R (.ok (.ret (.bool true))) s'
      | some v => ∃ b, v = .bool b ∧ if b = true then ∃ m', m' < m ∧ St m' s' else R (.ok (.ret (.bool b))) s') (fun _ _ => False) s) :
    ∀ m s, St m s → codeAny (model prog w) A (.builtin "all.loop" ⟨[.ref I], []⟩) R s := by
  intro m
  induction m using Nat.strongRecOn with
  | ind m ih =>
    intro s hst
    refine codeAny_builtin F.entry_all_loop ?_
    rw [Around.under_plainId F.plain_all_loop _]
    show wpAny _ A.in1 (pyNext (.ref I) >>= _) _ _ s
    refine wpAny_bind (wpAny_mono (turn m s hst) (fun r s' hr => ?_) fun _ _ z => False.elim z)
    cases r with
    | none => exact wpAny_bind (wpAny_rule (wpAny_pure hr))
    | some v =>
      obtain ⟨b, rfl, hb⟩ := hr
      refine wpAny_bind (wpAny_holding (wpAny_truthy_bool ?_))
      refine wpAny_bind (wpAny_letGo ?_)
      cases b with
      | true =>
        simp only [if_true] at hb ⊢
        obtain ⟨m', hm, hs⟩ := hb
        exact wpAny_pure ⟨plainId_quiet F.plain_all_loop _, ih m' hm s' hs⟩
      | false =>
        simp only [Bool.false_eq_true, if_false] at hb ⊢
        exact wpAny_bind (wpAny_rule (wpAny_pure hb))
end
abbrev gCx (X : Cx) (s : Shared) (H : Hp) (cenv : Env) (fp : List Addr) (pn : List (Addr × Obj)) : Cx :=
  { X with A := X.A.in1.in1.deeper cenv, s_0 := s, H_0 := H, env := cenv, outer := X.stack, stack := cenv :: X.stack, ex := fp, fn := fun _ => false, pn := pn, xe := fun _ _ => False }
section
variable {X : Cx} {pins : List (Addr × Obj)} {σ : St} {H : Hp} {s s' : Shared}
theorem inv_rest (I : Inv X pins σ H s) (k : ∀ b u, s.heap.get? b = some u → s'.heap.get? b = some u) (ho : s'.os = s.os) (hb : AllBare s'.gens) : Inv X pins σ H s' := by
  have J := I.step (H' := H) (h' := s'.heap) (g' := s'.gens) (t' := s'.toks) (d' := s'.drawn) (ch := []) (fun b hb => absurd hb (by simp)) (fun b o _ _ _ e _ => k b o e) (fun b o _ _ _ e _ => ⟨o.slots, k b o e⟩)
    (fun _ _ _ _ n => n) (fun b o _ e => ⟨o, k b o e⟩) (fun _ _ q => q) (fun _ _ _ q => q) (fun b ps q => ⟨#[], by rw [q]; simp⟩) (fun m hm => let ⟨o, es, ep, ho, r⟩ := hm; ⟨o, es, ep, k _ o ho, r⟩) (I.hok.kept k) hb
  rw [GxR.sh_eta s s' ho] at J
  exact J
structure Woken (s s' : Shared) : Prop where
  heap : s'.heap = s.heap
  os : s'.os = s.os
  bare : AllBare s'.gens
  size : s.gens.size ≤ s'.gens.size
theorem Woken.inv (W : Woken s s') (I : Inv X pins σ H s) : Inv X pins σ H s' := inv_rest I (fun b u e => by rw [W.heap]; exact e) W.os W.bare
theorem bare_set {G : Array GenState} (h : AllBare G) {g : Nat} {x : GenState} (hx : x.bare = true) : AllBare (G.setIfInBounds g x) := by
  intro y hy
  obtain ⟨i, hi, rfl⟩ := Array.mem_iff_getElem.mp hy
  have hi' : i < G.size := by simpa using hi
  rw [Array.getElem_setIfInBounds hi']
  split
  · exact hx
  · exact h _ (Array.getElem_mem hi')
theorem Woken.set (hb : AllBare s.gens) {g : Nat} {x : GenState} (hx : x.bare = true) : Woken s (s.setGen g x) := ⟨rfl, rfl, bare_set hb hx, by rw [GenW.setGen_size]; exact Nat.le_refl _⟩
end
section
variable {X : Cx} {s₁ : Shared} {H₁ : Hp} {cenv : Env} {fp : List Addr} {pn : List (Addr × Obj)}
def gY (X : Cx) (s₁ : Shared) (H₁ : Hp) (cenv : Env) (fp : List Addr) (pn : List (Addr × Obj)) (ev : Bool) (G0 : Nat) (Qx : Bool → Hp → Prop) : Protocol := fun n s₀ v s kap =>
  ∃ b σ' H', v = .bool b ∧ Inv (gCx X s₁ H₁ cenv fp pn) [] σ' H' s ∧ G0 ≤ s.gens.size ∧ if b = ev then ∀ s'', Woken s s'' → kap (.send .none) s'' else Qx b H'
def gP (X : Cx) (s₁ : Shared) (H₁ : Hp) (cenv : Env) (fp : List Addr) (pn : List (Addr × Obj)) (ev : Bool) (Qx : Bool → Hp → Prop) : Nat → Shared → Shared → Prop := fun _ _ s =>
  ∃ σ' H', Inv (gCx X s₁ H₁ cenv fp pn) [] σ' H' s ∧ Qx ev H'
def gR (X : Cx) (s₁ : Shared) (H₁ : Hp) (cenv : Env) (fp : List Addr) (pn : List (Addr × Obj)) (ev : Bool) (Qx : Bool → Hp → Prop) : GenEnd := fun n s₀ r s => r = .ok .next ∧ gP X s₁ H₁ cenv fp pn ev Qx n s₀ s
theorem seg_loop {elt tg iter : Expr} {scope : Scope} {pos : Pos} {it : Addr} {tn : Nat → Heap → Prop} {J : It} {g : TG} {te : TE} {σ : St} {vs : List Nat} {ev : Bool} {G0 : Nat} {Qx : Bool → Hp → Prop} {W : Nat → Nat → Hp → Prop}
    (hc : X.calm = true) (hco : cenv.scope.isCoroutine = false) (T : Turn X.prog X.w X.K tg J fp it tn) (pg : PG (gCx X s₁ H₁ cenv fp pn) tg g) (pe : PE (gCx X s₁ H₁ cenv fp pn) elt te)
    (hpn : ∀ b ∈ fp, ∀ p ∈ pn, p.1 ≠ b)
    (turn : ∀ i m H, W i m H → (J.stop i H ∧ Qx ev H) ∨ (J.go i H ∧ ∃ Nx : Hp → Prop, (∀ H', Nx H' → ∃ m', m' < m ∧ W (i + 1) m' H') ∧ ∀ x H', J.yld i H x H' → g x (wipe σ vs) H' fun σ2 H3 => wipe σ2 vs = wipe σ vs ∧
      te σ2 H3 fun y H4 => ∃ b, y = .bl b ∧ if b = ev then Nx H4 else Qx b H4)) :
    ∀ (n i m : Nat) (H : Hp) (s₀ s : Shared), m ≤ n → W i m H → Inv (gCx X s₁ H₁ cenv fp pn) [] (wipe σ vs) H s → tn i s.heap → (∀ b ∈ fp, H b = none) → G0 ≤ s.gens.size →
      Seg (model X.prog X.w) X.A.in1.in1 (gR X s₁ H₁ cenv fp pn ev Qx) (gY X s₁ H₁ cenv fp pn ev G0 Qx) (n + 1) s₀
        (.compLoop (.GeneratorExp elt [⟨tg, iter, [], 0⟩] scope pos) 0 (.ref it) .none cenv) ((model X.prog X.w).den (.compLoop (.GeneratorExp elt [⟨tg, iter, [], 0⟩] scope pos) 0 (.ref it) .none cenv)) [] s := by
  have stat : ∀ {σ' : St} {H' : Hp} {s' : Shared}, Inv (gCx X s₁ H₁ cenv fp pn) [] σ' H' s' → (∀ b ∈ fp, H' b = none) → ∀ b ∈ fp, FpOk (gCx X s₁ H₁ cenv fp pn) [] H' b := fun {σ' H' s'} I' hn b hb =>
    ⟨hn b hb, (I'.ok.exf b hb).1, I'.ok.exfs b hb, .inl hb, fun x c e => (I'.ok.exf b hb).2 x c e, fun p hp => by
      rcases List.mem_append.mp hp with hp | hp
      · exact hpn b hb p hp
      · exact absurd hp (by simp)⟩
  intro n
  induction n using Nat.strongRecOn with
  | ind n ih =>
    intro i m H s₀ s hm w I st nfp hG
    show Seg _ X.A.in1.in1 _ _ _ s₀ _ ((compTurn (.GeneratorExp elt [⟨tg, iter, [], 0⟩] scope pos) 0 (.ref it) .none cenv).onRaise (leaving cenv)) [] s
    rw [compTurn_gen, Sem.onRaise_eq_wrap]
    refine seg_bind_wrap (wpAny_standAt ?_)
    rcases turn i m H w with ⟨stop, qq⟩ | ⟨go, Nx, hNx, step⟩
    · have td := T.done (gCx X s₁ H₁ cenv fp pn) rfl rfl rfl hc i [] s _ H (fun _ _ => False) I (stat I nfp) st stop
      refine seg_bind_wrap (thnF td fun r s6 ⟨hr, I6⟩ => ?_)
      subst hr
      exact seg_end (.ok .next) ⟨rfl, _, _, I6, qq⟩
    · have ti := T.item (gCx X s₁ H₁ cenv fp pn) rfl rfl rfl hc i [] s _ H (fun _ _ => False) I (stat I nfp) st go
      refine seg_bind_wrap (thnF (GenW.wpAny_gsz hG (wpAny_mono ti (fun _ _ z hg => (⟨hg, z⟩ : G0 ≤ _ ∧ _)) fun _ _ z _ => z)) fun r s6 ⟨hG6, u, hr, h6⟩ => ?_)
      subst hr
      refine seg_bind_wrap (thnF (GenW.wpAny_gsz hG6 (wpAny_mono h6 (fun _ _ z hg => (⟨hg, z⟩ : G0 ≤ _ ∧ _)) fun _ _ z _ => z)) fun _ s7 ⟨hG7, x, H7, I7, r7, y7, st7, n7⟩ => ?_)
      have I7' := I7.pinned (stat I7 n7) (T.obj _ _ st7)
      refine seg_bind_wrap (thnF (GenW.wpAny_gsz hG7 (wpAny_mono (pg.run _ s7 _ H7 x u _ I7' r7 (step x H7 y7)) (fun _ _ z hg => (⟨hg, z⟩ : G0 ≤ _ ∧ _)) fun _ _ z _ => z)) fun _ s8 ⟨hG8, σ8, H8, I8, hw8, q8⟩ => ?_)
      refine seg_bind_wrap (wpAny_tests_nil ?_)
      simp only [if_true]
      have hy : ∀ v, yieldOut cenv v = yieldValue v := fun v => by simp only [yieldOut, hco, Bool.false_eq_true, if_false]
      simp only [hy]
      rw [Sem.bind_eq_wrap', Sem.bind_eq_wrap', Sem.wrap_wrap, Sem.wrap_wrap]
      refine seg_wrap (thnF (GenW.wpAny_gsz hG8 (wpAny_mono (pe.run _ s8 σ8 H8 _ I8 q8) (fun _ _ z hg => (⟨hg, z⟩ : G0 ≤ _ ∧ _)) fun _ _ z _ => z)) fun z s10 ⟨hG10, yv, H10, I10, r10, b, hb, nx⟩ => ?_)
      subst hb
      obtain rfl : z = Value.bool b := r10
      refine seg_at (seg_yield rfl rfl rfl ⟨b, σ8, H10, rfl, I10.unpinned (pins := []), hG10, ?_⟩)
      by_cases hb : b = ev
      · rw [if_pos hb] at nx ⊢
        intro s'' wk
        obtain ⟨m', hm', w'⟩ := hNx H10 nx
        obtain ⟨n', rfl⟩ : ∃ n', n = n' + 1 := ⟨n - 1, by omega⟩
        have pin' : ∀ b ∈ fp, ∀ o, s7.heap.get? b = some o → s10.heap.get? b = some o ∧ H10 b = none := fun b hb o e =>
          let z := I10.pin (b, o) (List.mem_append_right _ (List.mem_append_right _ (mem_pinsAt hb e)))
          ⟨z.1, z.2.1⟩
        have hl : (wipe σ vs).length = σ8.length := by rw [← hw8, wipe_length]
        have I11 : Inv (gCx X s₁ H₁ cenv fp pn) [] (wipe σ vs) H10 s10 := (I10.unpinned (pins := [])).weak hl fun j v e => by
          rw [← hw8] at e
          exact (wipe_some e).1
        refine seg_again rfl (ih n' (by omega) (i + 1) m' H10 s'' s'' (by omega) w' (wk.inv I11) ?_ (fun b hb => ?_) (Nat.le_trans hG10 wk.size))
        · exact T.keep _ _ _ st7 fun b hb o e => by rw [wk.heap]; exact (pin' b hb o e).1
        · obtain ⟨o, e, _⟩ := T.obj _ _ st7 b hb
          exact (pin' b hb o e).2
      · rw [if_neg hb] at nx ⊢
        exact nx
theorem seg_start {elt tg iter : Expr} {scope : Scope} {pos : Pos} {it : Addr} {tn : Nat → Heap → Prop} {J : It} {R : GenEnd} {Y : Protocol} {n : Nat} {s₀ s : Shared}
    (T : Turn X.prog X.w X.K tg J fp it tn) (st : tn 0 s.heap)
    (loop : Seg (model X.prog X.w) X.A.in1.in1 R Y n s₀ (.compLoop (.GeneratorExp elt [⟨tg, iter, [], 0⟩] scope pos) 0 (.ref it) .none cenv) ((model X.prog X.w).den (.compLoop (.GeneratorExp elt [⟨tg, iter, [], 0⟩] scope pos) 0 (.ref it) .none cenv)) [] s) :
    Seg (model X.prog X.w) X.A.in1.in1 R Y n s₀ (.compStart (.GeneratorExp elt [⟨tg, iter, [], 0⟩] scope pos) 0 (.ref it) .none cenv) ((model X.prog X.w).den (.compStart (.GeneratorExp elt [⟨tg, iter, [], 0⟩] scope pos) 0 (.ref it) .none cenv)) [] s := by
  show Seg _ X.A.in1.in1 _ _ _ s₀ _ ((compStart (.GeneratorExp elt [⟨tg, iter, [], 0⟩] scope pos) 0 (.ref it) .none cenv).onRaise (leaving cenv)) [] s
  unfold compStart
  rw [Sem.onRaise_eq_wrap]
  show Seg _ X.A.in1.in1 _ _ _ s₀ _ ((ask >>= _).wrap _ _ _ _) [] s
  refine seg_bind_wrap (wpAny_askSetting ?_)
  split
  · exact seg_again rfl loop
  · first
      | exact seg_bind_wrap (wpAny_rule (seg_bind_wrap (wpAny_standAt (seg_bind_wrap (T.self _ 0 s _ _ st (seg_again rfl loop))))))
      | (refine seg_bind_wrap (wpAny_rule ?_); show Seg _ X.A.in1.in1 _ _ _ s₀ _ ((standAt iter.pos >>= _).wrap _ _ _ _) [] s; exact seg_bind_wrap (wpAny_standAt (seg_bind_wrap (T.self _ 0 s _ _ st (seg_again rfl loop)))))
def Sleeps (X : Cx) (s₁ : Shared) (H₁ : Hp) (cenv : Env) (fp : List Addr) (pn : List (Addr × Obj)) (ev : Bool) (Qx : Bool → Hp → Prop) (a : Addr) (g : Nat) (m : Nat) (s : Shared) : Prop :=
  s.heap.IsGen a g ∧ s.heap.NoLimit ∧ AllBare s.gens ∧ ∃ gs, s.gens[g]? = some gs ∧ ∀ s'', Woken s s'' → gs.Goes (model X.prog X.w) X.A.in1.in1 (gR X s₁ H₁ cenv fp pn ev Qx) (gY X s₁ H₁ cenv fp pn ev (g + 1) Qx) m (.send .none) s''
theorem sleeps_next {ev : Bool} {Qx : Bool → Hp → Prop} {a : Addr} {g m : Nat} {s : Shared} {o : Obj} (hh : X.A.handled = none) (hdp : X.A.depth < recursionLimit) (hpn : pn = [(a, o)]) (hgen : ∀ h : Heap, h.get? a = some o → h.IsGen a g)
    (S : Sleeps X s₁ H₁ cenv fp pn ev Qx a g m s) :
    wpAny (model X.prog X.w) X.A.in1 (pyNext (.ref a)) (fun r s' => match r with
      | none => ∃ σ' H', Inv (gCx X s₁ H₁ cenv fp pn) [] σ' H' s' ∧ Qx ev H'
      | some v => ∃ b, v = .bool b ∧ if b = ev then ∃ m', m' < m ∧ Sleeps X s₁ H₁ cenv fp pn ev Qx a g m' s' else ∃ σ' H', Inv (gCx X s₁ H₁ cenv fp pn) [] σ' H' s' ∧ Qx b H') (fun _ _ => False) s := by
  obtain ⟨hg, hl, hbr, gs, hgs, hgo⟩ := S
  refine wpAny_pyNext_genexpQ (A := X.A.in1) (n := m) (P := gP X s₁ H₁ cenv fp pn ev Qx) (Y := gY X s₁ H₁ cenv fp pn ev (g + 1) Qx) hh hl hdp hg hgs (hgo _ (Woken.set hbr rfl)) (fun v s2 gs' hb hv => ?_) (fun s2 hp h' hk => ?_)
  · obtain ⟨b, σ', H', hv1, I, hsz, hq⟩ := hv
    have wk : Woken s2 (s2.setGen g gs') := Woken.set I.bare hb
    refine ⟨b, hv1, ?_⟩
    by_cases hbe : b = ev
    · rw [if_pos hbe] at hq ⊢
      cases m with
      | zero => exact (hq s2 ⟨rfl, rfl, I.bare, Nat.le_refl _⟩).elim
      | succ k =>
        have I2 := wk.inv I
        refine ⟨k, Nat.lt_succ_self k, hgen _ (I2.pin (a, o) (by rw [show (gCx X s₁ H₁ cenv fp pn).pn = pn from rfl, hpn]; simp)).1, I2.nolimit, I2.bare, gs', ?_, fun s'' w2 => hq s'' ⟨w2.heap.trans wk.heap, w2.os.trans wk.os, w2.bare, Nat.le_trans wk.size w2.size⟩⟩
        have hlt : g < s2.gens.size := hsz
        simp only [Shared.setGen]
        rw [Array.getElem?_setIfInBounds_self]
        simp [hlt]
    · rw [if_neg hbe] at hq ⊢
      exact ⟨σ', H', wk.inv I, hq⟩
  · obtain ⟨σ', H', I, q⟩ := hp
    refine ⟨σ', H', inv_rest I hk rfl (bare_set I.bare rfl), q⟩
end
section
variable {X : Cx} {pins : List (Addr × Obj)} {σ : St} {H : Hp} {s s' : Shared}
theorem gen_begin {scope : Scope} {own : List (Str × Nat)} {fp : List Addr} {code : Value} {cenv : Env} {a : Addr} {o : Obj} {m : Str → Option Value} (I : Inv X pins σ H s) (ok : BlkOk X.N X.env.scope scope own) (hN : X.N.Nodup) (hcell : ∀ y ∈ scope.names, y.2 ≠ .cell)
    (hfp : ∀ b ∈ fp, FpOk X pins H b ∧ b < s.heap.objs.size) (hce : cenv = genEnv scope (cloFrom X.env.cells scope.names []) s.heap.objs.size code builtinsNs X.env)
    (kp : ∀ b o, s.heap.get? b = some o → s'.heap.get? b = some o) (ho : s'.os = s.os) (hb : AllBare s'.gens) (hns : s'.heap.Ns s.heap.objs.size m) (ha : s.heap.objs.size < a) (hga : s'.heap.get? a = some o) (hod : ∀ v, o.data ≠ .cell v) :
    Inv (gCx X s H cenv fp [(a, o)]) [] (wipe σ (own.map (·.2))) H s' := by
  have hfree : ∀ y ∈ scope.names, y.2 = .free → ∃ c, X.env.cells.lookup y.1 = some c := fun y hy e => by
    rcases ok.free y hy e with k | k
    · exact I.ok.has _ (.inl k)
    · exact I.ok.has _ (.inr k)
  have hL : cenv.locals = s.heap.objs.size := by rw [hce]; rfl
  have hcl : cenv.cells = cloFrom X.env.cells scope.names [] := by rw [hce]; rfl
  have hsc : cenv.scope = scope := by rw [hce]; rfl
  have cm : ∀ {y c}, cenv.cells.lookup y = some c → X.env.cells.lookup y = some c ∧ c < s.heap.objs.size := fun {y c} e => by
    rw [hcl] at e
    rcases cloFrom_mem (PySem.mem_of_lookup e) with hm | ⟨h1, rfl⟩
    · cases hm
    · obtain ⟨c, hc⟩ := hfree _ h1 rfl
      have hc : X.env.cells.lookup y = some c := hc
      rw [hc]
      obtain ⟨w, z⟩ := I.cell _ _ hc
      exact ⟨rfl, z.lt⟩
  have look : ∀ {y}, scope.names.lookup y = some .free → ∃ c, cenv.cells.lookup y = some c := fun {y} hl => by
    have hy : (y, NameKind.free) ∈ scope.names := PySem.mem_of_lookup hl
    rw [hcl]
    exact mem_lookup (cloFrom_has (cells := X.env.cells) (acc := []) hy)
  have okB : (gCx X s H cenv fp [(a, o)]).Ok := by
    refine ⟨I.ok.mod, by show cenv.scope.kind = _; rw [hsc]; exact ok.kind, by show cenv.globals = _; rw [hce]; exact I.ok.glob, by show cenv.builtins = _; rw [hce]; rfl, by show s.heap.objs.size ≤ cenv.locals; rw [hL]; exact Nat.le_refl _,
      fun y z c e1 e2 => I.ok.inj y z c (cm e1).1 (cm e2).1, fun y hy => ?_, fun y c z _ => absurd (show false = true from z) Bool.false_ne_true, fun h => I.ok.hd h, Around.frames_deeper (A := X.A.in1.in1) I.ok.frames, .inr ⟨rfl, by show cenv.frame = some cenv.locals; rw [hce]; rfl⟩, fun b hb => ⟨?_, fun y c e z => ?_⟩, I.bs, Nat.le_trans I.ok.bsz I.sz, fun b o e hb => ?_, fun b hb z => ?_, I.stack, I.stkFree⟩
    · show ∃ c, cenv.cells.lookup y = some c
      have hy : cenv.scope.names.lookup y = some .cell ∨ cenv.scope.names.lookup y = some .free := hy
      rw [hsc] at hy
      rcases hy with hy | hy
      · exact absurd rfl (hcell _ (PySem.mem_of_lookup hy))
      · exact look hy
    · show b ≠ cenv.locals
      rw [hL]; exact Nat.ne_of_lt (hfp b hb).2
    · have e : cenv.cells.lookup y = some c := e
      exact (hfp b hb).1.2.2.2.2.1 y c (cm e).1 z
    · rcases (hfp b hb).1.2.2.2.1 with z | z
      · exact I.ok.noex b o e z
      · exact absurd (Nat.lt_of_lt_of_le (Heap.lt_size e) (Nat.le_trans I.ok.bsz z)) (Nat.lt_irrefl _)
    · rcases List.mem_cons.mp (I.stkSub b z) with z | z
      · exact (hfp b hb).1.2.1 z
      · exact (hfp b hb).1.2.2.1 z
  have nofr : a ∉ frs X.stack := fun z => by
    rcases List.mem_cons.mp (I.stkSub _ z) with e | e
    · have h1 := I.lt
      rw [← e] at h1
      exact absurd (Nat.lt_trans h1 ha) (Nat.lt_irrefl _)
    · exact I.nofs (Nat.le_of_lt ha) e
  refine ⟨okB, ho, hb, Un.kept kp, ⟨m, ?_, fun i y av e1 e2 e3 => ?_⟩, fun y c e => ?_, ?_, fun y c e => ?_, fun p hp => ?_, I.hok.kept kp, by rw [wipe_length]; exact I.len⟩
  · show Heap.Ns _ cenv.locals _
    rw [hL]
    exact hns
  · obtain ⟨e2, hne⟩ := wipe_some e2
    have e3 : Vis cenv.scope y := e3
    rw [hsc] at e3
    have no : ∀ k, scope.names.lookup y = some k → ¬ (k = .local ∨ k = .cell) := fun k hk hh => by
      rcases ok.own _ (PySem.mem_of_lookup hk) hh with e' | e'
      · obtain ⟨p, hp, hpy⟩ := List.mem_map.mp e'
        have e3 := ok.ix p hp
        have : p.1 = y := hpy
        rw [this] at e3
        exact hne (List.mem_map.mpr ⟨p, hp, nodup_ix hN e3 e1⟩)
      · exact e' (List.mem_of_getElem? e1)
    have hfr : scope.names.lookup y = some .free := by
      rcases e3 with e3 | e3 | e3
      · exact absurd (.inl rfl) (no _ e3)
      · exact absurd (.inr rfl) (no _ e3)
      · exact e3
    obtain ⟨m', hn, hl⟩ := I.loc
    have hvis : Vis X.env.scope y := (ok.free _ (PySem.mem_of_lookup hfr) rfl).elim (fun k => .inr (.inl k)) (fun k => .inr (.inr k))
    obtain ⟨w', r, q⟩ := hl i y av e1 e2 hvis
    obtain ⟨c, h1⟩ := look hfr
    refine ⟨w', r, .inr ⟨.inr (by show cenv.scope.names.lookup y = _; rw [hsc]; exact hfr), c, h1, ?_⟩⟩
    have h2 := (cm h1).1
    rcases q with ⟨k, _⟩ | ⟨_, c', e', z⟩
    · have k : X.env.scope.names.lookup y = some .local := k
      rcases ok.free _ (PySem.mem_of_lookup hfr) rfl with k' | k' <;> rw [show X.env.scope.names.lookup y = _ from k'] at k <;> cases k
    · rw [h2] at e'; cases e'
      exact z.keeps kp
  · have e : cenv.cells.lookup y = some c := e
    obtain ⟨w', z⟩ := I.cell y c (cm e).1
    exact ⟨w', z.keeps kp⟩
  · show H cenv.locals = none
    rw [hL]; exact I.hok.fresh (Nat.le_refl _)
  · have e : cenv.cells.lookup y = some c := e
    exact I.freeC y c (cm e).1
  · have hp : p = (a, o) := by simpa using hp
    subst hp
    exact ⟨hga, I.hok.fresh (Nat.le_of_lt ha), by show a ≠ cenv.locals; rw [hL]; exact Nat.ne_of_gt ha, nofr, hod⟩
end
structure GenK (scope : Scope) : Prop where
  co : scope.isCoroutine = false
  cell : ∀ y ∈ scope.names, y.2 ≠ .cell
  dot : scope.names.lookup (".0" : Str) = some NameKind.local
def genKB (scope : Scope) : Bool := !scope.isCoroutine && (scope.names.all fun y => !decide (y.2 = .cell)) && decide (scope.names.lookup (".0" : Str) = some NameKind.local)
theorem genK_by {scope : Scope} (h : genKB scope = true) : GenK scope := by
  unfold genKB at h
  simp only [Bool.and_eq_true, Bool.not_eq_true', List.all_eq_true, decide_eq_true_eq, decide_eq_false_iff_not] at h
  exact ⟨h.1.1, h.1.2, h.2⟩
def GTurn (ev : Bool) (g : TG) (te : TE) (vs : List Nat) (σ : St) (Qx : Bool → Hp → Prop) (J : It) (H2 : Hp) : Prop :=
  ∃ W : Nat → Nat → Hp → Prop, (∃ m, W 0 m H2) ∧ ∀ i m H, W i m H → (J.stop i H ∧ Qx ev H) ∨ (J.go i H ∧ ∃ Nx : Hp → Prop, (∀ H', Nx H' → ∃ m', m' < m ∧ W (i + 1) m' H') ∧ ∀ x H', J.yld i H x H' → g x (wipe σ vs) H' fun σ2 H3 => wipe σ2 vs = wipe σ vs ∧
      te σ2 H3 fun y H4 => ∃ b, y = .bl b ∧ if b = ev then Nx H4 else Qx b H4)
def tGen (ev : Bool) (P : Addr) (wi : TI) (g : TG) (te : TE) (vs : List Nat) : TE := fun σ H Q => wi σ H fun J H1 => GxR.TabG H1 P ∧ ∀ H2, GxR.Tabbed P H1 H2 → GTurn ev g te vs σ (fun b H' => Q (.bl b) H') J H2
section
variable {X : Cx} {pins : List (Addr × Obj)} {σ : St} {H : Hp} {s : Shared}
theorem gen_make {ev : Bool} {c P : Addr} {elt tg iter : Expr} {scope : Scope} {own : List (Str × Nat)} {gpos : Pos} {wi : TI} {g : TG} {te : TE} {k : Nat} {Qx : Bool → Hp → Prop} {Q' : Value → Shared → Prop}
    (hr : Room k X.A) (TB : LamX.TabB X.base X.mg c P) (hcode : X.env.code = .ref c) (hc : X.calm = true) (hN : X.N.Nodup) (hi : PI X tg iter wi) (ok : BlkOk X.N X.env.scope scope own) (gk : GenK scope)
    (hg : ∀ (s : Shared) (H : Hp) (cl : List (Str × Addr)) (C : Addr) (code : Value) (fp : List Addr) (pn : List (Addr × Obj)), PG (gCx X s H (genEnv scope cl C code builtinsNs X.env) fp pn) tg g)
    (he : ∀ (s : Shared) (H : Hp) (cl : List (Str × Addr)) (C : Addr) (code : Value) (fp : List Addr) (pn : List (Addr × Obj)), PE (gCx X s H (genEnv scope cl C code builtinsNs X.env) fp pn) elt te)
    (hs : ∀ v, genFold iter X.env v = pure v) (I : Inv X pins σ H s) (h : wi σ H fun J H1 => GxR.TabG H1 P ∧ ∀ H2, GxR.Tabbed P H1 H2 → GTurn ev g te (own.map (·.2)) σ Qx J H2)
    (hQ : ∀ (a : Addr) (gn m : Nat) (s4 s5 : Shared) (H4 : Hp) (cenv : Env) (fp : List Addr) (o : Obj), Inv X pins σ H4 s4 → (∀ b ∈ fp, FpOk X pins H4 b) → (∀ h : Heap, h.get? a = some o → h.IsGen a gn) →
      Sleeps X s4 H4 cenv fp [(a, o)] ev Qx a gn m s5 → Q' (.ref a) s5) :
    wpAny (model X.prog X.w) X.A (eval (.GeneratorExp elt [⟨tg, iter, [], 0⟩] scope gpos) X.env) Q' X.xe s := by
  have hfree : ∀ y ∈ scope.names, y.2 = .free → ∃ c, X.env.cells.lookup y.1 = some c := fun y hy e => by
    rcases ok.free y hy e with k | k
    · exact I.ok.has _ (.inl k)
    · exact I.ok.has _ (.inr k)
  refine wpAny_GeneratorExp_make gk.co (closure_ok hfree) gk.cell gk.dot ok.kind (by have := hr.dp; omega) ?_ hs
  refine thn (hi.run pins s σ H _ I h) fun xv s1 hx => thn hx fun itv s2 h2 => ?_
  obtain ⟨it, fp, tn, J, H2, e, I2, T, st2, f2, ⟨ps, hP, ht⟩, q2⟩ := h2
  subst e
  have hPs : s2.heap.get? P = some { cls := .none, data := .fields ps } := I2.hok P _ hP
  have cd : PySem.W.CodeHd s2.heap c P := TB.code.keeps I2.bk
  have nP : ∀ b ∈ fp, b ≠ P := fun b hb z => by
    have := (f2 b hb).1
    rw [z, hP] at this
    cases this
  have cont : ∀ (code : Value) (h3 : Heap) (tk : Nat) (ps' : Array Value), Heap.ExtBut P s2.heap h3 → s2.heap.objs.size ≤ h3.objs.size → h3.get? P = some { cls := .none, data := .fields ps' } → (∃ more, ps' = ps ++ more) → TriplesOk ps'.toList →
      wpAny (model X.prog X.w) X.A (builtinsFor X.env.globals X.env.builtins) (fun bi s₄ => ∀ (h' : Heap), (h'.Ns s₄.heap.objs.size fun y => if y = Str.ofString ".0" then some (.ref it) else none) → Heap.SameBut s₄.heap.objs.size (s₄.heap.push { cls := Value.type "frame", data := Data.dict #[] }) h' →
          Q' (Value.ref h'.objs.size) { heap := h'.push { cls := Value.type "generator", data := Data.fields #[Value.int (↑s₄.gens.size) 0, Value.str (Str.ofString "<genexpr>") (s₄.toks + 1), Value.str (X.env.qual ++ Str.ofString "<genexpr>") (s₄.toks + 1 + 1)] }, gens := s₄.gens.push (GenState.fresh (Code.compStart (elt.GeneratorExp [⟨tg, iter, [], 0⟩] scope gpos) 0 (.ref it) Value.none (genEnv scope (cloFrom X.env.cells scope.names []) s₄.heap.objs.size code bi X.env))), drawn := s₄.drawn, toks := s₄.toks + 1 + 1 + 1, os := s₄.os }) X.xe { s2 with heap := h3, toks := tk } := by
    intro code h3 tk ps' hx hsz hP3 hmore ht3
    obtain ⟨bm, ob, e1, e2, e3, e4, e5, e6, e7, e8⟩ := TB.bm
    have keep3 : ∀ b u, b ≠ P → s2.heap.get? b = some u → h3.get? b = some u := fun b u hb e => hx b u hb e
    refine wpAny_builtinsFor (m := X.mg) (by rw [I2.ok.glob]; exact (I2.mod.glob.keeps I2.bk).extBut hx TB.gP) e1 e2 (keep3 _ _ e4 (I2.bk _ _ e5)) e6 e7 e8 ?_
    intro h' hn' hs'
    obtain ⟨more, em⟩ := hmore
    have I4 := GxR.inv_tab (more := more) (h' := h3) (g' := s2.gens) (d' := s2.drawn) (t' := tk) I2 hP keep3 (by rw [← em]; exact hP3) I2.bare
    generalize hH4 : upd H2 P (.tbl (ps ++ more)) = H4 at I4
    have tb : GxR.Tabbed P H2 H4 := by
      rw [← hH4]
      exact ⟨⟨ps ++ more, upd_same, by rw [← em]; exact ht3⟩, fun b hb => upd_ne hb⟩
    obtain ⟨W, ⟨m0, w0⟩, turn⟩ := q2 H4 tb
    have f4 : ∀ b ∈ fp, FpOk X pins H4 b ∧ b < h3.objs.size := fun b hb => by
      obtain ⟨o, eo, _⟩ := T.obj _ _ st2 b hb
      refine ⟨⟨?_, (f2 b hb).2⟩, Nat.lt_of_lt_of_le (Heap.lt_size eo) hsz⟩
      rw [← hH4, upd_ne (nP b hb)]
      exact (f2 b hb).1
    have st3 : tn 0 h3 := T.keep _ _ _ st2 fun b hb o e => keep3 b o (nP b hb) e
    have hC : h'.objs.size = h3.objs.size + 1 := by rw [hs'.1, Heap.size_push]
    have kp' : ∀ b o, h3.get? b = some o → h'.get? b = some o := fun b o e => hs'.extBut b o (Nat.ne_of_lt (Heap.lt_size e)) (Heap.get?_push_of_some _ e)
    generalize hob : ({ cls := Value.type "generator", data := Data.fields #[Value.int (↑s2.gens.size) 0, Value.str (Str.ofString "<genexpr>") (tk + 1), Value.str (X.env.qual ++ Str.ofString "<genexpr>") (tk + 1 + 1)] } : Obj) = og
    have hbg : AllBare (s2.gens.push (GenState.fresh (Code.compStart (elt.GeneratorExp [⟨tg, iter, [], 0⟩] scope gpos) 0 (.ref it) Value.none (genEnv scope (cloFrom X.env.cells scope.names []) h3.objs.size code builtinsNs X.env)))) := AllBare.push I2.bare rfl
    generalize hcenv : genEnv scope (cloFrom X.env.cells scope.names []) h3.objs.size code builtinsNs X.env = cenv at hbg
    have goal := hQ h'.objs.size s2.gens.size (m0 + 1) { s2 with heap := h3, toks := tk }
      { heap := h'.push og, gens := s2.gens.push (GenState.fresh (Code.compStart (elt.GeneratorExp [⟨tg, iter, [], 0⟩] scope gpos) 0 (.ref it) Value.none cenv)), drawn := s2.drawn, toks := tk + 1 + 1 + 1, os := s2.os } H4 cenv fp og I4 (fun b hb => (f4 b hb).1)
      (fun h e => by subst hob; exact ⟨_, _, _, e, rfl, rfl, rfl⟩)
    show Q' (Value.ref h'.objs.size) _
    have hget : (h'.push og).get? h'.objs.size = some og := Heap.get?_push_size _ (by subst hob; rfl)
    have kp5 : ∀ b o, h3.get? b = some o → (h'.push og).get? b = some o := fun b o e => Heap.get?_push_of_some _ (kp' b o e)
    have I5 : Inv (gCx X { s2 with heap := h3, toks := tk } H4 cenv fp [(h'.objs.size, og)]) [] (wipe σ (own.map (·.2))) H4 { heap := h'.push og, gens := s2.gens.push (GenState.fresh (Code.compStart (elt.GeneratorExp [⟨tg, iter, [], 0⟩] scope gpos) 0 (.ref it) Value.none cenv)), drawn := s2.drawn, toks := tk + 1 + 1 + 1, os := s2.os } :=
      gen_begin (code := code) I4 ok hN gk.cell f4 hcenv.symm kp5 rfl hbg (hn'.push _) (by show h3.objs.size < h'.objs.size; omega) hget (fun v z => by subst hob; cases z)
    have hgoal := goal ⟨⟨og, _, _, hget, by subst hob; rfl, by subst hob; rfl, by subst hob; rfl⟩, I5.nolimit, hbg, _, Array.getElem?_push_size .., fun s'' wk => ⟨rfl, ?_⟩⟩
    · exact hgoal
    · have I6 := wk.inv I5
      have st6 : tn 0 s''.heap := by
        rw [wk.heap]
        exact T.keep _ _ _ st3 fun b _ o e => kp5 b o e
      have pg := hg { s2 with heap := h3, toks := tk } H4 (cloFrom X.env.cells scope.names []) h3.objs.size code fp [(h'.objs.size, og)]
      have pe := he { s2 with heap := h3, toks := tk } H4 (cloFrom X.env.cells scope.names []) h3.objs.size code fp [(h'.objs.size, og)]
      rw [hcenv] at pg pe
      refine seg_start T st6 (seg_loop (G0 := s2.gens.size + 1) hc (by rw [← hcenv]; exact gk.co) T pg pe (fun b hb p hp => ?_) turn m0 0 m0 H4 s'' s'' (Nat.le_refl _) w0 I6 st6 (fun b hb => (f4 b hb).1.1) ?_)
      · have hp : p = (h'.objs.size, og) := by simpa using hp
        subst hp
        show h'.objs.size ≠ b
        have h1 : b < h3.objs.size := (f4 b hb).2
        have h2 : h'.objs.size = h3.objs.size + 1 := hC
        exact Nat.ne_of_gt (by rw [h2]; exact Nat.lt_succ_of_lt h1)
      · have := wk.size
        simp only [Array.size_push] at this
        exact this
  refine ⟨I2.nolimit, ?_⟩
  cases hf : codeAmong gpos ps.toList with
  | none =>
    refine wpAny_genexprCodeX hcode (cd.code hPs ht) (cd.tab hPs) hf fun c' h' tk hx hge hlt hco' _ htab' _ => ?_
    obtain ⟨o1, vs, f1, tf, fl, tgg, inF, tx, tt, op, _, _, _, _, _, _, _, _, _, htr, _⟩ := hco'
    exact cont _ h' tk _ hx (Nat.le_trans hge (Nat.le_of_lt hlt)) htab'.2 ⟨_, rfl⟩ htr
  | some cv =>
    refine wpAny_genexprCode_hit hcode (cd.code hPs ht) hf ?_
    exact cont cv s2.heap s2.toks ps (Heap.ExtBut.refl _ _) (Nat.le_refl _) hPs ⟨#[], by simp⟩ ht
theorem back_to {s4 s' : Shared} {H4 H' : Hp} {σ' : St} {cenv : Env} {fp : List Addr} {pn : List (Addr × Obj)} (I4 : Inv X pins σ H4 s4) (f4 : ∀ b ∈ fp, FpOk X pins H4 b) (I : Inv (gCx X s4 H4 cenv fp pn) [] σ' H' s') : Inv X pins σ H' s' :=
  I4.call' (ch := fp) I.os I.base I.hok I.bare fun b hb => ⟨(f4 b hb).2.2.2.1, (f4 b hb).2.1, (f4 b hb).2.2.2.2.1, (f4 b hb).2.2.2.2.2⟩
theorem pe_allG {c P : Addr} {elt tg iter : Expr} {scope : Scope} {own : List (Str × Nat)} {p pos gpos : Pos} {wi : TI} {g : TG} {te : TE} {k : Nat}
    (hr : Room k X.A) (hgl : Gl X "all") (hm : X.mg "all" = none) (hb : bootBuiltins "all" = some (.builtin "all")) (TB : LamX.TabB X.base X.mg c P) (hcode : X.env.code = .ref c) (hc : X.calm = true) (hN : X.N.Nodup) (hi : PI X tg iter wi) (ok : BlkOk X.N X.env.scope scope own) (gk : GenK scope)
    (hg : ∀ (s : Shared) (H : Hp) (cl : List (Str × Addr)) (C : Addr) (code : Value) (fp : List Addr) (pn : List (Addr × Obj)), PG (gCx X s H (genEnv scope cl C code builtinsNs X.env) fp pn) tg g)
    (he : ∀ (s : Shared) (H : Hp) (cl : List (Str × Addr)) (C : Addr) (code : Value) (fp : List Addr) (pn : List (Addr × Obj)), PE (gCx X s H (genEnv scope cl C code builtinsNs X.env) fp pn) elt te)
    (hs : ∀ v, genFold iter X.env v = pure v := by intro _; rfl)
    (hst : starEach [.GeneratorExp elt [⟨tg, iter, [], 0⟩] scope gpos] X.env = (false, eval (.GeneratorExp elt [⟨tg, iter, [], 0⟩] scope gpos) X.env) :: starEach [] X.env := by rfl) :
    PE X (.Call (.Name "all" p) [.GeneratorExp elt [⟨tg, iter, [], 0⟩] scope gpos] [] pos) (tGen true P wi g te (own.map (·.2))) := by
  refine ⟨fun pins s σ H Q I h => ?_⟩
  refine wpAny_Call_Name_kw (ld_blt I hgl hm hb ?_)
  refine PyProof.Rows.callWith_builtin1 ?_ hst (by rfl)
  rw [hst]
  show wpAny _ _ (spliced ((false, eval (.GeneratorExp elt [⟨tg, iter, [], 0⟩] scope gpos) X.env) :: backTo pos (starEach [] X.env))) _ _ s
  refine Calls.spliced_cons (gen_make (ev := true) hr TB hcode hc hN hi ok gk hg he hs I h fun a gn m s4 s5 H4 cenv fp o I4 f4 hgen S => ?_)
  refine Calls.spliced_nil ?_
  refine call_function_tree F.kind_all F.plain_all F.entry_all (F.args_all1 _) ?_
  unfold Builtin.«all»
  refine wpAny_bind (m := oneArg "all" _) (wpAny_pure ?_)
  refine wpAny_bind (wpAny_pyIter_gen S.1 ?_)
  refine wpAny_pure ⟨plainId_quiet F.plain_all_loop _, all_loop (St := Sleeps X s4 H4 cenv fp [(a, o)] true _ a gn) (fun m s S => ?_) m s5 S⟩
  refine wpAny_mono (sleeps_next hr.hd hr.depth rfl hgen S) (fun r s' hr => ?_) fun _ _ z => z
  cases r with
  | none =>
    obtain ⟨σ', H', J, q⟩ := hr
    exact ⟨.bl true, H', back_to I4 f4 J, rfl, q⟩
  | some v =>
    obtain ⟨b, hv, hb⟩ := hr
    refine ⟨b, hv, ?_⟩
    by_cases hbt : b = true
    · rw [if_pos hbt] at hb ⊢
      exact hb
    · rw [if_neg hbt] at hb ⊢
      obtain ⟨σ', H', J, q⟩ := hb
      exact ⟨.bl b, H', back_to I4 f4 J, rfl, q⟩
end
end GA
namespace DN
open PySem PySem.Spec PyProof.Rows L2
abbrev St := L2.St
mutual
inductive Dp (K : PySem.W.Frag) (H : Hp) : V → PyData → Prop
  | non : Dp K H .non .none
  | bl (b : Bool) : Dp K H (.bl b) (.bool b)
  | int (i : Int) : Dp K H (.int i) (.int i)
  | str (x : Str) : Dp K H (.str x) (.str x)
  | lst {a : Addr} {xs : List V} {ds : List PyData} : SqL K H a xs → DpAll K H xs ds → Dp K H (.ref a) (.list ds)
  | tup {a : Addr} {xs : List V} {ds : List PyData} : SqT K H a xs → DpAll K H xs ds → Dp K H (.ref a) (.tuple ds)
  | dct {a : Addr} : H a = some (.dK []) → Dp K H (.ref a) (.dict [])
  | fn (f i : Nat) : Dp K H (.ref f) (.dict [(.int f, .int i)])
inductive DpAll (K : PySem.W.Frag) (H : Hp) : List V → List PyData → Prop
  | nil : DpAll K H [] []
  | cons {v : V} {vs : List V} {d : PyData} {ds : List PyData} : Dp K H v d → DpAll K H vs ds → DpAll K H (v :: vs) (d :: ds)
end
mutual
theorem Dp.toC {K : PySem.W.Frag} {H : Hp} : ∀ {v : V} {d : PyData}, Dp K H v d → PyData.canLay0 d = true → L2.Dp K H v d
  | _, _, .non, _ => .non
  | _, _, .bl b, _ => .bl b
  | _, _, .int i, _ => .int i
  | _, _, .str s, _ => .str s
  | _, _, .lst s a, h => .lst s (DpAll.toC a (by unfold PyData.canLay0 at h; exact h))
  | _, _, .tup s a, h => .tup s (DpAll.toC a (by unfold PyData.canLay0 at h; exact h))
  | _, _, .dct _, h => by unfold PyData.canLay0 at h; cases h
  | _, _, .fn _ _, h => by unfold PyData.canLay0 at h; cases h
theorem DpAll.toC {K : PySem.W.Frag} {H : Hp} : ∀ {vs : List V} {ds : List PyData}, DpAll K H vs ds → PyData.canLayAll0 ds = true → L2.DpAll K H vs ds
  | _, _, .nil, _ => .nil
  | _, _, .cons h t, c => by
    unfold PyData.canLayAll0 at c
    rw [Bool.and_eq_true] at c
    exact .cons (Dp.toC h c.1) (DpAll.toC t c.2)
end
theorem Dp.toL {K : PySem.W.Frag} {H : Hp} {v : V} {d : PyData} (h : Dp K H v d) (s : SeqAt.shaped d = true) : L2.Dp K H v d := h.toC (SeqAt.canLay_of_shaped s)
def hide (H : Hp) (O : List Addr) : Hp := fun b => if b ∈ O then none else H b
theorem hide_some {H : Hp} {O : List Addr} {b : Addr} {o : HO} (h : hide H O b = some o) : b ∉ O ∧ H b = some o := by
  unfold hide at h
  split at h
  · cases h
  · exact ⟨by assumption, h⟩
theorem hide_of {H : Hp} {O : List Addr} {b : Addr} {o : HO} (n : b ∉ O) (h : H b = some o) : hide H O b = some o := by
  unfold hide
  rw [if_neg n]
  exact h
def Xt (H H' : Hp) : Prop := ∀ b o, H b = some o → H' b = some o ∨ ∃ ps qs, o = .tbl ps ∧ H' b = some (.tbl qs)
theorem Xt.get {H H' : Hp} (x : Xt H H') : ∀ b o, H b = some o → (∀ ps, o ≠ .tbl ps) → H' b = some o := fun b o h n => (x b o h).elim id fun ⟨ps, _, e, _⟩ => absurd e (n ps)
theorem Xt.refl (H : Hp) : Xt H H := fun _ _ h => .inl h
theorem Xt.trans {H H1 H2 : Hp} (a : Xt H H1) (b : Xt H1 H2) : Xt H H2 := fun c o h => by
  rcases a c o h with e | ⟨ps, qs, e, e1⟩
  · exact b c o e
  · rcases b c _ e1 with e2 | ⟨ps', qs', _, e2⟩
    · exact .inr ⟨ps, qs, e, e2⟩
    · exact .inr ⟨ps, qs', e, e2⟩
theorem Xt.upd {H : Hp} {p : Addr} {o : HO} (h : H p = none) : Xt H (upd H p o) := fun b u e => by
  rw [upd_ne (ne_of_none e h)]
  exact .inl e
theorem Xt.there {H H' : Hp} (x : Xt H H') {b : Addr} (h : H' b = none) : H b = none := by
  cases e : H b with
  | none => rfl
  | some o =>
    rcases x b o e with q | ⟨_, _, _, q⟩ <;> rw [h] at q <;> cases q
structure TsT where
  gs : List Addr
  ls : List (Addr × Str)
abbrev lamQ : Str := "law.<locals>.<lambda>"
def Tb (Ts : TsT) (H : Hp) : Prop := (∀ P ∈ Ts.gs, GxR.TabG H P) ∧ (∀ P ∈ Ts.ls, LamX.TabS H P.1 P.2) ∧ ∀ P ∈ Ts.ls, P.1 ∉ Ts.gs ∧ ∀ Q ∈ Ts.ls, Q.1 = P.1 → Q = P
theorem Tb.upd {Ts : TsT} {H : Hp} {p : Addr} {o : HO} (t : Tb Ts H) (h : ∀ u, H p = some u → (∀ ps, u ≠ .tbl ps) ∧ ∀ c q, u ≠ LamX.CodeO c q) : Tb Ts (upd H p o) := by
  obtain ⟨t1, t2, t3⟩ := t
  refine ⟨fun P hP => ?_, fun P hP => ?_, t3⟩
  · obtain ⟨ps, e, q⟩ := t1 P hP
    refine ⟨ps, ?_, q⟩
    rw [upd_ne (fun z => (h _ (by rw [← z]; exact e)).1 ps rfl)]
    exact e
  · obtain ⟨ps, e, q, r⟩ := t2 P hP
    refine ⟨ps, ?_, q, fun pos cv hc => ?_⟩
    · rw [upd_ne (fun z => (h _ (by rw [← z]; exact e)).1 ps rfl)]
      exact e
    · obtain ⟨c, e1, e2⟩ := r pos cv hc
      refine ⟨c, e1, ?_⟩
      rw [upd_ne (fun z => (h _ (by rw [← z]; exact e2)).2 c P.2 rfl)]
      exact e2
theorem lst_noc {xs : List V} : (∀ ps, HO.lst xs ≠ .tbl ps) ∧ ∀ c q, HO.lst xs ≠ LamX.CodeO c q := ⟨(fun _ z => nomatch z), fun c q (z : HO.lst xs = LamX.CodeO c q) => by unfold LamX.CodeO at z; cases z⟩
theorem Tb.kept {Ts : TsT} {H H' : Hp} (t : Tb Ts H) (k : ∀ b o, H b = some o → H' b = some o) : Tb Ts H' :=
  ⟨fun P hP => let ⟨ps, e, q⟩ := t.1 P hP; ⟨ps, k _ _ e, q⟩, fun P hP => (t.2.1 P hP).ext k, t.2.2⟩
theorem Tb.new {Ts : TsT} {H : Hp} {p : Addr} {o : HO} (t : Tb Ts H) (h : H p = none) : Tb Ts (L2.upd H p o) := t.upd fun u z => by rw [h] at z; cases z
theorem sqL_mono {K : PySem.W.Frag} {H H' : Hp} {a : Addr} {xs : List V} (h : ∀ o, (∀ ps, o ≠ .tbl ps) → H a = some o → H' a = some o) (s : SqL K H a xs) : SqL K H' a xs := by
  rcases s with (e | ⟨o, e⟩) | e
  · exact .inl (.inl (h _ (fun _ z => nomatch z) e))
  · exact .inl (.inr ⟨o, h _ (fun _ z => nomatch z) e⟩)
  · exact .inr e
theorem sqT_mono {K : PySem.W.Frag} {H H' : Hp} {a : Addr} {xs : List V} (h : ∀ o, (∀ ps, o ≠ .tbl ps) → H a = some o → H' a = some o) (s : SqT K H a xs) : SqT K H' a xs := by
  rcases s with (e | ⟨o, e⟩) | e
  · exact .inl (.inl (h _ (fun _ z => nomatch z) e))
  · exact .inl (.inr ⟨o, h _ (fun _ z => nomatch z) e⟩)
  · exact .inr e
mutual
theorem Dp.mono {K : PySem.W.Frag} {H H' : Hp} (x : Xt H H') : ∀ {v : V} {d : PyData}, Dp K H v d → Dp K H' v d
  | _, _, .non => .non
  | _, _, .bl b => .bl b
  | _, _, .int i => .int i
  | _, _, .str s => .str s
  | _, _, .lst s a => .lst (sqL_mono (fun o n e => x.get _ o e n) s) (DpAll.mono x a)
  | _, _, .tup s a => .tup (sqT_mono (fun o n e => x.get _ o e n) s) (DpAll.mono x a)
  | _, _, .dct e => .dct (x.get _ _ e (fun _ z => nomatch z))
  | _, _, .fn f i => .fn f i
theorem DpAll.mono {K : PySem.W.Frag} {H H' : Hp} (x : Xt H H') : ∀ {vs : List V} {ds : List PyData}, DpAll K H vs ds → DpAll K H' vs ds
  | _, _, .nil => .nil
  | _, _, .cons h t => .cons (Dp.mono x h) (DpAll.mono x t)
end
theorem hide_mono {H H' : Hp} {O : List Addr} (x : Xt H H') : Xt (hide H O) (hide H' O) := fun b o h => by
  obtain ⟨h1, h2⟩ := hide_some h
  rcases x b o h2 with e | ⟨ps, qs, e, e1⟩
  · exact .inl (hide_of h1 e)
  · exact .inr ⟨ps, qs, e, hide_of h1 e1⟩
theorem hide_sub {H : Hp} {O O' : List Addr} (s : ∀ b ∈ O', b ∈ O) : Xt (hide H O) (hide H O') := fun b o h => by
  obtain ⟨h1, h2⟩ := hide_some h
  exact .inl (hide_of (fun z => h1 (s b z)) h2)
theorem hide_out {H : Hp} {O : List Addr} : Xt (hide H O) H := fun b o h => .inl (hide_some h).2
theorem hide_upd {H : Hp} {O : List Addr} {a : Addr} {o : HO} (h : a ∈ O) : Xt (hide H O) (hide (upd H a o) O) := fun b u e => by
  obtain ⟨h1, h2⟩ := hide_some e
  exact .inl <| hide_of h1 (by rw [upd_ne (fun z => h1 (by rw [z]; exact h))]; exact h2)
theorem DpAll.len {K : PySem.W.Frag} {H : Hp} : ∀ {vs : List V} {ds : List PyData}, DpAll K H vs ds → vs.length = ds.length
  | _, _, .nil => rfl
  | _, _, .cons _ t => by rw [List.length_cons, List.length_cons, DpAll.len t]
theorem DpAll.get {K : PySem.W.Frag} {H : Hp} : ∀ {vs : List V} {ds : List PyData} {i : Nat} {v : V}, DpAll K H vs ds → vs[i]? = some v → ∃ d, ds[i]? = some d ∧ Dp K H v d
  | _, _, _, _, .nil, e => by simp at e
  | _, _, 0, _, .cons h _, e => by simp at e; subst e; exact ⟨_, rfl, h⟩
  | _, _, i + 1, v, .cons _ t, e => by
    obtain ⟨d, h1, h2⟩ := DpAll.get (i := i) (v := v) t (by simpa using e)
    exact ⟨d, by simpa using h1, h2⟩
theorem DpAll.get' {K : PySem.W.Frag} {H : Hp} : ∀ {vs : List V} {ds : List PyData} {i : Nat} {d : PyData}, DpAll K H vs ds → ds[i]? = some d → ∃ v, vs[i]? = some v ∧ Dp K H v d
  | _, _, _, _, .nil, e => by simp at e
  | _, _, 0, _, .cons h _, e => by simp at e; subst e; exact ⟨_, rfl, h⟩
  | _, _, i + 1, v, .cons _ t, e => by
    obtain ⟨d, h1, h2⟩ := DpAll.get' (i := i) t (by simpa using e)
    exact ⟨d, by simpa using h1, h2⟩
theorem DpAll.app {K : PySem.W.Frag} {H : Hp} : ∀ {vs ws : List V} {ds es : List PyData}, DpAll K H vs ds → DpAll K H ws es → DpAll K H (vs ++ ws) (ds ++ es)
  | _, _, _, _, .nil, s => s
  | _, _, _, _, .cons h t, s => .cons h (DpAll.app t s)
theorem DpAll.drop {K : PySem.W.Frag} {H : Hp} : ∀ {vs : List V} {ds : List PyData} (n : Nat), DpAll K H vs ds → DpAll K H (vs.drop n) (ds.drop n)
  | _, _, 0, r => r
  | _, _, _ + 1, .nil => .nil
  | _, _, n + 1, .cons _ t => DpAll.drop n t
theorem DpAll.take {K : PySem.W.Frag} {H : Hp} : ∀ {vs : List V} {ds : List PyData} (n : Nat), DpAll K H vs ds → DpAll K H (vs.take n) (ds.take n)
  | _, _, 0, _ => .nil
  | _, _, _ + 1, .nil => .nil
  | _, _, n + 1, .cons h t => .cons h (DpAll.take n t)
theorem DpAll.ints {K : PySem.W.Frag} {H : Hp} : ∀ {vs : List V} {ns : List Int}, DpAll K H vs (ns.map .int) → vs = ns.map V.int
  | _, [], .nil => rfl
  | _, n :: ns, .cons h t => by
    cases h
    rw [DpAll.ints t]
    rfl
theorem DpAll.of_ints {K : PySem.W.Frag} {H : Hp} : ∀ (ns : List Int), DpAll K H (ns.map V.int) (ns.map .int)
  | [] => .nil
  | n :: ns => .cons (.int n) (DpAll.of_ints ns)
inductive Slot where
  | no | dat (d : PyData) | own (ds : List PyData)
abbrev En := List Slot
structure Rep (K : PySem.W.Frag) (Ts : TsT) (He : Hp) (O : List Addr) (σ : St) (H : Hp) (en : En) : Prop where
  len : en.length = σ.length
  dat : ∀ (i : Nat) (d : PyData), en[i]? = some (Slot.dat d) → ∃ v, σ[i]? = some (some v) ∧ Dp K (hide H O) v d
  own : ∀ (i : Nat) (ds : List PyData), en[i]? = some (Slot.own ds) → ∃ a vs, σ[i]? = some (some (V.ref a)) ∧ a ∈ O ∧ He a = none ∧ H a = some (.lst vs) ∧ DpAll K (hide H O) vs ds
  inj : ∀ (i j : Nat) (ds es : List PyData) (a : Addr), en[i]? = some (Slot.own ds) → en[j]? = some (Slot.own es) → σ[i]? = some (some (V.ref a)) → σ[j]? = some (some (V.ref a)) → i = j
  occ : ∀ b ∈ O, H b ≠ none ∧ ∀ ps, H b ≠ some (.tbl ps)
  ext : Xt He H
  tabs : Tb Ts H
section
variable {K : PySem.W.Frag} {Ts : TsT} {He : Hp} {O : List Addr} {σ : St} {H H' : Hp} {en : En}
theorem Rep.go (r : Rep K Ts He O σ H en) (x : Xt H H') (t : Tb Ts H') : Rep K Ts He O σ H' en :=
  ⟨r.len, fun i d e => let ⟨v, a, b⟩ := r.dat i d e; ⟨v, a, Dp.mono (hide_mono x) b⟩,
    fun i ds e => let ⟨a, vs, h1, h2, h3, h4, h5⟩ := r.own i ds e; ⟨a, vs, h1, h2, h3, x.get a _ h4 (fun _ z => nomatch z), DpAll.mono (hide_mono x) h5⟩,
    r.inj, fun b hb => by
      obtain ⟨h1, h2⟩ := r.occ b hb
      cases e : H b with
      | none => exact absurd e h1
      | some o =>
        have q := x.get b o e fun ps z => h2 ps (by rw [e, z])
        rw [q]
        exact ⟨by simp, fun ps z => h2 ps (by rw [e]; exact z)⟩, r.ext.trans x, t⟩
theorem Rep.hid (r : Rep K Ts He O σ H en) {D : Addr} (hD : H D = none) {o : HO} (no : ∀ ps, o ≠ .tbl ps) : Rep K Ts He (D :: O) σ (upd H D o) en := by
  have x : Xt H (upd H D o) := Xt.upd hD
  have nD : ∀ b u, H b = some u → b ≠ D := fun b u e => ne_of_none e hD
  have hx : Xt (hide H O) (hide (upd H D o) (D :: O)) := fun b u e => by
    obtain ⟨h1, h2⟩ := hide_some e
    refine .inl (hide_of (fun z => ?_) (by rw [upd_ne (nD b u h2)]; exact h2))
    rcases List.mem_cons.mp z with z | z
    · exact nD b u h2 z
    · exact h1 z
  refine ⟨r.len, fun i d e => let ⟨v, a, b⟩ := r.dat i d e; ⟨v, a, Dp.mono hx b⟩,
    fun i ds e => let ⟨a, vs, h1, h2, h3, h4, h5⟩ := r.own i ds e; ⟨a, vs, h1, List.mem_cons_of_mem _ h2, h3, x.get a _ h4 (fun _ z => nomatch z), DpAll.mono hx h5⟩,
    r.inj, fun b hb => ?_, r.ext.trans x, r.tabs.new hD⟩
  rcases List.mem_cons.mp hb with z | z
  · subst z
    rw [upd_same]
    exact ⟨by simp, fun ps z => no ps (Option.some.inj z)⟩
  · have hne : b ≠ D := fun e => (r.occ b z).1 (by rw [e]; exact hD)
    rw [upd_ne hne]
    exact r.occ b z
end
def tD (K : PySem.W.Frag) (Ts : TsT) (f : En → Option PyData) : TE := fun σ H Q => ∃ He O en d, Rep K Ts He O σ H en ∧ f en = some d ∧ ∀ v H', Xt H H' → Tb Ts H' → Dp K (hide H' O) v d → Q v H'
def DpB (K : PySem.W.Frag) (H : Hp) (O : List Addr) (v : V) (d : PyData) : Prop := Dp K (hide H O) v d ∨ ∃ a vs ds, v = .ref a ∧ d = .list ds ∧ H a = some (.lst vs) ∧ DpAll K (hide H O) vs ds
def tB (K : PySem.W.Frag) (Ts : TsT) (f : En → Option PyData) : TE := fun σ H Q => ∃ He O en d, Rep K Ts He O σ H en ∧ f en = some d ∧ ∀ v H', Xt H H' → Tb Ts H' → DpB K H' O v d → Q v H'
def tDs (K : PySem.W.Frag) (Ts : TsT) (f : En → Option (List PyData)) : TA := fun σ H Q => ∃ He O en ds, Rep K Ts He O σ H en ∧ f en = some ds ∧ ∀ vs H', Xt H H' → Tb Ts H' → DpAll K (hide H' O) vs ds → Q vs H'
def tT (K : PySem.W.Frag) (Ts : TsT) (f : En → Option Bool) : TT := fun σ H Q => ∃ He O en b, Rep K Ts He O σ H en ∧ f en = some b ∧ ∀ H', Xt H H' → Tb Ts H' → Q b H'
abbrev DE (X : Cx) (Ts : TsT) (e : Expr) (f : En → Option PyData) : Prop := PE X e (tD X.K Ts f)
abbrev DB (X : Cx) (Ts : TsT) (e : Expr) (f : En → Option PyData) : Prop := PE X e (tB X.K Ts f)
abbrev DA (X : Cx) (Ts : TsT) (es : List Expr) (f : En → Option (List PyData)) : Prop := PA X es (tDs X.K Ts f)
abbrev DT (X : Cx) (Ts : TsT) (e : Expr) (f : En → Option Bool) : Prop := PT X e (tT X.K Ts f)
abbrev DW (X : Cx) (Ts : TsT) (e : Expr) (f : En → Option Bool) : Prop := PW X e (tT X.K Ts f)
theorem PE.imp {X : Cx} {e : Expr} {t t' : TE} (h : PE X e t) (w : ∀ σ H Q, t' σ H Q → t σ H Q) : PE X e t' := ⟨fun pins s σ H Q I q => h.run pins s σ H Q I (w σ H Q q)⟩
theorem PT.imp {X : Cx} {e : Expr} {t t' : TT} (h : PT X e t) (w : ∀ σ H Q, t' σ H Q → t σ H Q) : PT X e t' := ⟨fun pins s σ H Q I q => h.run pins s σ H Q I (w σ H Q q)⟩
theorem PW.imp {X : Cx} {e : Expr} {t t' : TT} (h : PW X e t) (w : ∀ σ H Q, t' σ H Q → t σ H Q) : PW X e t' := ⟨fun wh pins s σ H Q I q => h.run wh pins s σ H Q I (w σ H Q q)⟩
theorem PA.imp {X : Cx} {es : List Expr} {t t' : TA} (h : PA X es t) (w : ∀ σ H Q, t' σ H Q → t σ H Q) : PA X es t' := ⟨fun pos pins s σ H Q I q => h.run pos pins s σ H Q I (w σ H Q q)⟩
theorem PS.imp {X : Cx} {st : Stmt} {t t' : TS} (h : PS X st t) (w : ∀ D σ H, t' D σ H → t D σ H) : PS X st t' := ⟨fun pins s σ H D I q => h.run pins s σ H D I (w D σ H q)⟩
theorem PSs.imp {X : Cx} {st : List Stmt} {t t' : TS} (h : PSs X st t) (w : ∀ D σ H, t' D σ H → t D σ H) : PSs X st t' := ⟨fun pins s σ H D I q => h.run pins s σ H D I (w D σ H q)⟩
section
variable {K : PySem.W.Frag} {Ts : TsT} {He : Hp} {O : List Addr} {σ : St} {H : Hp} {en : En} {f : En → Option PyData} {d : PyData}
theorem tD.of (r : Rep K Ts He O σ H en) (hf : f en = some d) {Q : VK} (h : ∀ v H', Xt H H' → Rep K Ts He O σ H' en → Dp K (hide H' O) v d → Q v H') : tD K Ts f σ H Q :=
  ⟨He, O, en, d, r, hf, fun v H' x t q => h v H' x (r.go x t) q⟩
theorem tB.of (r : Rep K Ts He O σ H en) (hf : f en = some d) {Q : VK} (h : ∀ v H', Xt H H' → Rep K Ts He O σ H' en → DpB K H' O v d → Q v H') : tB K Ts f σ H Q :=
  ⟨He, O, en, d, r, hf, fun v H' x t q => h v H' x (r.go x t) q⟩
theorem tDs.of {f : En → Option (List PyData)} {ds : List PyData} (r : Rep K Ts He O σ H en) (hf : f en = some ds) {Q : List V → Hp → Prop} (h : ∀ v H', Xt H H' → Rep K Ts He O σ H' en → DpAll K (hide H' O) v ds → Q v H') : tDs K Ts f σ H Q :=
  ⟨He, O, en, ds, r, hf, fun v H' x t q => h v H' x (r.go x t) q⟩
theorem tT.of {f : En → Option Bool} {b : Bool} (r : Rep K Ts He O σ H en) (hf : f en = some b) {Q : Bool → Hp → Prop} (h : ∀ H', Xt H H' → Rep K Ts He O σ H' en → Q b H') : tT K Ts f σ H Q :=
  ⟨He, O, en, b, r, hf, fun H' x t => h H' x (r.go x t)⟩
end
def fVar (i : Nat) : En → Option PyData := fun en => match en[i]? with
  | some (Slot.dat d) => some d
  | _ => none
def fOwn (i : Nat) : En → Option PyData := fun en => match en[i]? with
  | some (Slot.own ds) => some (.list ds)
  | some (Slot.dat d) => some d
  | _ => none
def fLit (d : PyData) : En → Option PyData := fun _ => some d
section
variable {X : Cx} {Ts : TsT} {pos : Pos}
theorem d_var (i : Nat) {x : Str} (hN : X.N[i]? = some x := by rfl) (hv : Vis X.env.scope x := by first | exact Or.inl rfl | exact Or.inr (Or.inl rfl) | exact Or.inr (Or.inr rfl)) (hd : (x == ("__debug__" : Str)) = false := by decide)
    (hcd : (x == ("__classdict__" : Str)) = false := by decide) : DE X Ts (.Name x pos) (fVar i) := PE.imp (pe_var hN hv hd hcd) fun σ H Q ⟨He, O, en, d, r, hf, k⟩ => by
  unfold fVar at hf
  split at hf
  · rename_i d' e
    cases hf
    obtain ⟨v, h1, h2⟩ := r.dat i _ e
    exact ⟨v, h1, k v H (Xt.refl H) r.tabs h2⟩
  · cases hf
theorem b_own (i : Nat) {x : Str} (hN : X.N[i]? = some x := by rfl) (hv : Vis X.env.scope x := by first | exact Or.inl rfl | exact Or.inr (Or.inl rfl) | exact Or.inr (Or.inr rfl)) (hd : (x == ("__debug__" : Str)) = false := by decide)
    (hcd : (x == ("__classdict__" : Str)) = false := by decide) : DB X Ts (.Name x pos) (fOwn i) := PE.imp (pe_var hN hv hd hcd) fun σ H Q ⟨He, O, en, d, r, hf, k⟩ => by
  unfold fOwn at hf
  split at hf
  · rename_i ds e
    cases hf
    obtain ⟨a, vs, h1, h2, h3, h4, h5⟩ := r.own i _ e
    exact ⟨.ref a, h1, k _ H (Xt.refl H) r.tabs (.inr ⟨a, vs, ds, rfl, rfl, h4, h5⟩)⟩
  · rename_i d' e
    cases hf
    obtain ⟨v, h1, h2⟩ := r.dat i _ e
    exact ⟨v, h1, k v H (Xt.refl H) r.tabs (.inl h2)⟩
  · cases hf
theorem d_b {e : Expr} {f : En → Option PyData} (h : DE X Ts e f) : DB X Ts e f := PE.imp h fun σ H Q ⟨He, O, en, d, r, hf, k⟩ => ⟨He, O, en, d, r, hf, fun v H' x t q => k v H' x t (.inl q)⟩
theorem d_int {i j} : DE X Ts (.Constant (.int i) j pos) (fLit (.int i)) := PE.imp pe_int fun σ H Q ⟨He, O, en, d, r, hf, k⟩ => by cases hf; exact k _ H (Xt.refl H) r.tabs (.int i)
theorem d_bl {b j} : DE X Ts (.Constant (.bool b) j pos) (fLit (.bool b)) := PE.imp pe_bl fun σ H Q ⟨He, O, en, d, r, hf, k⟩ => by cases hf; exact k _ H (Xt.refl H) r.tabs (.bl b)
theorem d_non {j} : DE X Ts (.Constant .none j pos) (fLit .none) := PE.imp pe_non fun σ H Q ⟨He, O, en, d, r, hf, k⟩ => by cases hf; exact k _ H (Xt.refl H) r.tabs .non
theorem d_str {x j} : DE X Ts (.Constant (.str x) j pos) (fLit (.str x)) := PE.imp pe_str fun σ H Q ⟨He, O, en, d, r, hf, k⟩ => by cases hf; exact k _ H (Xt.refl H) r.tabs (.str x)
theorem d_glob {x : Str} {i : Int} {t : Tok} (hg : Gl X x) (hm : X.mg x = some (.int i t)) (hd : (x == ("__debug__" : Str)) = false := by decide) : DE X Ts (.Name x pos) (fLit (.int i)) :=
  PE.imp (pe_glob (v := .int i) hg hm ⟨t, rfl⟩ hd) fun σ H Q ⟨He, O, en, d, r, hf, k⟩ => by cases hf; exact k _ H (Xt.refl H) r.tabs (.int i)
end
def f2 (g : PyData → PyData → Option PyData) (f1 f2 : En → Option PyData) : En → Option PyData := fun en => (f1 en).bind fun x => (f2 en).bind fun y => g x y
def f1 (g : PyData → Option PyData) (f : En → Option PyData) : En → Option PyData := fun en => (f en).bind g
def gI (g : Int → Int → PyData) : PyData → PyData → Option PyData
  | .int i, .int j => some (g i j)
  | _, _ => none
def gIc (c : Int → Int → Bool) (g : Int → Int → PyData) : PyData → PyData → Option PyData
  | .int i, .int j => if c i j = true then some (g i j) else none
  | _, _ => none
section
variable {X : Cx} {Ts : TsT} {pos : Pos} {a b : Expr} {fa fb : En → Option PyData}
theorem f2_some {g : PyData → PyData → Option PyData} {p q : En → Option PyData} {en : En} {d : PyData} (h : f2 g p q en = some d) : ∃ x y, p en = some x ∧ q en = some y ∧ g x y = some d := by
  unfold f2 at h
  obtain ⟨x, h1, h⟩ := Option.bind_eq_some_iff.mp h
  obtain ⟨y, h2, h⟩ := Option.bind_eq_some_iff.mp h
  exact ⟨x, y, h1, h2, h⟩
theorem f1_some {g : PyData → Option PyData} {p : En → Option PyData} {en : En} {d : PyData} (h : f1 g p en = some d) : ∃ x, p en = some x ∧ g x = some d := Option.bind_eq_some_iff.mp h
theorem w_2 {r : R2} {g : PyData → PyData → Option PyData} {K : PySem.W.Frag}
    (k : ∀ x y v w d H O Q, g x y = some d → Dp K (hide H O) v x → Dp K (hide H O) w y → Tb Ts H → (∀ b ∈ O, H b ≠ none) → (∀ u H', Xt H H' → Tb Ts H' → Dp K (hide H' O) u d → Q u H') → r v w H Q) :
    ∀ σ H Q, tD K Ts (f2 g fa fb) σ H Q → tOp r (tD K Ts fa) (tD K Ts fb) σ H Q :=
  fun σ H Q ⟨He, O, en, d, rp, hf, kk⟩ => by
    obtain ⟨x, y, h1, h2, hg⟩ := f2_some hf
    refine tD.of rp h1 fun v H1 x1 r1 q1 => tD.of r1 h2 fun w H2 x2 r2 q2 => ?_
    exact k x y v w d H2 O Q hg (Dp.mono (hide_mono x2) q1) q2 r2.tabs (fun b hb => (r2.occ b hb).1) fun u H' x3 t3 q3 => kk u H' (x1.trans (x2.trans x3)) t3 q3
theorem w_i {C : Int → Int → Prop} {c : Int → Int → Bool} {g : Int → Int → PyData} {gv : Int → Int → V} {K : PySem.W.Frag} (hC : ∀ i j, c i j = true → C i j) (hv : ∀ i j K H, Dp K H (gv i j) (g i j)) :
    ∀ σ H Q, tD K Ts (f2 (gIc c g) fa fb) σ H Q → tOp (rI C gv) (tD K Ts fa) (tD K Ts fb) σ H Q :=
  w_2 fun x y v w d H O Q hg q1 q2 ht _ kk => by
    cases q1 <;> cases q2 <;> simp only [gIc] at hg <;> try cases hg
    rename_i i j
    split at hg
    · rename_i hc
      cases hg
      exact ⟨i, j, rfl, rfl, hC i j hc, kk _ H (Xt.refl H) ht (hv ..)⟩
    · cases hg
theorem w_i0 {g : Int → Int → PyData} {gv : Int → Int → V} {K : PySem.W.Frag} (hv : ∀ i j K H, Dp K H (gv i j) (g i j)) :
    ∀ σ H Q, tD K Ts (f2 (gI g) fa fb) σ H Q → tOp (rI0 gv) (tD K Ts fa) (tD K Ts fb) σ H Q :=
  w_2 fun x y v w d H O Q hg q1 q2 ht _ kk => by
    cases q1 <;> cases q2 <;> simp only [gI] at hg <;> try cases hg
    rename_i i j
    exact ⟨i, j, rfl, rfl, kk _ H (Xt.refl H) ht (hv ..)⟩
theorem d_i {e : Expr} {C : Int → Int → Prop} {c : Int → Int → Bool} {g : Int → Int → PyData} {gv : Int → Int → V} (hC : ∀ i j, c i j = true → C i j) (hv : ∀ i j K H, Dp K H (gv i j) (g i j))
    (h : PE X e (tOp (rI C gv) (tD X.K Ts fa) (tD X.K Ts fb))) : DE X Ts e (f2 (gIc c g) fa fb) := PE.imp h (w_i hC hv)
theorem d_i0 {e : Expr} {g : Int → Int → PyData} {gv : Int → Int → V} (hv : ∀ i j K H, Dp K H (gv i j) (g i j)) (h : PE X e (tOp (rI0 gv) (tD X.K Ts fa) (tD X.K Ts fb))) : DE X Ts e (f2 (gI g) fa fb) := PE.imp h (w_i0 hv)
def fSub := f2 (gI fun i j => .int (i - j))
theorem d_sub (ha : DE X Ts a fa) (hb : DE X Ts b fb) : DE X Ts (.BinOp a .Sub b pos) (fSub fa fb) := d_i0 (fun _ _ _ _ => .int _) (pe_op op_sub ha hb)
def cMul (i j : Int) : Bool := decide (i.natAbs.log2 + j.natAbs.log2 < 1000000)
def fMul := f2 (gIc cMul fun i j => .int (i * j))
theorem d_mul (ha : DE X Ts a fa) (hb : DE X Ts b fb) : DE X Ts (.BinOp a .Mult b pos) (fMul fa fb) := d_i (fun i j h => show CMulW i j from @of_decide_eq_true (i.natAbs.log2 + j.natAbs.log2 < 1000000) _ h) (fun _ _ _ _ => .int _) (pe_op op_mulW ha hb)
def cDiv (_ j : Int) : Bool := decide (0 < j ∧ j.natAbs.log2 < 9000)
def fDiv := f2 (gIc cDiv fun i j => .int (i / j))
theorem d_div (ha : DE X Ts a fa) (hb : DE X Ts b fb) : DE X Ts (.BinOp a .FloorDiv b pos) (fDiv fa fb) := d_i (fun i j h => show CDivW i j from @of_decide_eq_true (0 < j ∧ j.natAbs.log2 < 9000) _ h) (fun _ _ _ _ => .int _) (pe_op op_fdivW ha hb)
def cMod (_ j : Int) : Bool := decide (j ≠ 0)
def fMod := f2 (gIc cMod fun i j => .int (i.fmod j))
theorem d_mod (ha : DE X Ts a fa) (hb : DE X Ts b fb) : DE X Ts (.BinOp a .Mod b pos) (fMod fa fb) := d_i (fun i j h => of_decide_eq_true (show decide (j ≠ 0) = true from h)) (fun _ _ _ _ => .int _) (pe_op op_modN ha hb)
def gNeg : PyData → Option PyData
  | .int i => some (.int (-i))
  | _ => none
def fNeg := f1 gNeg
theorem d_neg (ha : DE X Ts a fa) : DE X Ts (.UnaryOp .USub a pos) (fNeg fa) := PE.imp (pe_un un_neg ha) fun σ H Q ⟨He, O, en, d, r, hf, k⟩ => by
  obtain ⟨x, h1, h2⟩ := f1_some hf
  refine tD.of r h1 fun v H1 x1 r1 q1 => ?_
  cases q1 <;> simp only [gNeg] at h2 <;> try cases h2
  exact ⟨_, rfl, k _ H1 x1 r1.tabs (.int _)⟩
def fLt := f2 (gI fun i j => .bool (decide (i < j)))
def fGt := f2 (gI fun i j => .bool (decide (j < i)))
def fGe := f2 (gI fun i j => .bool (decide (j ≤ i)))
theorem d_lt (ha : DE X Ts a fa) (hb : DE X Ts b fb) : DE X Ts (.Compare a [.Lt] [b] pos) (fLt fa fb) := d_i0 (fun _ _ _ _ => .bl _) (pe_cmpR op_lt ha hb (nomark _))
theorem d_gt (ha : DE X Ts a fa) (hb : DE X Ts b fb) : DE X Ts (.Compare a [.Gt] [b] pos) (fGt fa fb) := d_i0 (fun _ _ _ _ => .bl _) (pe_cmpR op_gt ha hb (nomark _))
theorem d_ge (ha : DE X Ts a fa) (hb : DE X Ts b fb) : DE X Ts (.Compare a [.GtE] [b] pos) (fGe fa fb) := d_i0 (fun _ _ _ _ => .bl _) (pe_cmpR op_ge ha hb (nomark _))
def gEq : PyData → PyData → Option PyData := fun x y => if (SeqAt.shaped x && SeqAt.shaped y) = true then some (.bool (PyData.eqv x y)) else none
def gNe : PyData → PyData → Option PyData := fun x y => if (SeqAt.shaped x && SeqAt.shaped y) = true then some (.bool (!PyData.eqv x y)) else none
def fEq := f2 gEq
def fNe := f2 gNe
theorem w_eq {K : PySem.W.Frag} : ∀ σ H Q, tD K Ts (fEq fa fb) σ H Q → tOp (rEqD K) (tD K Ts fa) (tD K Ts fb) σ H Q :=
  w_2 fun x y v w d H O Q hg q1 q2 ht _ kk => by
    unfold gEq at hg
    split at hg
    · rename_i hs
      rw [Bool.and_eq_true] at hs
      cases hg
      exact ⟨x, y, (Dp.mono hide_out q1).toL hs.1, (Dp.mono hide_out q2).toL hs.2, hs.1, hs.2, kk _ H (Xt.refl H) ht (.bl _)⟩
    · cases hg
theorem w_ne {K : PySem.W.Frag} : ∀ σ H Q, tD K Ts (fNe fa fb) σ H Q → tOp (rNeD K) (tD K Ts fa) (tD K Ts fb) σ H Q :=
  w_2 fun x y v w d H O Q hg q1 q2 ht _ kk => by
    unfold gNe at hg
    split at hg
    · rename_i hs
      rw [Bool.and_eq_true] at hs
      cases hg
      exact ⟨x, y, (Dp.mono hide_out q1).toL hs.1, (Dp.mono hide_out q2).toL hs.2, hs.1, hs.2, kk _ H (Xt.refl H) ht (.bl _)⟩
    · cases hg
theorem d_eq {k : Nat} (hr : Room k X.A) (ha : DE X Ts a fa) (hb : DE X Ts b fb) : DE X Ts (.Compare a [.Eq] [b] pos) (fEq fa fb) := PE.imp (pe_cmpR (op_eqD hr.units) ha hb (nomark _)) w_eq
theorem d_ne {k : Nat} (hr : Room k X.A) (ha : DE X Ts a fa) (hb : DE X Ts b fb) : DE X Ts (.Compare a [.NotEq] [b] pos) (fNe fa fb) := PE.imp (pe_cmpR (op_neD hr.units) ha hb (nomark _)) w_ne
def isNone : PyData → Bool
  | .none => true
  | _ => false
theorem isNone_of {K : PySem.W.Frag} {H : Hp} {v : V} {d : PyData} (h : Dp K H v d) : decide (v = .non) = isNone d := by
  cases h <;> rfl
def gIsN : PyData → PyData → Option PyData := fun x y => if isNone y = true then some (.bool (isNone x)) else none
def fIsN := f2 gIsN
theorem non_of {K : PySem.W.Frag} {H : Hp} {v : V} {d : PyData} (h : Dp K H v d) (e : isNone d = true) : v = .non := by
  cases h <;> first | rfl | cases e
theorem w_isN {K : PySem.W.Frag} : ∀ σ H Q, tD K Ts (fIsN fa fb) σ H Q → tOp (fun x y H Q => y = .non ∧ Q (.bl (decide (x = .non))) H) (tD K Ts fa) (tD K Ts fb) σ H Q :=
  w_2 fun x y v w d H O Q hg q1 q2 ht _ kk => by
    unfold gIsN at hg
    split at hg
    · rename_i hs
      cases hg
      refine ⟨non_of q2 hs, ?_⟩
      rw [isNone_of q1]
      exact kk _ H (Xt.refl H) ht (.bl _)
    · cases hg
def fT (f : En → Option PyData) : En → Option Bool := fun en => match f en with
  | some (.bool b) => some b
  | _ => none
theorem fT_some {f : En → Option PyData} {en : En} {b : Bool} (h : fT f en = some b) : f en = some (.bool b) := by
  unfold fT at h
  split at h
  · rename_i e
    cases h
    exact e
  · cases h
theorem dt_of {e : Expr} {t : TE} {f : En → Option PyData} (h : PT X e (tTest t)) (w : ∀ σ H Q, tD X.K Ts f σ H Q → t σ H Q) : DT X Ts e (fT f) := PT.imp h fun σ H Q ⟨He, O, en, b, r, hf, k⟩ =>
  w σ H _ ⟨He, O, en, .bool b, r, fT_some hf, fun v H' x t q => by cases q; exact ⟨b, rfl, k H' x t⟩⟩
theorem dt_val {e : Expr} {f : En → Option PyData} (h : DE X Ts e f) (he : ∀ whole, isTrue e X.env whole = (do let v ← whole; standAt e.pos; holding [v] (truthy v)) := by intro _; rfl) : DT X Ts e (fT f) :=
  PT.imp (pt_val h he) fun σ H Q ⟨He, O, en, b, r, hf, k⟩ => ⟨He, O, en, .bool b, r, fT_some hf, fun v H' x t q => by cases q; exact ⟨b, rfl, k H' x t⟩⟩
theorem dt_lt (ha : DE X Ts a fa) (hb : DE X Ts b fb) : DT X Ts (.Compare a [.Lt] [b] pos) (fT (fLt fa fb)) := dt_of (pt_cmpR op_lt ha hb (nomark _)) (w_i0 fun _ _ _ _ => .bl _)
theorem dt_gt (ha : DE X Ts a fa) (hb : DE X Ts b fb) : DT X Ts (.Compare a [.Gt] [b] pos) (fT (fGt fa fb)) := dt_of (pt_cmpR op_gt ha hb (nomark _)) (w_i0 fun _ _ _ _ => .bl _)
theorem dt_ge (ha : DE X Ts a fa) (hb : DE X Ts b fb) : DT X Ts (.Compare a [.GtE] [b] pos) (fT (fGe fa fb)) := dt_of (pt_cmpR op_ge ha hb (nomark _)) (w_i0 fun _ _ _ _ => .bl _)
theorem dt_eq {k : Nat} (hr : Room k X.A) (ha : DE X Ts a fa) (hb : DE X Ts b fb) : DT X Ts (.Compare a [.Eq] [b] pos) (fT (fEq fa fb)) := dt_of (pt_cmpR (op_eqD hr.units) ha hb (nomark _)) w_eq
theorem dt_ne {k : Nat} (hr : Room k X.A) (ha : DE X Ts a fa) (hb : DE X Ts b fb) : DT X Ts (.Compare a [.NotEq] [b] pos) (fT (fNe fa fb)) := dt_of (pt_cmpR (op_neD hr.units) ha hb (nomark _)) w_ne
theorem dt_isN (ha : DE X Ts a fa) (hb : DE X Ts b fb) : DT X Ts (.Compare a [.Is] [b] pos) (fT (fIsN fa fb)) := dt_of (pt_cmpR op_isN ha hb (nomark _)) w_isN
def fChain (g1 g2 : PyData → PyData → Option PyData) (fa fb fc : En → Option PyData) : En → Option PyData := fun en => (fa en).bind fun x => (fb en).bind fun y => (g1 x y).bind fun z => match z with
  | .bool true => (fc en).bind fun w => g2 y w
  | .bool false => some (.bool false)
  | _ => none
def gLe := gI fun i j => .bool (decide (i ≤ j))
theorem w_chain {g1 g2 : Int → Int → Bool} {c : Expr} {fc : En → Option PyData} {K : PySem.W.Frag} : ∀ σ H Q, tD K Ts (fChain (gI fun i j => .bool (g1 i j)) (gI fun i j => .bool (g2 i j)) fa fb fc) σ H Q →
    tChain (rI0 fun i j => .bl (g1 i j)) (rI0 fun i j => .bl (g2 i j)) (tD K Ts fa) (tD K Ts fb) (tD K Ts fc) σ H Q := fun σ H Q ⟨He, O, en, d, rp, hf, kk⟩ => by
  unfold fChain at hf
  obtain ⟨x, h1, hf1⟩ := Option.bind_eq_some_iff.mp hf
  obtain ⟨y, h2, hf2⟩ := Option.bind_eq_some_iff.mp hf1
  obtain ⟨z, h3, hf3⟩ := Option.bind_eq_some_iff.mp hf2
  clear hf hf1 hf2
  refine tD.of rp h1 fun v H1 x1 r1 q1 => tD.of r1 h2 fun w H2 x2 r2 q2 => ?_
  obtain ⟨i, j, rfl, rfl, rfl⟩ : ∃ i j, x = .int i ∧ y = .int j ∧ z = .bool (g1 i j) := by
    cases x <;> cases y <;> simp only [gI] at h3 <;> first | (cases h3; exact ⟨_, _, rfl, rfl, rfl⟩) | cases h3
  cases q1
  cases q2
  have hf := hf3
  refine ⟨i, j, rfl, rfl, g1 i j, rfl, ?_⟩
  cases hg : g1 i j with
  | true =>
    rw [hg] at hf
    obtain ⟨u, h4, hf⟩ := Option.bind_eq_some_iff.mp hf
    refine iteT (tD.of r2 h4 fun w' H3 x3 r3 q3 => ?_)
    cases q3 <;> simp only [gI] at hf <;> try cases hf
    exact ⟨_, _, rfl, rfl, kk _ H3 (x1.trans (x2.trans x3)) r3.tabs (.bl _)⟩
  | false =>
    rw [hg] at hf
    cases hf
    exact iteF (kk _ H2 (x1.trans x2) r2.tabs (.bl _))
theorem d_lele {c : Expr} {fc : En → Option PyData} (ha : DE X Ts a fa) (hb : DE X Ts b fb) (hc : DE X Ts c fc) (hm : lastMarks [.LtE, .LtE] [b, c] = false := by with_unfolding_all rfl) :
    DE X Ts (.Compare a [.LtE, .LtE] [b, c] pos) (fChain gLe gLe fa fb fc) := PE.imp (pe_chain op_le op_le ha hb hc hm) (w_chain (c := c))
theorem dt_lele {c : Expr} {fc : En → Option PyData} (ha : DE X Ts a fa) (hb : DE X Ts b fb) (hc : DE X Ts c fc) (hm : lastMarks [.LtE, .LtE] [b, c] = false := by with_unfolding_all rfl) :
    DT X Ts (.Compare a [.LtE, .LtE] [b, c] pos) (fT (fChain gLe gLe fa fb fc)) := dt_of (pt_chain op_le op_le ha hb hc hm) (w_chain (c := c))
def fAnd (f g : En → Option PyData) : En → Option PyData := fun en => match f en with
  | some (.bool true) => g en
  | some (.bool false) => some (.bool false)
  | _ => none
def fNot (f : En → Option PyData) : En → Option PyData := fun en => match f en with
  | some (.bool b) => some (.bool (!b))
  | _ => none
variable {rest : List Expr}
theorem d_one {op} {f : En → Option PyData} (h : DE X Ts a f) : DE X Ts (.BoolOp op [a] pos) f := pe_one h
theorem d_and {ga : En → Option PyData} (ha : DE X Ts a fa) (hb : DE X Ts (.BoolOp .And (b :: rest) pos) ga) : DE X Ts (.BoolOp .And (a :: b :: rest) pos) (fAnd fa ga) := PE.imp (pe_and ha hb) fun σ H Q ⟨He, O, en, d, rp, hf, kk⟩ => by
  unfold fAnd at hf
  split at hf
  · rename_i e
    exact tD.of rp e fun v H1 x1 r1 q1 => by cases q1; exact ⟨true, rfl, iteT (tD.of r1 hf fun w H2 x2 r2 q2 => kk w H2 (x1.trans x2) r2.tabs q2)⟩
  · rename_i e
    cases hf
    exact tD.of rp e fun v H1 x1 r1 q1 => by cases q1; exact ⟨false, rfl, iteF (kk _ H1 x1 r1.tabs (.bl _))⟩
  · cases hf
theorem d_not (ha : DE X Ts a fa) : DE X Ts (.UnaryOp .Not a pos) (fNot fa) := PE.imp (pe_not ha) fun σ H Q ⟨He, O, en, d, rp, hf, kk⟩ => by
  unfold fNot at hf
  split at hf
  · rename_i b e
    cases hf
    exact tD.of rp e fun v H1 x1 r1 q1 => by cases q1; exact ⟨b, rfl, kk _ H1 x1 r1.tabs (.bl _)⟩
  · cases hf
def kAnd (f g : En → Option Bool) : En → Option Bool := fun en => match f en with
  | some true => g en
  | some false => some false
  | none => none
def kOr (f g : En → Option Bool) : En → Option Bool := fun en => match f en with
  | some true => some true
  | some false => g en
  | none => none
def kNot (f : En → Option Bool) : En → Option Bool := fun en => (f en).map (!·)
variable {ta tb : En → Option Bool}
theorem dw_and1 (ha : DT X Ts a ta) : DW X Ts (.BoolOp .And [a] pos) ta := pw_and1 ha
theorem dw_or1 (ha : DT X Ts a ta) : DW X Ts (.BoolOp .Or [a] pos) ta := pw_or1 ha
theorem dw_and (ha : DT X Ts a ta) (hb : DW X Ts (.BoolOp .And (b :: rest) pos) tb) : DW X Ts (.BoolOp .And (a :: b :: rest) pos) (kAnd ta tb) := PW.imp (pw_and ha hb) fun σ H Q ⟨He, O, en, d, rp, hf, kk⟩ => by
  unfold kAnd at hf
  split at hf
  · rename_i e
    exact tT.of rp e fun H1 x1 r1 => iteT (tT.of r1 hf fun H2 x2 r2 => kk H2 (x1.trans x2) r2.tabs)
  · rename_i e
    cases hf
    exact tT.of rp e fun H1 x1 r1 => iteF (kk H1 x1 r1.tabs)
  · cases hf
theorem dw_or (ha : DT X Ts a ta) (hb : DW X Ts (.BoolOp .Or (b :: rest) pos) tb) : DW X Ts (.BoolOp .Or (a :: b :: rest) pos) (kOr ta tb) := PW.imp (pw_or ha hb) fun σ H Q ⟨He, O, en, d, rp, hf, kk⟩ => by
  unfold kOr at hf
  split at hf
  · rename_i e
    cases hf
    exact tT.of rp e fun H1 x1 r1 => iteT (kk H1 x1 r1.tabs)
  · rename_i e
    exact tT.of rp e fun H1 x1 r1 => iteF (tT.of r1 hf fun H2 x2 r2 => kk H2 (x1.trans x2) r2.tabs)
  · cases hf
theorem dt_w {e : Expr} (h : DW X Ts e ta) : DT X Ts e ta := h.pt
theorem dt_not (ha : DT X Ts a ta) : DT X Ts (.UnaryOp .Not a pos) (kNot ta) := PT.imp (pt_not ha) fun σ H Q ⟨He, O, en, d, rp, hf, kk⟩ => by
  unfold kNot at hf
  obtain ⟨b, h1, h2⟩ := Option.map_eq_some_iff.mp hf
  subst h2
  exact tT.of rp h1 fun H1 x1 r1 => kk H1 x1 r1.tabs
def fIf (t : En → Option Bool) (f g : En → Option PyData) : En → Option PyData := fun en => match t en with
  | some true => f en
  | some false => g en
  | none => none
theorem d_if {c : Expr} (hc : DT X Ts c ta) (ha : DE X Ts a fa) (hb : DE X Ts b fb) : DE X Ts (.IfExp c a b pos) (fIf ta fa fb) := PE.imp (pe_ifExp hc ha hb) fun σ H Q ⟨He, O, en, d, rp, hf, kk⟩ => by
  unfold fIf at hf
  split at hf
  · rename_i e
    exact tT.of rp e fun H1 x1 r1 => iteT (tD.of r1 hf fun w H2 x2 r2 q2 => kk w H2 (x1.trans x2) r2.tabs q2)
  · rename_i e
    exact tT.of rp e fun H1 x1 r1 => iteF (tD.of r1 hf fun w H2 x2 r2 q2 => kk w H2 (x1.trans x2) r2.tabs q2)
  · cases hf
end
def fNil : En → Option (List PyData) := fun _ => some []
def fCons (f : En → Option PyData) (g : En → Option (List PyData)) : En → Option (List PyData) := fun en => (f en).bind fun x => (g en).bind fun xs => some (x :: xs)
section
variable {X : Cx} {Ts : TsT} {pos : Pos} {e : Expr} {es : List Expr} {f : En → Option PyData} {g : En → Option (List PyData)}
theorem da_nil : DA X Ts [] fNil := PA.imp pa_nil fun σ H Q ⟨He, O, en, ds, rp, hf, kk⟩ => by
  cases hf
  exact kk [] H (Xt.refl H) rp.tabs .nil
theorem fCons_some {en : En} {ds : List PyData} (h : fCons f g en = some ds) : ∃ x xs, f en = some x ∧ g en = some xs ∧ ds = x :: xs := by
  unfold fCons at h
  obtain ⟨x, h1, h⟩ := Option.bind_eq_some_iff.mp h
  obtain ⟨y, h2, h⟩ := Option.bind_eq_some_iff.mp h
  cases h
  exact ⟨x, y, h1, h2, rfl⟩
theorem da_cons (ha : DE X Ts e f) (hr : DA X Ts es g) (hs : starEach (e :: es) X.env = (false, eval e X.env) :: starEach es X.env := by rfl) : DA X Ts (e :: es) (fCons f g) := PA.imp (pa_cons ha hr hs) fun σ H Q ⟨He, O, en, ds, rp, hf, kk⟩ => by
  obtain ⟨x, xs, h1, h2, rfl⟩ := fCons_some hf
  exact tD.of rp h1 fun v H1 x1 r1 q1 => tDs.of r1 h2 fun vs H2 x2 r2 q2 => kk _ H2 (x1.trans x2) r2.tabs (.cons (Dp.mono (hide_mono x2) q1) q2)
theorem new_out {O : List Addr} {H : Hp} {p : Addr} (occ : ∀ b ∈ O, H b ≠ none ∧ ∀ ps, H b ≠ some (.tbl ps)) (h : H p = none) : p ∉ O := fun z => (occ p z).1 h
theorem small64 {n : Nat} (h : n ≤ 64) : n ≤ sizeLine := Nat.le_of_lt (small1000 (by omega))
theorem tup_new {K : PySem.W.Frag} {H : Hp} {O : List Addr} {p : Addr} {xs : List V} {ds : List PyData} (hp : H p = none) (np : p ∉ O) (q : DpAll K (hide H O) xs ds) : Dp K (hide (upd H p (.tup xs)) O) (.ref p) (.tuple ds) :=
  .tup (.inl (.inl (hide_of np upd_same))) (DpAll.mono (hide_mono (Xt.upd hp)) q)
theorem lst_new {K : PySem.W.Frag} {H : Hp} {O : List Addr} {p : Addr} {xs : List V} {ds : List PyData} (hp : H p = none) (np : p ∉ O) (q : DpAll K (hide H O) xs ds) : Dp K (hide (upd H p (.lst xs)) O) (.ref p) (.list ds) :=
  .lst (.inl (.inl (hide_of np upd_same))) (DpAll.mono (hide_mono (Xt.upd hp)) q)
def fTup (g : En → Option (List PyData)) : En → Option PyData := fun en => (g en).bind fun ds => if ds.length ≤ 64 then some (.tuple ds) else none
def fLst (g : En → Option (List PyData)) : En → Option PyData := fun en => (g en).bind fun ds => if ds.length ≤ 64 then some (.list ds) else none
theorem fTup_some {en : En} {d : PyData} (h : fTup g en = some d) : ∃ ds, g en = some ds ∧ ds.length ≤ 64 ∧ d = .tuple ds := by
  unfold fTup at h
  obtain ⟨x, h1, h⟩ := Option.bind_eq_some_iff.mp h
  split at h
  · cases h; exact ⟨x, h1, by assumption, rfl⟩
  · cases h
theorem fLst_some {en : En} {d : PyData} (h : fLst g en = some d) : ∃ ds, g en = some ds ∧ ds.length ≤ 64 ∧ d = .list ds := by
  unfold fLst at h
  obtain ⟨x, h1, h⟩ := Option.bind_eq_some_iff.mp h
  split at h
  · cases h; exact ⟨x, h1, by assumption, rfl⟩
  · cases h
theorem d_tup {x1} (h : DA X Ts es g) : DE X Ts (.Tuple es x1 pos) (fTup g) := PE.imp (pe_tup h) fun σ H Q ⟨He, O, en, d, rp, hf, kk⟩ => by
  obtain ⟨ds, h1, hl, rfl⟩ := fTup_some hf
  exact tDs.of rp h1 fun vs H1 x1 r1 q1 => ⟨by rw [DpAll.len q1]; exact small64 hl, fun p np => kk _ _ (x1.trans (Xt.upd np)) (r1.tabs.new np) (tup_new np (new_out r1.occ np) q1)⟩
theorem d_lst (h : DA X Ts es g) : DE X Ts (.List es pos) (fLst g) := PE.imp (pe_lst h) fun σ H Q ⟨He, O, en, d, rp, hf, kk⟩ => by
  obtain ⟨ds, h1, hl, rfl⟩ := fLst_some hf
  exact tDs.of rp h1 fun vs H1 x1 r1 q1 => ⟨by rw [DpAll.len q1]; exact small64 hl, fun p np => kk _ _ (x1.trans (Xt.upd np)) (r1.tabs.new np) (lst_new np (new_out r1.occ np) q1)⟩
def spD (K : PySem.W.Frag) (Ts : TsT) (n : Nat) (F : List PyData → Option PyData) : Sp := fun vs H Q _ => vs.length = n ∧ ∃ O ds d, DpAll K (hide H O) vs ds ∧ Tb Ts H ∧ (∀ b ∈ O, H b ≠ none ∧ ∀ ps, H b ≠ some (.tbl ps)) ∧ F ds = some d ∧
  ∀ v H', Xt H H' → Tb Ts H' → Dp K (hide H' O) v d → Q v H'
theorem spD.imp {K : PySem.W.Frag} {Ts : TsT} {n : Nat} {F G : List PyData → Option PyData} (h : ∀ ds d, G ds = some d → F ds = some d) : ∀ vs H Q E, spD K Ts n G vs H Q E → spD K Ts n F vs H Q E :=
  fun vs H Q E ⟨h1, O, ds, d, a, b, c, e, k⟩ => ⟨h1, O, ds, d, a, b, c, h ds d e, k⟩
def fCall (n : Nat) (F : List PyData → Option PyData) (g : En → Option (List PyData)) : En → Option PyData := fun en => (g en).bind fun ds => if ds.length = n then F ds else none
structure DFn (X : Cx) (Ts : TsT) (k : Nat) (x : Str) (n : Nat) (F : List PyData → Option PyData) : Prop where
  ex : ∃ f fd ps dvs us dd G, X.mg x = some (.ref f) ∧ PySem.W.keepIn X.K (.ref f) = true ∧ Binds X.K fd ps us ∧ Vals dvs us ∧ (∀ H, DpAll X.K H dvs dd) ∧ FnOk X.prog X.w X.K X.mg X.base CX0 k f fd ps (spD X.K Ts (n + dd.length) G) ∧ ∀ xs d, xs.length = n → F xs = some d → G (xs ++ dd) = some d
theorem d_call {k j n : Nat} {x : Str} {p : Pos} {F : List PyData → Option PyData} (hr : Room j X.A) (hF : DFn X Ts k x n F) (hk : k ≤ j) (hg : Gl X x) (ha : DA X Ts (e :: es) g) (hdb : (x == ("__debug__" : Str)) = false := by decide)
    (he : starEach (e :: es) X.env = (false, eval e X.env) :: starEach es X.env := by rfl) (hpl : (backTo pos (starEach es X.env)).any (·.1) = false := by rfl) : DE X Ts (.Call (.Name x p) (e :: es) [] pos) (fCall n F g) := by
  obtain ⟨f, fd, ps, dvs, us, dd, G, h1, h2, h3, h3v, h3d, h4, h5⟩ := hF.ex
  refine PE.imp (pe_call h4 (hr.mono hk) hg h1 h2 h3 h3v pass0 ha hdb he hpl) fun σ H Q ⟨He, O, en, d, rp, hf, kk⟩ => ?_
  unfold fCall at hf
  obtain ⟨ds, q1, hf⟩ := Option.bind_eq_some_iff.mp hf
  split at hf
  · rename_i hl
    refine tDs.of rp q1 fun vs H1 x1 r1 qs => ?_
    exact ⟨by rw [List.length_append, DpAll.len qs, hl, DpAll.len (h3d H1)], O, ds ++ dd, d, DpAll.app qs (h3d _), r1.tabs, r1.occ, h5 ds d hl hf, fun v H' x t q => kk v H' (x1.trans x) t q⟩
  · cases hf
end
theorem DpB.seq {K : PySem.W.Frag} {H : Hp} {O : List Addr} {v : V} {d : PyData} (h : DpB K H O v d) :
    (∃ b, v = .bl b ∧ d = .bool b) ∨ (v = .non ∧ d = .none) ∨ (∃ i, v = .int i ∧ d = .int i) ∨ (∃ s, v = .str s ∧ d = .str s) ∨
    (∃ a vs ds, v = .ref a ∧ d = .list ds ∧ SqL K H a vs ∧ DpAll K (hide H O) vs ds) ∨ (∃ a vs ds, v = .ref a ∧ d = .tuple ds ∧ SqT K H a vs ∧ DpAll K (hide H O) vs ds) ∨ ∃ kvs, d = .dict kvs := by
  rcases h with h | ⟨a, vs, ds, rfl, rfl, h1, h2⟩
  · cases h with
    | non => exact .inr (.inl ⟨rfl, rfl⟩)
    | bl b => exact .inl ⟨b, rfl, rfl⟩
    | int i => exact .inr (.inr (.inl ⟨i, rfl, rfl⟩))
    | str s => exact .inr (.inr (.inr (.inl ⟨s, rfl, rfl⟩)))
    | lst s a => exact .inr (.inr (.inr (.inr (.inl ⟨_, _, _, rfl, rfl, sqL_mono (fun o n e => (hide_some e).2) s, a⟩))))
    | tup s a => exact .inr (.inr (.inr (.inr (.inr (.inl ⟨_, _, _, rfl, rfl, sqT_mono (fun o n e => (hide_some e).2) s, a⟩)))))
    | dct _ => exact .inr (.inr (.inr (.inr (.inr (.inr ⟨_, rfl⟩)))))
    | fn _ _ => exact .inr (.inr (.inr (.inr (.inr (.inr ⟨_, rfl⟩)))))
  · exact .inr (.inr (.inr (.inr (.inl ⟨_, _, _, rfl, rfl, .inl (.inl h1), h2⟩))))
theorem DpB.lst {K : PySem.W.Frag} {H : Hp} {O : List Addr} {v : V} {ds : List PyData} (h : DpB K H O v (.list ds)) : ∃ a vs, v = .ref a ∧ SqL K H a vs ∧ DpAll K (hide H O) vs ds := by
  rcases h.seq with ⟨_, _, e⟩ | ⟨_, e⟩ | ⟨_, _, e⟩ | ⟨_, _, e⟩ | ⟨a, vs, es, rfl, e, h1, h2⟩ | ⟨a, vs, es, rfl, e, h1, h2⟩ | ⟨_, e⟩ <;> cases e
  exact ⟨a, vs, rfl, h1, h2⟩
theorem DpB.tup {K : PySem.W.Frag} {H : Hp} {O : List Addr} {v : V} {ds : List PyData} (h : DpB K H O v (.tuple ds)) : ∃ a vs, v = .ref a ∧ SqT K H a vs ∧ DpAll K (hide H O) vs ds := by
  rcases h.seq with ⟨_, _, e⟩ | ⟨_, e⟩ | ⟨_, _, e⟩ | ⟨_, _, e⟩ | ⟨a, vs, es, rfl, e, h1, h2⟩ | ⟨a, vs, es, rfl, e, h1, h2⟩ | ⟨_, e⟩ <;> cases e
  exact ⟨a, vs, rfl, h1, h2⟩
def items : PyData → Option (List PyData)
  | .list ds => some ds
  | .tuple ds => some ds
  | _ => none
def intsOf : List PyData → Option (List Int)
  | [] => some []
  | .int i :: r => (intsOf r).map (i :: ·)
  | _ :: _ => none
theorem intsOf_some : ∀ {ds : List PyData} {ns : List Int}, intsOf ds = some ns → ds = ns.map .int
  | [], ns, h => by cases h; rfl
  | .int i :: r, ns, h => by
    obtain ⟨m, h1, rfl⟩ := Option.map_eq_some_iff.mp h
    rw [intsOf_some h1]
    rfl
  | .none :: r, ns, h => by cases h
  | .bool _ :: r, ns, h => by cases h
  | .str _ :: r, ns, h => by cases h
  | .list _ :: r, ns, h => by cases h
  | .tuple _ :: r, ns, h => by cases h
  | .dict _ :: r, ns, h => by cases h
theorem intsOf_map (ns : List Int) : intsOf (ns.map .int) = some ns := by
  induction ns with
  | nil => rfl
  | cons n r ih => simp [intsOf, ih]
section
variable {X : Cx} {Ts : TsT} {pos p : Pos} {e e2 : Expr} {f g : En → Option PyData}
theorem b_arg1 {id : String} {r : List V → Hp → VK → Prop} {x : Str} {gg : PyData → Option PyData} (hc : CallR X (.builtin id) r) (hg : Gl X x) (hm : X.mg x = none) (hv : bootBuiltins x = some (.builtin id)) (ha : DB X Ts e f)
    (k : ∀ d z v H O Q, gg d = some z → DpB X.K H O v d → Tb Ts H → (∀ b ∈ O, H b ≠ none ∧ ∀ ps, H b ≠ some (.tbl ps)) → (∀ u H', Xt H H' → Tb Ts H' → Dp X.K (hide H' O) u z → Q u H') → r [v] H Q)
    (hn : x ≠ "__name__" := by decide) (hdb : (x == ("__debug__" : Str)) = false := by decide) (he : starEach [e] X.env = (false, eval e X.env) :: starEach [] X.env := by rfl) :
    DE X Ts (.Call (.Name x p) [e] [] pos) (f1 gg f) := PE.imp (pe_callB (t := tCons (tB X.K Ts f) tNil) hc hg hm hv (pa_cons ha pa_nil he) hn hdb he (by rfl)) fun σ H Q ⟨He, O, en, d, rp, hf, kk⟩ => by
  obtain ⟨x, h1, h2⟩ := f1_some hf
  exact tB.of rp h1 fun v H1 x1 r1 q1 => k x d v H1 O Q h2 q1 r1.tabs r1.occ fun u H' x t q => kk u H' (x1.trans x) t q
theorem b_argT {T : String} {r : List V → Hp → VK → Prop} {x : Str} {gg : PyData → Option PyData} (hc : CallR X (.type T) r) (hg : Gl X x) (hm : X.mg x = none) (hv : bootBuiltins x = some (.type T)) (ha : DB X Ts e f)
    (k : ∀ d z v H O Q, gg d = some z → DpB X.K H O v d → Tb Ts H → (∀ b ∈ O, H b ≠ none ∧ ∀ ps, H b ≠ some (.tbl ps)) → (∀ u H', Xt H H' → Tb Ts H' → Dp X.K (hide H' O) u z → Q u H') → r [v] H Q)
    (hn : x ≠ "__name__" := by decide) (hdb : (x == ("__debug__" : Str)) = false := by decide) (he : starEach [e] X.env = (false, eval e X.env) :: starEach [] X.env := by rfl) :
    DE X Ts (.Call (.Name x p) [e] [] pos) (f1 gg f) := PE.imp (pe_callTy (t := tCons (tB X.K Ts f) tNil) hc hg hm hv (pa_cons ha pa_nil he) hn hdb he (by rfl)) fun σ H Q ⟨He, O, en, d, rp, hf, kk⟩ => by
  obtain ⟨x, h1, h2⟩ := f1_some hf
  exact tB.of rp h1 fun v H1 x1 r1 q1 => k x d v H1 O Q h2 q1 r1.tabs r1.occ fun u H' x t q => kk u H' (x1.trans x) t q
def gLen : PyData → Option PyData
  | .list ds => some (.int ds.length)
  | .tuple ds => some (.int ds.length)
  | _ => none
def fLen := f1 gLen
theorem d_len (hg : Gl X "len") (hm : X.mg "len" = none) (ha : DB X Ts e f) (he : starEach [e] X.env = (false, eval e X.env) :: starEach [] X.env := by rfl) : DE X Ts (.Call (.Name "len" p) [e] [] pos) (fLen f) :=
  b_arg1 call_len hg hm PySem.boot_len ha (he := he) fun d z v H O Q hz q t occ kk => by
    cases d with
    | list ds =>
      cases hz
      obtain ⟨a, vs, rfl, h1, h2⟩ := q.lst
      exact ⟨_, ds.length, rfl, .inl ⟨vs, h1, (DpAll.len h2).symm⟩, kk _ H (Xt.refl H) t (.int _)⟩
    | tuple ds =>
      cases hz
      obtain ⟨a, vs, rfl, h1, h2⟩ := q.tup
      exact ⟨_, ds.length, rfl, .inr ⟨vs, h1, (DpAll.len h2).symm⟩, kk _ H (Xt.refl H) t (.int _)⟩
    | _ => cases hz
def rSumT (K : PySem.W.Frag) : List V → Hp → VK → Prop := fun vs H Q => ∃ (a : Addr) (ns : List Int), vs = [V.ref a] ∧ (SqL K H a (ns.map V.int) ∨ SqT K H a (ns.map V.int)) ∧ Q (.int ns.sum) H
theorem cr_sumT (hc : X.calm = true) : CallR X (.builtin "sum") (rSumT X.K) := by
  intro pins s σ H vs us Q I r h
  obtain ⟨a, ns, rfl, hs | hs, q⟩ := h
  · exact cr_sum hc pins s σ H _ us Q I r ⟨a, ns, rfl, hs, q⟩
  · obtain ⟨its, rv, ⟨o, ho, hcl, n, hd⟩, _⟩ := I.tuple hs
    rw [Vals.ref1 r]
    have hi : IntsAre its ns := rv.ints
    obtain ⟨xs, hx⟩ := hi.allInts.items
    have hn : numsOf its.toArray.toList = ns := by rw [show its.toArray.toList = its from rfl, hi.numsOf]
    rw [hx] at hd hn
    rw [nums_intItems] at hn
    refine PySem.W.ktm_sumG (I.ok.hd hc) ⟨o, ho, hcl, n, hd⟩ fun h' tk t' hk => ?_
    refine ⟨.int ns.sum, H, I.kept hk, ⟨t', ?_⟩, q⟩
    rw [preSum_eq, List.take_of_length_le (by simp), hn]
def gSum : PyData → Option PyData := fun d => (items d).bind fun ds => (intsOf ds).map fun ns => .int ns.sum
def fSum := f1 gSum
theorem gSum_some {d z : PyData} (h : gSum d = some z) : ∃ ns : List Int, (d = .list (ns.map .int) ∨ d = .tuple (ns.map .int)) ∧ z = .int ns.sum := by
  unfold gSum at h
  obtain ⟨ds, h1, h2⟩ := Option.bind_eq_some_iff.mp h
  obtain ⟨ns, h3, rfl⟩ := Option.map_eq_some_iff.mp h2
  have e := intsOf_some h3
  subst e
  cases d <;> simp only [items] at h1 <;> cases h1
  · exact ⟨ns, .inl rfl, rfl⟩
  · exact ⟨ns, .inr rfl, rfl⟩
theorem d_sum (hc : X.calm = true) (hg : Gl X "sum") (hm : X.mg "sum" = none) (hb : bootBuiltins "sum" = some (.builtin "sum")) (ha : DB X Ts e f) (he : starEach [e] X.env = (false, eval e X.env) :: starEach [] X.env := by rfl) : DE X Ts (.Call (.Name "sum" p) [e] [] pos) (fSum f) :=
  b_arg1 (cr_sumT hc) hg hm hb ha (he := he) fun d z v H O Q hz q t occ kk => by
    obtain ⟨ns, rfl | rfl, rfl⟩ := gSum_some hz
    · obtain ⟨a, vs, rfl, h1, h2⟩ := q.lst
      obtain rfl := DpAll.ints h2
      exact ⟨a, ns, rfl, .inl h1, kk _ H (Xt.refl H) t (.int _)⟩
    · obtain ⟨a, vs, rfl, h1, h2⟩ := q.tup
      obtain rfl := DpAll.ints h2
      exact ⟨a, ns, rfl, .inr h1, kk _ H (Xt.refl H) t (.int _)⟩
theorem d_args2 {id : String} {r : List V → Hp → VK → Prop} {x : Str} {gg : PyData → PyData → Option PyData} (hc : CallR X (.builtin id) r) (hg : Gl X x) (hm : X.mg x = none) (hv : bootBuiltins x = some (.builtin id)) (ha : DE X Ts e f) (hb : DE X Ts e2 g)
    (k : ∀ d d' z v w H O Q, gg d d' = some z → Dp X.K (hide H O) v d → Dp X.K (hide H O) w d' → Tb Ts H → (∀ u H', Xt H H' → Tb Ts H' → Dp X.K (hide H' O) u z → Q u H') → r [v, w] H Q)
    (hn : x ≠ "__name__" := by decide) (hdb : (x == ("__debug__" : Str)) = false := by decide) (he : starEach [e, e2] X.env = (false, eval e X.env) :: starEach [e2] X.env := by rfl) (he2 : starEach [e2] X.env = (false, eval e2 X.env) :: starEach [] X.env := by rfl) (hpl : (backTo pos (starEach [e2] X.env)).any (·.1) = false := by rfl) :
    DE X Ts (.Call (.Name x p) [e, e2] [] pos) (f2 gg f g) := PE.imp (pe_callB (t := tCons (tD X.K Ts f) (tCons (tD X.K Ts g) tNil)) hc hg hm hv (pa_cons ha (pa_cons hb pa_nil he2) he) hn hdb he hpl) fun σ H Q ⟨He, O, en, d, rp, hf, kk⟩ => by
  obtain ⟨x, y, h1, h2, h3⟩ := f2_some hf
  exact tD.of rp h1 fun v H1 x1 r1 q1 => tD.of r1 h2 fun w H2 x2 r2 q2 => k x y d v w H2 O Q h3 (Dp.mono (hide_mono x2) q1) q2 r2.tabs fun u H' x3 t q => kk u H' (x1.trans (x2.trans x3)) t q
def fMin2 := f2 (gI fun i j => .int (if j < i then j else i))
theorem d_min2 (hc : X.calm = true) (hg : Gl X "min") (hm : X.mg "min" = none) (hv : bootBuiltins "min" = some (.builtin "min")) (ha : DE X Ts e f) (hb : DE X Ts e2 g)
    (he : starEach [e, e2] X.env = (false, eval e X.env) :: starEach [e2] X.env := by rfl) (he2 : starEach [e2] X.env = (false, eval e2 X.env) :: starEach [] X.env := by rfl) (hpl : (backTo pos (starEach [e2] X.env)).any (·.1) = false := by rfl) :
    DE X Ts (.Call (.Name "min" p) [e, e2] [] pos) (fMin2 f g) := d_args2 (call_min2 hc) hg hm hv ha hb (he := he) (he2 := he2) (hpl := hpl) fun d d' z v w H O Q hz q1 q2 t kk => by
  cases q1 <;> cases q2 <;> simp only [gI] at hz <;> try cases hz
  exact ⟨_, _, rfl, kk _ H (Xt.refl H) t (.int _)⟩
def gTuple : PyData → Option PyData := fun d => (items d).map .tuple
def fTuple := f1 gTuple
theorem d_tuple (hg : Gl X "tuple") (hm : X.mg "tuple" = none) (hv : bootBuiltins "tuple" = some (.type "tuple")) (ha : DB X Ts e f) (he : starEach [e] X.env = (false, eval e X.env) :: starEach [] X.env := by rfl) : DE X Ts (.Call (.Name "tuple" p) [e] [] pos) (fTuple f) :=
  b_argT call_tuple_of hg hm hv ha (he := he) fun d z v H O Q hz q t occ kk => by
    cases d <;> simp only [gTuple, items, Option.map_some, Option.map_none] at hz <;> try cases hz
    · obtain ⟨a, vs, rfl, h1, h2⟩ := q.lst
      exact ⟨a, vs, rfl, .inl ⟨h1, fun l nl => kk _ _ (Xt.upd nl) (t.new nl) (tup_new nl (new_out occ nl) h2)⟩⟩
    · rcases q with q | ⟨_, _, _, _, e, _⟩
      · cases q with
        | tup s a => exact ⟨_, _, rfl, .inr ⟨sqT_mono (fun o n e => (hide_some e).2) s, kk _ H (Xt.refl H) t (.tup s a)⟩⟩
      · cases e
def gAbs : PyData → Option PyData
  | .int i => some (.int (if i < 0 then -i else i))
  | _ => none
def fAbs := f1 gAbs
theorem d_abs (hg : Gl X "abs") (hm : X.mg "abs" = none) (hv : bootBuiltins "abs" = some (.builtin "abs")) (ha : DE X Ts e f) (he : starEach [e] X.env = (false, eval e X.env) :: starEach [] X.env := by rfl) : DE X Ts (.Call (.Name "abs" p) [e] [] pos) (fAbs f) :=
  b_arg1 call_abs hg hm hv (d_b ha) (he := he) fun d z v H O Q hz q t occ kk => by
    cases d <;> simp only [gAbs] at hz <;> try cases hz
    rcases q with q | ⟨_, _, _, _, e, _⟩
    · cases q
      exact ⟨_, rfl, kk _ H (Xt.refl H) t (.int _)⟩
    · cases e
def gInt : PyData → Option PyData
  | .int i => some (.int i)
  | .bool k => some (.int (if k then 1 else 0))
  | _ => none
def fInt := f1 gInt
theorem d_toInt (hg : Gl X "int") (hm : X.mg "int" = none) (hv : bootBuiltins "int" = some (.type "int")) (ha : DE X Ts e f) (he : starEach [e] X.env = (false, eval e X.env) :: starEach [] X.env := by rfl) : DE X Ts (.Call (.Name "int" p) [e] [] pos) (fInt f) :=
  b_argT call_int1 hg hm hv (d_b ha) (he := he) fun d z v H O Q hz q t occ kk => by
    cases d with
    | int i =>
      cases hz
      rcases q with q | ⟨_, _, _, _, e, _⟩
      · cases q
        exact .inl ⟨_, rfl, kk _ H (Xt.refl H) t (.int _)⟩
      · cases e
    | bool k =>
      cases hz
      rcases q with q | ⟨_, _, _, _, e, _⟩
      · cases q
        exact .inr ⟨_, rfl, kk _ H (Xt.refl H) t (.int _)⟩
      · cases e
    | _ => cases hz
def pyTy : PyData → String
  | .none => "NoneType"
  | .bool _ => "bool"
  | .int _ => "int"
  | .str _ => "str"
  | .list _ => "list"
  | .tuple _ => "tuple"
  | .dict _ => "dict"
def isFn : PyData → Bool
  | .dict (_ :: _) => true
  | _ => false
theorem tyX_of {K : PySem.W.Frag} {H : Hp} {v : V} {d : PyData} (h : Dp K H v d) (hn : isFn d = false) : TyX K H v (.type (pyTy d)) := by
  cases h with
  | non => exact .base .non
  | bl b => exact .base (.bl b)
  | int i => exact .base (.int i)
  | str s => exact .base (.str s)
  | lst s a =>
    rcases s with (s | ⟨o, s⟩) | ⟨o, its, n, h1, h2, _⟩
    · exact .base (.lst s)
    · exact .base (.frz s)
    · exact .kList h1 h2
  | tup s a =>
    rcases s with (s | ⟨o, s⟩) | ⟨o, its, n, h1, h2, _⟩
    · exact .base (.tup s)
    · exact .fTuple s
    · exact .kTuple h1 h2
  | dct e => exact .base (.dK e)
  | fn f i => cases hn
def fIsi (q : PyData → Bool) := f1 (fun d => if isFn d = true then none else some (.bool (q d)))
def isInt : PyData → Bool
  | .int _ => true
  | .bool _ => true
  | _ => false
def isBool : PyData → Bool
  | .bool _ => true
  | _ => false
def isTup : PyData → Bool
  | .tuple _ => true
  | _ => false
def isLst : PyData → Bool
  | .list _ => true
  | _ => false
def isStr : PyData → Bool
  | .str _ => true
  | _ => false
theorem isi_int : ∀ d, kitB (pyTy d) "int" = some (isInt d) := fun d => by cases d <;> (simp only [pyTy, isInt]; decide +kernel)
theorem isi_bool : ∀ d, kitB (pyTy d) "bool" = some (isBool d) := fun d => by cases d <;> (simp only [pyTy, isBool]; decide +kernel)
theorem isi_tuple : ∀ d, kitB (pyTy d) "tuple" = some (isTup d) := fun d => by cases d <;> (simp only [pyTy, isTup]; decide +kernel)
theorem isi_list : ∀ d, kitB (pyTy d) "list" = some (isLst d) := fun d => by cases d <;> (simp only [pyTy, isLst]; decide +kernel)
theorem isi_str : ∀ d, kitB (pyTy d) "str" = some (isStr d) := fun d => by cases d <;> (simp only [pyTy, isStr]; decide +kernel)
theorem d_isi {T : String} {x : Str} {q : PyData → Bool} {px : Pos} (hq : ∀ d, kitB (pyTy d) T = some (q d)) (hg : Gl X "isinstance") (hm : X.mg "isinstance" = none) (hv : bootBuiltins "isinstance" = some (.builtin "isinstance"))
    (hgT : Gl X x) (hmT : X.mg x = none) (hvT : bootBuiltins x = some (.type T)) (ha : DE X Ts e f) (hnT : x ≠ "__name__" := by decide) (hdT : (x == ("__debug__" : Str)) = false := by decide)
    (he : starEach [e, .Name x px] X.env = (false, eval e X.env) :: starEach [.Name x px] X.env := by rfl) (he2 : starEach [.Name x px] X.env = (false, eval (.Name x px) X.env) :: starEach [] X.env := by rfl) (hpl : (backTo pos (starEach [.Name x px] X.env)).any (·.1) = false := by rfl) :
    DE X Ts (.Call (.Name "isinstance" p) [e, .Name x px] [] pos) (fIsi q f) :=
  PE.imp (pe_callB (t := tCons (tD X.K Ts f) (tCons (tC (.ty T)) tNil)) call_isi hg hm hv (pa_cons ha (pa_cons (pe_bltn (v := .ty T) hgT hmT hvT rfl hnT hdT) pa_nil he2) he) (by decide) (by decide) he hpl) fun σ H Q ⟨He, O, en, d, rp, hf, kk⟩ => by
    obtain ⟨x, h1, h2⟩ := f1_some hf
    split at h2
    · cases h2
    rename_i nf
    cases h2
    exact tD.of rp h1 fun v H1 x1 r1 q1 => ⟨v, .ty T, _, _, q x, rfl, .ty T, tyX_of (Dp.mono hide_out q1) (Bool.not_eq_true _ ▸ nf), kit_ty (hq x), kk _ H1 x1 r1.tabs (.bl _)⟩
def gIx : PyData → PyData → Option PyData := fun d i => match i with
  | .int i => (items d).bind fun ds => atI ds i
  | _ => none
def fIx := f2 gIx
theorem atI_dp {K : PySem.W.Frag} {H : Hp} {vs : List V} {ds : List PyData} {i : Int} {d : PyData} (h : DpAll K H vs ds) (e : atI ds i = some d) : ∃ v, atI vs i = some v ∧ Dp K H v d := by
  unfold atI at e ⊢
  rw [DpAll.len h]
  obtain ⟨j, h1, h2⟩ := Option.bind_eq_some_iff.mp e
  obtain ⟨v, h3, h4⟩ := DpAll.get' h h2
  exact ⟨v, by rw [h1]; exact h3, h4⟩
theorem b_ix (ha : DB X Ts e f) (hb : DE X Ts e2 g) (hs : PlainIx e2 := by exact fun _ _ => rfl) : DE X Ts (.Subscript e e2 pos) (fIx f g) := PE.imp (pe_ix ix_seq ha hb hs) fun σ H Q ⟨He, O, en, d, rp, hf, kk⟩ => by
  obtain ⟨x, y, h1, h2, h3⟩ := f2_some hf
  refine tB.of rp h1 fun v H1 x1 r1 q1 => tD.of r1 h2 fun w H2 x2 r2 q2 => ?_
  unfold gIx at h3
  cases q2 <;> try cases h3
  rename_i i
  obtain ⟨ds, h4, h5⟩ := Option.bind_eq_some_iff.mp h3
  cases x <;> simp only [items] at h4 <;> cases h4
  · obtain ⟨a, vs, rfl, s, qs⟩ := q1.lst
    obtain ⟨u, h6, h7⟩ := atI_dp qs h5
    exact .inl ⟨a, vs, i, u, rfl, rfl, sqL_mono (fun o n e => x2.get _ o e n) s, h6, kk u H2 (x1.trans x2) r2.tabs (Dp.mono (hide_mono x2) h7)⟩
  · obtain ⟨a, vs, rfl, s, qs⟩ := q1.tup
    obtain ⟨u, h6, h7⟩ := atI_dp qs h5
    exact .inr (.inl ⟨a, vs, i, u, rfl, rfl, sqT_mono (fun o n e => x2.get _ o e n) s, h6, kk u H2 (x1.trans x2) r2.tabs (Dp.mono (hide_mono x2) h7)⟩)
def cutD (ds : List PyData) (lo hi : Option Int) : List PyData := (ds.drop (HT.sIx ds.length 0 lo)).take (HT.sIx ds.length ds.length hi - HT.sIx ds.length 0 lo)
theorem cut_dp {K : PySem.W.Frag} {H : Hp} {vs : List V} {ds : List PyData} (h : DpAll K H vs ds) (lo hi : Option Int) : DpAll K H (cutV vs lo hi) (cutD ds lo hi) := by
  unfold cutV cutD
  rw [DpAll.len h]
  exact DpAll.take _ (DpAll.drop _ h)
theorem sl_seq : SlR X (fun x lo hi H Q => rSlA X.K x lo hi H Q ∨ rSlL X.K x lo hi H Q) := by
  intro pins s σ H x v vl vu lo hi sl Q I rx hs pl pu h
  rcases h with h | h
  · exact sl_tupA pins s σ H x v vl vu lo hi sl Q I rx hs pl pu h
  · exact sl_list pins s σ H x v vl vu lo hi sl Q I rx hs pl pu h
def fNoPart : En → Option (Option Int) := fun _ => some none
def fPart (f : En → Option PyData) : En → Option (Option Int) := fun en => match f en with
  | some (.int i) => some (some i)
  | _ => none
def tPO (K : PySem.W.Frag) (Ts : TsT) (f : En → Option (Option Int)) : TO := fun σ H Q => ∃ He O en o, Rep K Ts He O σ H en ∧ f en = some o ∧ ∀ H', Xt H H' → Tb Ts H' → Q o H'
abbrev DP (X : Cx) (Ts : TsT) (e : Option Expr) (f : En → Option (Option Int)) : Prop := PO X e (tPO X.K Ts f)
theorem dp_none : DP X Ts none fNoPart := ⟨fun pins s σ H Q I ⟨He, O, en, o, rp, hf, kk⟩ => by
  cases hf
  exact po_none.run pins s σ H Q I (kk H (Xt.refl H) rp.tabs)⟩
theorem dp_some (h : DE X Ts e f) : DP X Ts (some e) (fPart f) := ⟨fun pins s σ H Q I ⟨He, O, en, o, rp, hf, kk⟩ => by
  unfold fPart at hf
  split at hf
  · rename_i i e
    cases hf
    exact (po_some h).run pins s σ H Q I (tD.of rp e fun v H1 x1 r1 q1 => by cases q1; exact ⟨i, rfl, kk H1 x1 r1.tabs⟩)
  · cases hf⟩
def gCut : PyData → Option Int → Option Int → Option PyData
  | .list ds, lo, hi => some (.list (cutD ds lo hi))
  | .tuple ds, lo, hi => some (.tuple (cutD ds lo hi))
  | _, _, _ => none
def fCut (f : En → Option PyData) (l h : En → Option (Option Int)) : En → Option PyData := fun en => (f en).bind fun d => (l en).bind fun lo => (h en).bind fun hi => gCut d lo hi
theorem cutD_whole {ds : List PyData} {lo hi : Option Int} (h : HT.sIx ds.length 0 lo = 0 ∧ HT.sIx ds.length ds.length hi = ds.length) : cutD ds lo hi = ds := by
  unfold cutD
  rw [h.1, h.2]
  simp
theorem b_cut {lo hi : Option Expr} {fl fh : En → Option (Option Int)} {p2 : Pos} (ha : DB X Ts e f) (hl : DP X Ts lo fl) (hh : DP X Ts hi fh) : DE X Ts (.Subscript e (.Slice lo hi none p2) pos) (fCut f fl fh) := PE.imp (pe_slice sl_seq ha hl hh) fun σ H Q ⟨He, O, en, d, rp, hf, kk⟩ => by
  unfold fCut at hf
  obtain ⟨x, h1, hf1⟩ := Option.bind_eq_some_iff.mp hf
  obtain ⟨l, h2, hf2⟩ := Option.bind_eq_some_iff.mp hf1
  obtain ⟨u, h3, h4⟩ := Option.bind_eq_some_iff.mp hf2
  clear hf hf1 hf2
  refine tB.of rp h1 fun v H1 x1 r1 q1 => ⟨He, O, en, l, r1, h2, fun H2 x2 t2 => ⟨He, O, en, u, r1.go x2 t2, h3, fun H3 x3 t3 => ?_⟩⟩
  have r3 := (r1.go x2 t2).go x3 t3
  have x13 : Xt H1 H3 := x2.trans x3
  cases x <;> simp only [gCut] at h4 <;> cases h4
  · obtain ⟨a, vs, rfl, s, qs⟩ := q1.lst
    have qs3 := DpAll.mono (hide_mono (O := O) x13) qs
    exact .inr ⟨a, vs, rfl, sqL_mono (fun o n e => x13.get _ o e n) s, fun p np => kk _ _ (x1.trans (x13.trans (Xt.upd np))) (t3.new np) (lst_new np (new_out r3.occ np) (cut_dp qs3 l u))⟩
  · rename_i ds
    rcases q1 with q1 | ⟨_, _, _, _, e, _⟩
    · cases q1 with
      | tup s0 qs =>
        rename_i a vs
        have s := sqT_mono (H' := H1) (fun o n e => (hide_some e).2) s0
        have qs3 := DpAll.mono (hide_mono (O := O) x13) qs
        refine .inl ⟨a, vs, rfl, sqT_mono (fun o n e => x13.get _ o e n) s, fun hw => ?_, fun hw p np => kk _ _ (x1.trans (x13.trans (Xt.upd np))) (t3.new np) (tup_new np (new_out r3.occ np) (cut_dp qs3 l u))⟩
        rw [DpAll.len qs] at hw
        rw [cutD_whole hw] at kk
        exact kk _ H3 (x1.trans x13) t3 (Dp.mono (hide_mono x13) (.tup s0 qs))
    · cases e
def fGcd := f2 (gI fun i j => .int ((Nat.gcd i.natAbs j.natAbs : Nat) : Int))
end
def gD (K : PySem.W.Frag) (Ts : TsT) (vs : List Nat) (b : PyData → En → Option En) : TG := fun x σ H Q => ∃ He O en d en', Rep K Ts He O σ H en ∧ Dp K (hide H O) x d ∧ b d en = some en' ∧ ∀ σ', Rep K Ts He O σ' H en' → wipe σ' vs = wipe σ vs → Q σ' H
abbrev DG (X : Cx) (Ts : TsT) (tg : Expr) (vs : List Nat) (b : PyData → En → Option En) : Prop := PG X tg (gD X.K Ts vs b)
theorem PG.imp {X : Cx} {tg : Expr} {g g' : TG} (h : PG X tg g) (w : ∀ x σ H Q, g' x σ H Q → g x σ H Q) : PG X tg g' := ⟨fun pins s σ H v u Q I r q => h.run pins s σ H v u Q I r (w v σ H Q q)⟩
def bName (i : Nat) : PyData → En → Option En := fun d en => if i < en.length then some (en.set i (.dat d)) else none
theorem Rep.setD {K : PySem.W.Frag} {Ts : TsT} {He : Hp} {O : List Addr} {σ : St} {H : Hp} {en : En} (r : Rep K Ts He O σ H en) {i : Nat} {x : V} {d : PyData} (hi : i < en.length) (q : Dp K (hide H O) x d) : Rep K Ts He O (σ.set i (some x)) H (en.set i (.dat d)) := by
  have hs : i < σ.length := by rw [← r.len]; exact hi
  refine ⟨by simp [r.len], fun j e h => ?_, fun j ds h => ?_, fun j k ds es a h1 h2 h3 h4 => ?_, r.occ, r.ext, r.tabs⟩
  · by_cases hj : i = j
    · subst hj
      rw [List.getElem?_set_self hi] at h
      cases h
      exact ⟨x, by rw [List.getElem?_set_self hs], q⟩
    · rw [List.getElem?_set_ne hj] at h
      obtain ⟨v, a, b⟩ := r.dat j e h
      exact ⟨v, by rw [List.getElem?_set_ne hj]; exact a, b⟩
  · by_cases hj : i = j
    · subst hj
      rw [List.getElem?_set_self hi] at h
      cases h
    · rw [List.getElem?_set_ne hj] at h
      obtain ⟨a, vs, h1, h2⟩ := r.own j ds h
      exact ⟨a, vs, by rw [List.getElem?_set_ne hj]; exact h1, h2⟩
  · have hj : i ≠ j := fun e => by subst e; rw [List.getElem?_set_self hi] at h1; cases h1
    have hk : i ≠ k := fun e => by subst e; rw [List.getElem?_set_self hi] at h2; cases h2
    rw [List.getElem?_set_ne hj] at h1 h3
    rw [List.getElem?_set_ne hk] at h2 h4
    exact r.inj j k ds es a h1 h2 h3 h4
theorem wipe_comm (σ : St) (i : Nat) (y : Option V) : ∀ vs : List Nat, i ∈ vs → wipe (σ.set i y) vs = wipe σ vs
  | [], h => by cases h
  | v :: vs, h => by
    unfold wipe
    by_cases hv : i ∈ vs
    · rw [wipe_comm σ i y vs hv]
    · have hvi : i = v := by
        rcases List.mem_cons.mp h with e | e
        · exact e
        · exact absurd e hv
      subst hvi
      have key : ∀ us : List Nat, i ∉ us → wipe (σ.set i y) us = (wipe σ us).set i y := by
        intro us
        induction us with
        | nil => intro _; rfl
        | cons u us ih =>
          intro hn
          have h1 : i ≠ u := fun e => hn (by rw [e]; exact List.mem_cons_self)
          have h2 : i ∉ us := fun e => hn (List.mem_cons_of_mem _ e)
          show (wipe (σ.set i y) us).set u none = ((wipe σ us).set u none).set i y
          rw [ih h2, List.set_comm _ _ h1]
      rw [key vs hv, List.set_set]
theorem wipe_in {σ : St} {i : Nat} : ∀ {vs : List Nat}, i ∈ vs → i < σ.length → (wipe σ vs)[i]? = some none
  | v :: vs, h, hl => by
    unfold wipe
    by_cases hv : v = i
    · subst hv
      rw [List.getElem?_set_self (by rw [wipe_length]; exact hl)]
    · rw [List.getElem?_set_ne hv]
      rcases List.mem_cons.mp h with e | e
      · exact absurd e.symm hv
      · exact wipe_in e hl
theorem wipe_wipe (σ : St) (vs : List Nat) : wipe (wipe σ vs) vs = wipe σ vs := by
  apply List.ext_getElem?
  intro i
  by_cases h : i ∈ vs
  · by_cases hl : i < σ.length
    · rw [wipe_in h (by rw [wipe_length]; exact hl), wipe_in h hl]
    · rw [List.getElem?_eq_none (by rw [wipe_length, wipe_length]; omega), List.getElem?_eq_none (by rw [wipe_length]; omega)]
  · rw [wipe_out h]
section
variable {X : Cx} {Ts : TsT} {pos : Pos}
theorem dg_name (i : Nat) {x : Str} {vs : List Nat} (hN : X.N.Nodup) (hi : X.N[i]? = some x) (hx : Loc X.env.scope x) (hv : i ∈ vs) (hf : X.fn x = true ∨ X.env.scope.names.lookup x = some .local := by first | exact .inl rfl | exact .inr rfl | assumption) : DG X Ts (.Name x pos) vs (bName i) :=
  PG.imp (pg_name hN hi hx hf) fun v σ H Q ⟨He, O, en, d, en', r, q, hb, kk⟩ => by
    unfold bName at hb
    split at hb
    · rename_i hl
      cases hb
      exact kk _ (r.setD hl q) (wipe_comm σ i _ vs hv)
    · cases hb
def bNames : List Nat → List PyData → En → Option En
  | [], [], en => some en
  | i :: is, d :: ds, en => (bName i d en).bind fun e => bNames is ds e
  | _, _, _ => none
def gDs (K : PySem.W.Frag) (Ts : TsT) (vs : List Nat) (is : List Nat) : TGs := fun xs σ H Q => ∃ He O en ds en', Rep K Ts He O σ H en ∧ DpAll K (hide H O) xs ds ∧ bNames is ds en = some en' ∧ ∀ σ', Rep K Ts He O σ' H en' → wipe σ' vs = wipe σ vs → Q σ' H
theorem dgs_nil {vs : List Nat} : PGs X [] (gDs X.K Ts vs []) := ⟨fun pins s σ H xs us Q I r ⟨He, O, en, ds, en', rp, q, hb, kk⟩ => by
  cases q with
  | nil =>
    cases hb
    exact pgs_nil.run pins s σ H _ us Q I r ⟨rfl, kk σ rp rfl⟩
  | cons _ _ => cases hb⟩
theorem dgs_cons {e : Expr} {es : List Expr} {vs is : List Nat} {i : Nat} (h1 : DG X Ts e vs (bName i)) (h2 : PGs X es (gDs X.K Ts vs is)) (hs : (assignEach (e :: es) X.env).map (·.2) = assign e X.env :: (assignEach es X.env).map (·.2) := by rfl) : PGs X (e :: es) (gDs X.K Ts vs (i :: is)) :=
  ⟨fun pins s σ H xs us Q I r ⟨He, O, en, ds, en', rp, q, hb, kk⟩ => by
    cases q with
    | nil => cases hb
    | cons qd qt =>
      obtain ⟨e1, hb1, hb2⟩ := Option.bind_eq_some_iff.mp hb
      exact (pgs_cons h1 h2 hs).run pins s σ H _ us Q I r ⟨_, _, rfl, He, O, en, _, e1, rp, qd, hb1, fun σ' r' w' => ⟨He, O, e1, _, en', r', qt, hb2, fun σ2 r2 w2 => kk σ2 r2 (w2.trans w')⟩⟩⟩
def bTup (is : List Nat) : PyData → En → Option En := fun d en => match d with
  | .tuple ds => bNames is ds en
  | _ => none
theorem bNames_len : ∀ {is : List Nat} {ds : List PyData} {en en' : En}, bNames is ds en = some en' → ds.length = is.length
  | [], [], _, _, _ => rfl
  | i :: is, d :: ds, en, en', h => by
    obtain ⟨e1, _, h2⟩ := Option.bind_eq_some_iff.mp h
    rw [List.length_cons, List.length_cons, bNames_len h2]
  | [], _ :: _, _, _, h => by cases h
  | _ :: _, [], _, _, h => by cases h
theorem dg_tup {es : List Expr} {k : Nat} {vs is : List Nat} (hc : X.calm = true) (h : PGs X es (gDs X.K Ts vs is)) (hn : (assignEach es X.env).length = is.length := by rfl) (hst : (assignEach es X.env).findIdx? (·.1) = none := by rfl) : DG X Ts (.Tuple es k pos) vs (bTup is) :=
  PG.imp (pg_tup hc h hn hst) fun v σ H Q ⟨He, O, en, d, en', r, q, hb, kk⟩ => by
    cases d <;> try cases hb
    rename_i ds
    cases q with
    | tup s a =>
      exact ⟨_, _, rfl, sqT_mono (fun o n e => (hide_some e).2) s, by rw [DpAll.len a]; exact bNames_len hb, He, O, en, ds, en', r, a, hb, kk⟩
def Gives (K : PySem.W.Frag) (Ts : TsT) (J : It) (ds : List PyData) (H1 : Hp) (O : List Addr) : Prop :=
  ∀ O' H2, Xt (hide H1 O) (hide H2 O') → Xt (hide H1 O) H2 → (∀ b ∈ O', H2 b ≠ none ∧ ∀ ps, H2 b ≠ some (.tbl ps)) → (∀ i, i < ds.length → J.go i H2) ∧ J.stop ds.length H2 ∧
    ∀ i x H3, i < ds.length → J.yld i H2 x H3 → ∃ d, ds[i]? = some d ∧ Xt H2 H3 ∧ (Tb Ts H2 → Tb Ts H3) ∧ Dp K (hide H3 O') x d
def tI (K : PySem.W.Frag) (Ts : TsT) (f : En → Option (List PyData)) : TI := fun σ H R => ∃ He O en ds, Rep K Ts He O σ H en ∧ f en = some ds ∧ ∀ J H1, Xt H H1 → Tb Ts H1 → Gives K Ts J ds H1 O → R J H1
abbrev DI (X : Cx) (Ts : TsT) (tg iter : Expr) (f : En → Option (List PyData)) : Prop := PI X tg iter (tI X.K Ts f)
theorem PI.imp {X : Cx} {tg iter : Expr} {t t' : TI} (h : PI X tg iter t) (w : ∀ σ H R, t' σ H R → t σ H R) : PI X tg iter t' := ⟨fun pins s σ H R I q => h.run pins s σ H R I (w σ H R q)⟩
variable {tg e e2 : Expr} {f f2 : En → Option PyData}
def rangeD (lo : Int) (n : Nat) : List PyData := (List.range n).map fun (i : Nat) => PyData.int (lo + (i : Int))
def iRange1 (f : En → Option PyData) : En → Option (List PyData) := fun en => match f en with
  | some (.int j) => if -1000000 ≤ j ∧ j ≤ 1000000 then some (rangeD 0 j.toNat) else none
  | _ => none
theorem gives_range {K : PySem.W.Frag} {lo : Int} {n : Nat} {H1 : Hp} {O : List Addr} : Gives K Ts (Itr lo n) (rangeD lo n) H1 O := fun O' H2 _ _ _ => by
  have hl : (rangeD lo n).length = n := by simp [rangeD]
  refine ⟨fun i hi => by rw [hl] at hi; exact hi, by rw [hl]; exact Nat.le_refl _, fun i x H3 hi hy => ?_⟩
  obtain ⟨rfl, rfl⟩ := hy
  rw [hl] at hi
  exact ⟨.int (lo + i), by simp [rangeD, hi], Xt.refl _, id, .int _⟩
theorem di_range1 {p pos : Pos} (hg : Gl X "range") (hm : X.mg "range" = none) (ha : DE X Ts e f) (hs : starEach [e] X.env = [(false, eval e X.env)] := by rfl) : DI X Ts tg (.Call (.Name "range" p) [e] [] pos) (iRange1 f) :=
  PI.imp (pi_range1 (ta := tCons (tD X.K Ts f) tNil) hg hm (pa_cons ha pa_nil hs) hs) fun σ H R ⟨He, O, en, ds, rp, hf, kk⟩ => by
    unfold iRange1 at hf
    split at hf
    · rename_i j e
      split at hf
      · rename_i hj
        cases hf
        refine tD.of rp e fun v H1 x1 r1 q1 => ?_
        cases q1
        exact ⟨j, rfl, by omega, by omega, kk _ H1 x1 r1.tabs gives_range⟩
      · cases hf
    · cases hf
def wipeE (en : En) : List Nat → En
  | [] => en
  | v :: vs => (wipeE en vs).set v .no
theorem Rep.wipe {K : PySem.W.Frag} {He : Hp} {O : List Addr} {σ : St} {H : Hp} {en : En} (r : Rep K Ts He O σ H en) : ∀ vs : List Nat, Rep K Ts He O (L2.wipe σ vs) H (wipeE en vs)
  | [] => r
  | v :: vs => by
    have ih := Rep.wipe r vs
    show Rep K Ts He O ((L2.wipe σ vs).set v none) H ((wipeE en vs).set v .no)
    refine ⟨by simp [ih.len], fun j e h => ?_, fun j ds h => ?_, fun j k ds es a h1 h2 h3 h4 => ?_, ih.occ, ih.ext, ih.tabs⟩
    · have hj : v ≠ j := fun z => by
        subst z
        by_cases hl : v < (wipeE en vs).length
        · rw [List.getElem?_set_self hl] at h; cases h
        · rw [List.getElem?_eq_none (by simpa using hl)] at h; cases h
      rw [List.getElem?_set_ne hj] at h ⊢
      exact ih.dat j e h
    · have hj : v ≠ j := fun z => by
        subst z
        by_cases hl : v < (wipeE en vs).length
        · rw [List.getElem?_set_self hl] at h; cases h
        · rw [List.getElem?_eq_none (by simpa using hl)] at h; cases h
      rw [List.getElem?_set_ne hj] at h ⊢
      exact ih.own j ds h
    · have hno : ∀ i ds, ((wipeE en vs).set v Slot.no)[i]? = some (Slot.own ds) → v ≠ i := fun i ds h z => by
        subst z
        by_cases hl : v < (wipeE en vs).length
        · rw [List.getElem?_set_self hl] at h; cases h
        · rw [List.getElem?_eq_none (by simpa using hl)] at h; cases h
      have hj := hno j ds h1
      have hk := hno k es h2
      rw [List.getElem?_set_ne hj] at h1 h3
      rw [List.getElem?_set_ne hk] at h2 h4
      exact ih.inj j k ds es a h1 h2 h3 h4
def lcGo (b : PyData → En → Option En) (t : En → Option Bool) (f : En → Option PyData) (en : En) : List PyData → Option (List PyData)
  | [] => some []
  | d :: r => (b d en).bind fun e1 => (t e1).bind fun k => if k = true then (f e1).bind fun y => (lcGo b t f en r).map (y :: ·) else lcGo b t f en r
def fLc (it : En → Option (List PyData)) (b : PyData → En → Option En) (t : En → Option Bool) (f : En → Option PyData) (vs : List Nat) : En → Option PyData := fun en => (it en).bind fun ds =>
  if ds.length ≤ 1000000 then (lcGo b t f (wipeE en vs) ds).map .list else none
def kYes : En → Option Bool := fun _ => some true
theorem dts_nil : PTs X [] (tT X.K Ts kYes) := ⟨fun pins s σ H Q I ⟨He, O, en, b, rp, hf, kk⟩ => by
  cases hf
  exact pts_nil.run pins s σ H Q I (kk H (Xt.refl H) rp.tabs)⟩
theorem dts_one {c : Expr} {t : En → Option Bool} (h : DT X Ts c t) : PTs X [c] (tT X.K Ts t) := pts_one h
def tNew (K : PySem.W.Frag) (Ts : TsT) (f : En → Option PyData) : TE := fun σ H Q => ∃ He O en ds, Rep K Ts He O σ H en ∧ f en = some (.list ds) ∧ ∀ a vs H', Xt H H' → Tb Ts H' → H a = none → H' a = some (.lst vs) → DpAll K (hide H' (a :: O)) vs ds → Q (.ref a) H'
abbrev DNew (X : Cx) (Ts : TsT) (e : Expr) (f : En → Option PyData) : Prop := PE X e (tNew X.K Ts f)
theorem Rep.free {K : PySem.W.Frag} {He : Hp} {O : List Addr} {σ : St} {H : Hp} {en : En} (r : Rep K Ts He O σ H en) {a : Addr} (h : H a = none) : a ∉ O := fun z => (r.occ a z).1 h
theorem new_w {K : PySem.W.Frag} {f : En → Option PyData} {σ : St} {H : Hp} {Q : VK} (h : tD K Ts f σ H Q) (hl : ∀ en d, f en = some d → ∃ ds, d = .list ds) : tNew K Ts f σ H Q := by
  obtain ⟨He, O, en, d, rp, hf, kk⟩ := h
  obtain ⟨ds, rfl⟩ := hl en d hf
  exact ⟨He, O, en, ds, rp, hf, fun a vs H' x t na ha q => kk _ H' x t (.lst (.inl (.inl (hide_of (rp.free na) ha))) (DpAll.mono (hide_sub fun b hb => List.mem_cons_of_mem _ hb) q))⟩
theorem fLc_list {it : En → Option (List PyData)} {b : PyData → En → Option En} {t : En → Option Bool} {f : En → Option PyData} {vs : List Nat} : ∀ en d, fLc it b t f vs en = some d → ∃ ds, d = .list ds := fun en d h => by
  unfold fLc at h
  obtain ⟨ds, _, h⟩ := Option.bind_eq_some_iff.mp h
  split at h
  · obtain ⟨out, _, rfl⟩ := Option.map_eq_some_iff.mp h
    exact ⟨out, rfl⟩
  · cases h
theorem lc_w {K : PySem.W.Frag} {it : En → Option (List PyData)} {b : PyData → En → Option En} {t : En → Option Bool} {f : En → Option PyData} {vs : List Nat} {σ : St} {H : Hp} {Q : VK} (h : tNew K Ts (fLc it b t f vs) σ H Q) :
    tLc (tI K Ts it) (gD K Ts vs b) (tT K Ts t) (tD K Ts f) vs σ H Q := by
  obtain ⟨He, O, en, out, rp, hf, kk⟩ := h
  unfold fLc at hf
  obtain ⟨ds, h1, hf1⟩ := Option.bind_eq_some_iff.mp hf
  clear hf
  split at hf1
  · rename_i hlen
    obtain ⟨out', h2, h3⟩ := Option.map_eq_some_iff.mp hf1
    cases h3
    refine ⟨He, O, en, ds, rp, h1, fun J H1 x1 t1 gv D nD => ?_⟩
    have nDH : H D = none := x1.there nD
    have r1 := rp.go x1 t1
    have rD : Rep K Ts He (D :: O) σ (upd H1 D (.lst [])) en := r1.hid nD (fun _ z => nomatch z)
    refine ⟨fun i m H2 => m = ds.length - i ∧ i ≤ ds.length ∧ Xt H1 H2 ∧ Rep K Ts He (D :: O) (L2.wipe σ vs) H2 (wipeE en vs) ∧ ∃ acc done rest, H2 D = some (.lst acc) ∧ DpAll K (hide H2 (D :: O)) acc done ∧ acc.length ≤ i ∧ lcGo b t f (wipeE en vs) (ds.drop i) = some rest ∧ out = done ++ rest,
      ⟨ds.length, by simp, Nat.zero_le _, Xt.upd nD, rD.wipe vs, [], [], out, upd_same, .nil, Nat.zero_le _, by simpa using h2, rfl⟩, fun i m H2 hW => ?_⟩
    obtain ⟨rfl, hi, x12, r2, acc, done, rest, hD, ha, hal, hgo, hout⟩ := hW
    have xh : Xt (hide H1 O) (hide H2 (D :: O)) := fun b o e => by
      obtain ⟨e1, e2⟩ := hide_some e
      have nb : b ∉ D :: O := fun z => by
        rcases List.mem_cons.mp z with z | z
        · rw [z, nD] at e2; cases e2
        · exact e1 z
      rcases x12 b o e2 with q | ⟨ps, qs, e3, q⟩
      · exact .inl (hide_of nb q)
      · exact .inr ⟨ps, qs, e3, hide_of nb q⟩
    obtain ⟨g1, g2, g3⟩ := gv (D :: O) H2 xh (hide_out.trans x12) r2.occ
    by_cases hlt : i < ds.length
    · refine .inr ⟨g1 i hlt, fun H' => Xt H1 H' ∧ Rep K Ts He (D :: O) (L2.wipe σ vs) H' (wipeE en vs) ∧ ∃ acc done rest, H' D = some (.lst acc) ∧ DpAll K (hide H' (D :: O)) acc done ∧ acc.length ≤ i + 1 ∧ lcGo b t f (wipeE en vs) (ds.drop (i + 1)) = some rest ∧ out = done ++ rest,
        fun H' ⟨a, c⟩ => ⟨ds.length - (i + 1), by omega, rfl, hlt, a, c⟩, fun x H3 hy => ?_⟩
      obtain ⟨d, hd, x23, t23, qd⟩ := g3 i x H3 hlt hy
      have r3 := r2.go x23 (t23 r2.tabs)
      rw [List.drop_eq_getElem_cons hlt] at hgo
      have hd' : ds[i] = d := by rw [List.getElem?_eq_getElem hlt] at hd; exact Option.some.inj hd
      rw [hd'] at hgo
      unfold lcGo at hgo
      obtain ⟨e1, hb, hgo1⟩ := Option.bind_eq_some_iff.mp hgo
      obtain ⟨k, ht, hgo2⟩ := Option.bind_eq_some_iff.mp hgo1
      clear hgo hgo1
      refine ⟨He, D :: O, _, d, e1, r3, qd, hb, fun σ2 r4 hw => ⟨hw.trans (wipe_wipe _ _), ?_⟩⟩
      refine tT.of r4 ht fun H4 x34 r5 => ?_
      have x14 : Xt H2 H4 := x23.trans x34
      have hD4 : H4 D = some (.lst acc) := x14.get D _ hD (fun _ z => nomatch z)
      have ha4 := DpAll.mono (hide_mono (O := D :: O) x14) ha
      have rw4 : Rep K Ts He (D :: O) (L2.wipe σ vs) H4 (wipeE en vs) := r2.go x14 r5.tabs
      cases k with
      | false =>
        simp only [Bool.false_eq_true, if_false] at hgo2 ⊢
        exact ⟨x12.trans x14, rw4, acc, done, rest, hD4, ha4, by omega, hgo2, hout⟩
      | true =>
        simp only [if_true] at hgo2 ⊢
        obtain ⟨y, hy1, hgo3⟩ := Option.bind_eq_some_iff.mp hgo2
        obtain ⟨rest', hr1, hr2⟩ := Option.map_eq_some_iff.mp hgo3
        subst hr2
        refine tD.of r5 hy1 fun v H5 x45 r6 q6 => ?_
        have x25 : Xt H2 H5 := x14.trans x45
        have hD5 : H5 D = some (.lst acc) := x25.get D _ hD (fun _ z => nomatch z)
        have ha5 := DpAll.mono (hide_mono (O := D :: O) x25) ha
        have hDm : D ∈ D :: O := List.mem_cons_self
        have hu : Xt (hide H5 (D :: O)) (hide (upd H5 D (.lst (acc ++ [v]))) (D :: O)) := hide_upd hDm
        refine ⟨acc, hD5, by rw [sizeLine_eq]; omega, ?_, ?_, acc ++ [v], done ++ [y], rest', upd_same, DpAll.app (DpAll.mono hu ha5) (.cons (Dp.mono hu q6) .nil), by rw [List.length_append]; simp; omega, hr1, by rw [hout]; simp⟩
        · intro b o e
          have hne : b ≠ D := ne_of_none e nD
          rw [upd_ne hne]
          exact (x12.trans x25) b o e
        · have rw5 : Rep K Ts He (D :: O) (L2.wipe σ vs) H5 (wipeE en vs) := r2.go x25 r6.tabs
          have nown : ∀ j es a, (wipeE en vs)[j]? = some (Slot.own es) → (L2.wipe σ vs)[j]? = some (some (V.ref a)) → a ≠ D := fun j es a h1 h2 z => by
            obtain ⟨a', vs', g1, g2, g3, g4, _⟩ := (r1.wipe vs).own j es h1
            rw [h2] at g1
            cases g1
            rw [z, nD] at g4
            cases g4
          refine ⟨rw5.len, fun j dd h => let ⟨u, p, q⟩ := rw5.dat j dd h; ⟨u, p, Dp.mono hu q⟩, fun j es h => ?_, rw5.inj, fun bb hb => ?_, ?_, rw5.tabs.upd fun u z => by rw [hD5] at z; cases z; exact lst_noc⟩
          · obtain ⟨a, ws, p1, p2, p3, p4, p5⟩ := rw5.own j es h
            exact ⟨a, ws, p1, p2, p3, by rw [upd_ne (nown j es a h p1)]; exact p4, DpAll.mono hu p5⟩
          · by_cases z : bb = D
            · rw [z, upd_same]
              exact ⟨by simp, fun ps q => nomatch q⟩
            · rw [upd_ne z]
              exact rw5.occ bb hb
          · intro bb o e
            have e1 := rw5.ext bb o e
            have hne : bb ≠ D := fun z => by
              have := (rp.ext.trans x1).there (b := bb) (by rw [z]; exact nD)
              rw [this] at e
              cases e
            rw [upd_ne hne]
            exact e1
    · have hie : i = ds.length := by omega
      subst hie
      rw [List.drop_of_length_le (Nat.le_refl _)] at hgo
      cases hgo
      rw [List.append_nil] at hout
      subst hout
      exact .inl ⟨g2, kk D acc H2 (x1.trans x12) r2.tabs nDH hD ha⟩
  · cases hf1
end
abbrev BX (X : Cx) (scope : Scope) (s : Shared) (H : Hp) (C : Addr) (cl : List (Str × Addr)) (fp : List Addr) : Cx := X.blk s H scope (compEnvC scope cl C X.env) fp
section
variable {X : Cx} {Ts : TsT} {pos : Pos} {elt tg iter : Expr} {ifs : List Expr} {scope : Scope} {own : List (Str × Nat)} {it : En → Option (List PyData)} {b : PyData → En → Option En} {t : En → Option Bool} {f : En → Option PyData}
theorem n_lc (hc : X.calm = true) (hN : X.N.Nodup) (hi : DI X Ts tg iter it) (ok : BlkOk X.N X.env.scope scope own)
    (hg : ∀ s H C cl fp, DG (BX X scope s H C cl fp) Ts tg (own.map (·.2)) b) (ht : ∀ s H C cl fp, PTs (BX X scope s H C cl fp) ifs (tT X.K Ts t))
    (he : ∀ s H C cl fp, DE (BX X scope s H C cl fp) Ts elt f) (hs : ∀ x, foldedSetIterable iter X.env x = pure x := by intro _; rfl) : DNew X Ts (.ListComp elt [⟨tg, iter, ifs, 0⟩] scope pos) (fLc it b t f (own.map (·.2))) :=
  PE.imp (pe_lc hc hN hi ok (fun s H C cl fp => hg s H C cl fp) (fun s H C cl fp => ht s H C cl fp) (fun s H C cl fp => he s H C cl fp) hs) fun σ H Q h => lc_w h
theorem d_lc (hc : X.calm = true) (hN : X.N.Nodup) (hi : DI X Ts tg iter it) (ok : BlkOk X.N X.env.scope scope own)
    (hg : ∀ s H C cl fp, DG (BX X scope s H C cl fp) Ts tg (own.map (·.2)) b) (ht : ∀ s H C cl fp, PTs (BX X scope s H C cl fp) ifs (tT X.K Ts t))
    (he : ∀ s H C cl fp, DE (BX X scope s H C cl fp) Ts elt f) (hs : ∀ x, foldedSetIterable iter X.env x = pure x := by intro _; rfl) : DE X Ts (.ListComp elt [⟨tg, iter, ifs, 0⟩] scope pos) (fLc it b t f (own.map (·.2))) :=
  PE.imp (n_lc hc hN hi ok hg ht he hs) fun σ H Q h => new_w h fLc_list
def NoOwn (D : Addr) (τ : St) (en : En) : Prop := ∀ (j : Nat) (es : List PyData) (a : Addr), en[j]? = some (Slot.own es) → τ[j]? = some (some (V.ref a)) → a ≠ D
theorem wipeE_own {en : En} {vs : List Nat} {j : Nat} {es : List PyData} (h : (wipeE en vs)[j]? = some (Slot.own es)) : en[j]? = some (Slot.own es) ∧ j ∉ vs := by
  induction vs with
  | nil => exact ⟨h, by simp⟩
  | cons v vs ih =>
    have h : ((wipeE en vs).set v .no)[j]? = some (Slot.own es) := h
    have hj : v ≠ j := fun z => by
      subst z
      by_cases hl : v < (wipeE en vs).length
      · rw [List.getElem?_set_self hl] at h; cases h
      · rw [List.getElem?_eq_none (by simpa using hl)] at h; cases h
    rw [List.getElem?_set_ne hj] at h
    obtain ⟨h1, h2⟩ := ih h
    exact ⟨h1, by simp only [List.mem_cons, not_or]; exact ⟨fun e => hj e.symm, h2⟩⟩
theorem NoOwn.wipe {D : Addr} {τ : St} {en : En} (h : NoOwn D τ en) (vs : List Nat) : NoOwn D (L2.wipe τ vs) (wipeE en vs) := fun j es a h1 h2 => by
  obtain ⟨h3, h4⟩ := wipeE_own h1
  rw [wipe_out h4] at h2
  exact h j es a h3 h2
def allGo (ev : Bool) (b : PyData → En → Option En) (f : En → Option PyData) (en : En) : List PyData → Option PyData
  | [] => some (.bool ev)
  | d :: r => (b d en).bind fun e1 => match f e1 with
    | some (.bool k) => if k = ev then allGo ev b f en r else some (.bool k)
    | _ => none
def fAll (ev : Bool) (it : En → Option (List PyData)) (b : PyData → En → Option En) (f : En → Option PyData) (vs : List Nat) : En → Option PyData := fun en => (it en).bind fun ds => allGo ev b f (wipeE en vs) ds
theorem all_w {K : PySem.W.Frag} {ev : Bool} {P : Addr} {vs : List Nat} {σ : St} {H : Hp} {Q : VK} (hP : P ∈ Ts.gs) (h : tD K Ts (fAll ev it b f vs) σ H Q) : GA.tGen ev P (tI K Ts it) (gD K Ts vs b) (tD K Ts f) vs σ H Q := by
  obtain ⟨He, O, en, d0, rp, hf, kk⟩ := h
  unfold fAll at hf
  obtain ⟨ds, h1, h2⟩ := Option.bind_eq_some_iff.mp hf
  clear hf
  refine ⟨He, O, en, ds, rp, h1, fun J H1 x1 t1 gv => ⟨t1.1 P hP, fun Hn tb => ?_⟩⟩
  have xn : Xt H1 Hn := fun bb o e => by
    by_cases z : bb = P
    · obtain ⟨ps, e1, _⟩ := t1.1 P hP
      obtain ⟨qs, e2, _⟩ := tb.1
      rw [z] at e ⊢
      rw [e1] at e
      cases e
      exact .inr ⟨ps, qs, rfl, e2⟩
    · rw [tb.2 bb z]
      exact .inl e
  have tn : Tb Ts Hn := by
    refine ⟨fun P' hP' => ?_, fun P' hP' => ?_, t1.2.2⟩
    · by_cases z : P' = P
      · rw [z]; exact tb.1
      · obtain ⟨ps, e1, e2⟩ := t1.1 P' hP'
        exact ⟨ps, by rw [tb.2 P' z]; exact e1, e2⟩
    · have z : P'.1 ≠ P := fun z => (t1.2.2 P' hP').1 (by rw [z]; exact hP)
      obtain ⟨ps, e1, e2, e3⟩ := t1.2.1 P' hP'
      refine ⟨ps, by rw [tb.2 P'.1 z]; exact e1, e2, fun pos cv hc => ?_⟩
      obtain ⟨c, c1, c2⟩ := e3 pos cv hc
      refine ⟨c, c1, ?_⟩
      rw [tb.2 c (fun y => by
        obtain ⟨qs, q1, _⟩ := t1.1 P hP
        rw [y, q1] at c2
        unfold LamX.CodeO at c2
        cases c2)]
      exact c2
  refine ⟨fun i m H2 => m = ds.length - i ∧ i ≤ ds.length ∧ Xt H1 H2 ∧ Rep K Ts He O (L2.wipe σ vs) H2 (wipeE en vs) ∧ allGo ev b f (wipeE en vs) (ds.drop i) = some d0,
    ⟨ds.length, by simp, Nat.zero_le _, xn, ((rp.go x1 t1).go xn tn).wipe vs, by simpa using h2⟩, fun i m H2 hW => ?_⟩
  obtain ⟨rfl, hi, x12, r2, hgo⟩ := hW
  obtain ⟨g1, g2, g3⟩ := gv O H2 (hide_mono x12) (hide_out.trans x12) r2.occ
  by_cases hlt : i < ds.length
  · refine .inr ⟨g1 i hlt, fun H' => Xt H1 H' ∧ Rep K Ts He O (L2.wipe σ vs) H' (wipeE en vs) ∧ allGo ev b f (wipeE en vs) (ds.drop (i + 1)) = some d0, fun H' ⟨a, c⟩ => ⟨ds.length - (i + 1), by omega, rfl, hlt, a, c⟩, fun x H3 hy => ?_⟩
    obtain ⟨d, hd, x23, t23, qd⟩ := g3 i x H3 hlt hy
    have r3 := r2.go x23 (t23 r2.tabs)
    rw [List.drop_eq_getElem_cons hlt] at hgo
    have hd' : ds[i] = d := by rw [List.getElem?_eq_getElem hlt] at hd; exact Option.some.inj hd
    rw [hd'] at hgo
    unfold allGo at hgo
    obtain ⟨e1, hb, hgo1⟩ := Option.bind_eq_some_iff.mp hgo
    clear hgo
    refine ⟨He, O, _, d, e1, r3, qd, hb, fun σ2 r4 hw => ⟨hw.trans (wipe_wipe _ _), ?_⟩⟩
    split at hgo1
    · rename_i k hk
      refine tD.of r4 hk fun v H4 x34 r5 q5 => ?_
      cases q5
      refine ⟨k, rfl, ?_⟩
      by_cases hke : k = ev
      · rw [if_pos hke] at hgo1 ⊢
        exact ⟨x12.trans (x23.trans x34), r2.go (x23.trans x34) r5.tabs, hgo1⟩
      · rw [if_neg hke] at hgo1 ⊢
        cases hgo1
        exact kk _ H4 (x1.trans (x12.trans (x23.trans x34))) r5.tabs (.bl _)
    · cases hgo1
  · have hie : i = ds.length := by omega
    subst hie
    rw [List.drop_of_length_le (Nat.le_refl _)] at hgo
    cases hgo
    exact .inl ⟨g2, kk _ H2 (x1.trans x12) r2.tabs (.bl _)⟩
abbrev GX (X : Cx) (scope : Scope) (s : Shared) (H : Hp) (cl : List (Str × Addr)) (C : Addr) (code : Value) (fp : List Addr) (pn : List (Addr × Obj)) : Cx := GA.gCx X s H (genEnv scope cl C code builtinsNs X.env) fp pn
theorem d_all {c P : Addr} {p gpos : Pos} {k : Nat} (hr : Room k X.A) (hgl : Gl X "all") (hm : X.mg "all" = none) (hb : bootBuiltins "all" = some (.builtin "all")) (TB : LamX.TabB X.base X.mg c P) (hP : P ∈ Ts.gs) (hcode : X.env.code = .ref c) (hc : X.calm = true) (hN : X.N.Nodup)
    (hi : DI X Ts tg iter it) (ok : BlkOk X.N X.env.scope scope own) (gk : GA.GenK scope) (hg : ∀ s H cl C code fp pn, DG (GX X scope s H cl C code fp pn) Ts tg (own.map (·.2)) b) (he : ∀ s H cl C code fp pn, DE (GX X scope s H cl C code fp pn) Ts elt f)
    (hs : ∀ v, genFold iter X.env v = pure v := by intro _; rfl) (hst : starEach [.GeneratorExp elt [⟨tg, iter, [], 0⟩] scope gpos] X.env = (false, eval (.GeneratorExp elt [⟨tg, iter, [], 0⟩] scope gpos) X.env) :: starEach [] X.env := by rfl) :
    DE X Ts (.Call (.Name "all" p) [.GeneratorExp elt [⟨tg, iter, [], 0⟩] scope gpos] [] pos) (fAll true it b f (own.map (·.2))) :=
  PE.imp (GA.pe_allG hr hgl hm hb TB hcode hc hN hi ok gk (fun s H cl C code fp pn => hg s H cl C code fp pn) (fun s H cl C code fp pn => he s H cl C code fp pn) hs hst) fun σ H Q h => all_w hP h
end
inductive Fl where
  | nx (en : En) | rt (d : PyData) | bk (en : En) | ct (en : En)
def RepS (K : PySem.W.Frag) (Ts : TsT) (He : Hp) (O₀ : List Addr) (Vz : Hp) (σ : St) (H : Hp) (en : En) : Prop := ∃ O, (∀ b ∈ O₀, b ∈ O) ∧ (∀ b ∈ O₀, He b ≠ none) ∧ Rep K Ts He O σ H en ∧ Xt Vz (hide H O)
def Post (K : PySem.W.Frag) (Ts : TsT) (He : Hp) (O₀ : List Addr) (Vz : Hp) (D : Ends) : Fl → Prop
  | .nx en => ∀ σ' H', RepS K Ts He O₀ Vz σ' H' en → D.nx σ' H'
  | .rt d => ∀ v H', Xt He H' → Tb Ts H' → Dp K (hide H' O₀) v d → D.rt v H'
  | .bk en => ∀ σ' H', RepS K Ts He O₀ Vz σ' H' en → D.bk σ' H'
  | .ct en => ∀ σ' H', RepS K Ts He O₀ Vz σ' H' en → D.ct σ' H'
def tS (K : PySem.W.Frag) (Ts : TsT) (F : En → Option Fl) : TS := fun D σ H => ∃ He O₀ Vz en r, RepS K Ts He O₀ Vz σ H en ∧ F en = some r ∧ Post K Ts He O₀ Vz D r
abbrev DS (X : Cx) (Ts : TsT) (st : Stmt) (F : En → Option Fl) : Prop := PS X st (tS X.K Ts F)
abbrev DSs (X : Cx) (Ts : TsT) (st : List Stmt) (F : En → Option Fl) : Prop := PSs X st (tS X.K Ts F)
theorem RepS.go {K : PySem.W.Frag} {Ts : TsT} {He : Hp} {O₀ : List Addr} {σ : St} {H H' : Hp} {en : En} {Vz : Hp} (r : RepS K Ts He O₀ Vz σ H en) (x : Xt H H') (t : Tb Ts H') : RepS K Ts He O₀ Vz σ H' en :=
  let ⟨O, a, b, c, d⟩ := r; ⟨O, a, b, c.go x t, d.trans (hide_mono x)⟩
def sSeq (F G : En → Option Fl) : En → Option Fl := fun en => match F en with
  | some (.nx e) => G e
  | r => r
def sNil : En → Option Fl := fun en => some (.nx en)
def sSet (i : Nat) (f : En → Option PyData) : En → Option Fl := fun en => (f en).bind fun d => (bName i d en).map .nx
def sBind (b : PyData → En → Option En) (f : En → Option PyData) : En → Option Fl := fun en => (f en).bind fun d => (b d en).map .nx
def sOwn (i : Nat) (f : En → Option PyData) : En → Option Fl := fun en => match f en with
  | some (.list ds) => if i < en.length then some (.nx (en.set i (.own ds))) else none
  | _ => none
def sApp (i : Nat) (f : En → Option PyData) : En → Option Fl := fun en => (f en).bind fun d => match en[i]? with
  | some (.own ds) => if ds.length ≤ 1000000 then some (.nx (en.set i (.own (ds ++ [d])))) else none
  | _ => none
def sRel (i : Nat) : En → Option Fl := fun en => match en[i]? with
  | some (.own ds) => some (.nx (en.set i (.dat (.list ds))))
  | _ => none
def sIf (t : En → Option Bool) (F G : En → Option Fl) : En → Option Fl := fun en => match t en with
  | some true => F en
  | some false => G en
  | none => none
def sRet (f : En → Option PyData) : En → Option Fl := fun en => (f en).map .rt
def sExpr (f : En → Option PyData) : En → Option Fl := fun en => (f en).map fun _ => .nx en
def sNever : En → Option Fl := fun _ => none
def forGo (b : PyData → En → Option En) (F : En → Option Fl) : List PyData → En → Option Fl
  | [], en => some (.nx en)
  | d :: r, en => (b d en).bind fun e1 => match F e1 with
    | some (.nx e2) => forGo b F r e2
    | some (.ct e2) => forGo b F r e2
    | some (.bk e2) => some (.nx e2)
    | some (.rt v) => some (.rt v)
    | none => none
def sFor (it : En → Option (List PyData)) (b : PyData → En → Option En) (F : En → Option Fl) : En → Option Fl := fun en => (it en).bind fun ds => forGo b F ds en
def whGo (t : En → Option Bool) (F : En → Option Fl) : Nat → En → Option Fl
  | 0, _ => none
  | n + 1, en => match t en with
    | some true => match F en with
      | some (.nx e2) => whGo t F n e2
      | some (.ct e2) => whGo t F n e2
      | some (.bk e2) => some (.nx e2)
      | some (.rt v) => some (.rt v)
      | none => none
    | some false => some (.nx en)
    | none => none
def sWhile (n : En → Nat) (t : En → Option Bool) (F : En → Option Fl) : En → Option Fl := fun en => whGo t F (n en) en
def sPar (i j : Nat) (f g : En → Option PyData) : En → Option Fl := fun en => (f en).bind fun x => (g en).bind fun y => (bName i x en).bind fun e1 => (bName j y e1).map .nx
section
variable {X : Cx} {Ts : TsT} {pos : Pos} {st : Stmt} {rest : List Stmt} {F G : En → Option Fl} {e : Expr} {f g : En → Option PyData}
theorem s_nil : DSs X Ts [] sNil := PSs.imp pss_nil fun D σ H ⟨He, O₀, Vz, en, r, rp, hf, k⟩ => by
  cases hf
  exact k σ H rp
theorem s_cons (h1 : DS X Ts st F) (h2 : DSs X Ts rest G) : DSs X Ts (st :: rest) (sSeq F G) := PSs.imp (pss_cons h1 h2) fun D σ H ⟨He, O₀, Vz, en, r, rp, hf, k⟩ => by
  unfold sSeq at hf
  split at hf
  · rename_i e1 h
    exact ⟨He, O₀, Vz, en, _, rp, h, fun σ' H' r' => ⟨He, O₀, Vz, e1, r, r', hf, k⟩⟩
  · rename_i hn
    refine ⟨He, O₀, Vz, en, r, rp, hf, ?_⟩
    cases r with
    | nx e1 => exact absurd hf (hn e1)
    | rt d => exact k
    | bk e1 => exact k
    | ct e1 => exact k
theorem s_one (h1 : DS X Ts st F) : DSs X Ts [st] F := pss_one h1
theorem s_rel (i : Nat) (h : DSs X Ts rest G) : DSs X Ts rest (sSeq (sRel i) G) := PSs.imp h fun D σ H ⟨He, O₀, Vz, en, r, rp, hf, k⟩ => by
  unfold sSeq sRel at hf
  split at hf
  · rename_i e1 h1
    split at h1
    · rename_i ds hd
      cases h1
      refine ⟨He, O₀, Vz, _, r, ?_, hf, k⟩
      obtain ⟨O, a1, a2, rp, xv⟩ := rp
      obtain ⟨a, vs, p1, p2, p3, p4, p5⟩ := rp.own i ds hd
      have hi : i < en.length := (List.getElem?_eq_some_iff.mp hd).1
      have hsub : ∀ b ∈ O.filter (fun b => decide (b ≠ a)), b ∈ O := fun b hb => (List.mem_filter.mp hb).1
      have nA : a ∉ O.filter (fun b => decide (b ≠ a)) := fun z => by simpa using (List.mem_filter.mp z).2
      have hs : Xt (hide H O) (hide H (O.filter (fun b => decide (b ≠ a)))) := hide_sub hsub
      refine ⟨O.filter (fun b => decide (b ≠ a)), fun b hb => List.mem_filter.mpr ⟨a1 b hb, decide_eq_true fun z => a2 b hb (by rw [z]; exact p3)⟩, a2, ⟨by simp [rp.len], fun j d h => ?_, fun j es h => ?_, fun j k es es' aa h1 h2 h3 h4 => ?_, fun b hb => rp.occ b (hsub b hb), rp.ext, rp.tabs⟩, xv.trans hs⟩
      · by_cases hj : i = j
        · subst hj
          rw [List.getElem?_set_self hi] at h
          cases h
          exact ⟨.ref a, p1, .lst (.inl (.inl (hide_of nA p4))) (DpAll.mono hs p5)⟩
        · rw [List.getElem?_set_ne hj] at h
          obtain ⟨v, q1, q2⟩ := rp.dat j d h
          exact ⟨v, q1, Dp.mono hs q2⟩
      · have hj : i ≠ j := fun z => by subst z; rw [List.getElem?_set_self hi] at h; cases h
        rw [List.getElem?_set_ne hj] at h
        obtain ⟨a', vs', q1, q2, q3, q4, q5⟩ := rp.own j es h
        refine ⟨a', vs', q1, List.mem_filter.mpr ⟨q2, decide_eq_true fun z => hj ?_⟩, q3, q4, DpAll.mono hs q5⟩
        subst z
        exact rp.inj i j ds es a' hd h p1 q1
      · have hj : i ≠ j := fun z => by subst z; rw [List.getElem?_set_self hi] at h1; cases h1
        have hk : i ≠ k := fun z => by subst z; rw [List.getElem?_set_self hi] at h2; cases h2
        rw [List.getElem?_set_ne hj] at h1
        rw [List.getElem?_set_ne hk] at h2
        exact rp.inj j k es es' aa h1 h2 h3 h4
    · cases h1
  · rename_i hn
    split at hf
    · rename_i ds hd
      exact absurd (show (match en[i]? with
        | some (Slot.own ds) => some (Fl.nx (List.set en i (Slot.dat (PyData.list ds))))
        | x => none) = some (Fl.nx (List.set en i (Slot.dat (PyData.list ds)))) by rw [hd]) (hn _)
    · cases hf
theorem RepS.setD {K : PySem.W.Frag} {He : Hp} {O₀ O : List Addr} {σ : St} {H : Hp} {en e1 : En} {i : Nat} {x : V} {d : PyData} (a1 : ∀ b ∈ O₀, b ∈ O) (a2 : ∀ b ∈ O₀, He b ≠ none) (rp : Rep K Ts He O σ H en) (hb : bName i d en = some e1) (q : Dp K (hide H O) x d) {Vz : Hp} (xv : Xt Vz (hide H O)) : RepS K Ts He O₀ Vz (σ.set i (some x)) H e1 := by
  unfold bName at hb
  split at hb
  · rename_i hi
    cases hb
    exact ⟨O, a1, a2, rp.setD hi q, xv⟩
  · cases hb
theorem set_w {K : PySem.W.Frag} {i : Nat} : ∀ D σ H, tS K Ts (sSet i f) D σ H → tAsg (tD K Ts f) (gName i) D σ H := fun D σ H ⟨He, O₀, Vz, en, r, rp, hf, k⟩ => by
  unfold sSet at hf
  obtain ⟨d, h1, h2⟩ := Option.bind_eq_some_iff.mp hf
  obtain ⟨e1, h3, rfl⟩ := Option.map_eq_some_iff.mp h2
  obtain ⟨O, a1, a2, rp, xv⟩ := rp
  exact tD.of rp h1 fun v H1 x1 r1 q1 => k _ H1 (RepS.setD a1 a2 r1 h3 q1 (xv.trans (hide_mono x1)))
theorem s_set {i : Nat} {x : Str} {pos' : Pos} (hN : X.N.Nodup) (hi : X.N[i]? = some x) (hx : Loc X.env.scope x) (he : DE X Ts e f) (hs : swapsWith e (some (.Name x pos')) pos.line X.env = pure false := by rfl) (hf : X.fn x = true ∨ X.env.scope.names.lookup x = some .local := by first | exact .inl rfl | exact .inr rfl | assumption) :
    DS X Ts (.Assign [.Name x pos'] e pos) (sSet i f) := PS.imp (ps_set hN hi hx he hs hf) set_w
theorem s_bind {tg : Expr} {vs : List Nat} {b : PyData → En → Option En} (he : DE X Ts e f) (hg : DG X Ts tg vs b) (hs : swapsWithSole [tg] e pos.line X.env = pure false := by rfl) (hw : swappedStores [tg] e X.env = pure none := by rfl)
    (h1 : (assignEach [tg] X.env).map (·.2) = [assign tg X.env] := by rfl) : DS X Ts (.Assign [tg] e pos) (sBind b f) := PS.imp (ps_asg he hg hs hw h1) fun D σ H ⟨He, O₀, Vz, en, r, rp, hf, k⟩ => by
  unfold sBind at hf
  obtain ⟨d, h1, h2⟩ := Option.bind_eq_some_iff.mp hf
  obtain ⟨e1, h3, rfl⟩ := Option.map_eq_some_iff.mp h2
  obtain ⟨O, a1, a2, rp, xv⟩ := rp
  exact tD.of rp h1 fun v H1 x1 r1 q1 => ⟨He, O, en, d, e1, r1, q1, h3, fun σ' r' _ => k σ' H1 ⟨O, a1, a2, r', xv.trans (hide_mono x1)⟩⟩
theorem s_setLc {i : Nat} {y : Str} {py : Pos} {elt tg iter : Expr} {ifs : List Expr} {scope : Scope} {own : List (Str × Nat)} {spos : Pos} {it : En → Option (List PyData)} {b : PyData → En → Option En} {t : En → Option Bool} (hc : X.calm = true) (hN : X.N.Nodup) (hy : X.N[i]? = some y) (hyl : X.env.scope.names.lookup y = some .local)
    (hsw : swapsWith (.ListComp elt [⟨tg, iter, ifs, 0⟩] scope pos) (some (.Name y py)) spos.line X.env = pure true) (hi : DI X Ts tg iter it) (ok : BlkOk X.N X.env.scope scope own)
    (hg : ∀ s H C cl fp, DG (BX X scope s H C cl fp) Ts tg (own.map (·.2)) b) (ht : ∀ s H C cl fp, PTs (BX X scope s H C cl fp) ifs (tT X.K Ts t))
    (he : ∀ s H C cl fp, DE (BX X scope s H C cl fp) Ts elt f) (hs : ∀ x, foldedSetIterable iter X.env x = pure x := by intro _; rfl) :
    DS X Ts (.Assign [.Name y py] (.ListComp elt [⟨tg, iter, ifs, 0⟩] scope pos) spos) (sSet i (fLc it b t f (own.map (·.2)))) :=
  PS.imp (ps_setLc hc hN hy hyl hsw hi ok (fun s H C cl fp => hg s H C cl fp) (fun s H C cl fp => ht s H C cl fp) (fun s H C cl fp => he s H C cl fp) hs) fun D σ H h => by
    have h2 : tD X.K Ts (fLc it b t f (own.map (·.2))) σ H (fun x H1 => gName i x σ H1 D.nx) := set_w D σ H h
    exact lc_w (new_w h2 fLc_list)
theorem RepS.setO {K : PySem.W.Frag} {He : Hp} {O₀ O : List Addr} {σ : St} {H H1 : Hp} {en : En} {i : Nat} {a : Addr} {vs : List V} {ds : List PyData} (a1 : ∀ b ∈ O₀, b ∈ O) (a2 : ∀ b ∈ O₀, He b ≠ none) (rp : Rep K Ts He O σ H en) (hi : i < en.length) (x : Xt H H1) (t : Tb Ts H1) (na : H a = none) (ha : H1 a = some (.lst vs)) (q : DpAll K (hide H1 (a :: O)) vs ds) {Vz : Hp} (xv : Xt Vz (hide H O)) :
    RepS K Ts He O₀ Vz (σ.set i (some (.ref a))) H1 (en.set i (.own ds)) := by
  have r1 := rp.go x t
  have hs : i < σ.length := by rw [← rp.len]; exact hi
  have nA : a ∉ O := rp.free na
  have hHe : He a = none := rp.ext.there na
  have back : Xt (hide H O) (hide H1 (a :: O)) := fun b o e => by
    obtain ⟨e1, e2⟩ := hide_some e
    have nb : b ∉ a :: O := fun z => by
      rcases List.mem_cons.mp z with z | z
      · rw [z, na] at e2; cases e2
      · exact e1 z
    rcases x b o e2 with q | ⟨ps, qs, e3, q⟩
    · exact .inl (hide_of nb q)
    · exact .inr ⟨ps, qs, e3, hide_of nb q⟩
  refine ⟨a :: O, fun b hb => List.mem_cons_of_mem _ (a1 b hb), a2, ⟨by simp [rp.len], fun j d h => ?_, fun j es h => ?_, fun j k es es' aa h1 h2 h3 h4 => ?_, fun b hb => ?_, r1.ext, t⟩, xv.trans back⟩
  · have hj : i ≠ j := fun z => by subst z; rw [List.getElem?_set_self hi] at h; cases h
    rw [List.getElem?_set_ne hj] at h
    obtain ⟨v, q1, q2⟩ := rp.dat j d h
    exact ⟨v, by rw [List.getElem?_set_ne hj]; exact q1, Dp.mono back q2⟩
  · by_cases hj : i = j
    · subst hj
      rw [List.getElem?_set_self hi] at h
      cases h
      exact ⟨a, vs, by rw [List.getElem?_set_self hs], List.mem_cons_self, hHe, ha, q⟩
    · rw [List.getElem?_set_ne hj] at h
      obtain ⟨a', vs', q1, q2, q3, q4, q5⟩ := rp.own j es h
      exact ⟨a', vs', by rw [List.getElem?_set_ne hj]; exact q1, List.mem_cons_of_mem _ q2, q3, x.get a' _ q4 (fun _ z => nomatch z), DpAll.mono back q5⟩
  · have old : ∀ (j : Nat) (es : List PyData) (aa : Addr), i ≠ j → (en.set i (Slot.own ds))[j]? = some (Slot.own es) → (σ.set i (some (V.ref a)))[j]? = some (some (V.ref aa)) → aa ≠ a := fun j es aa hj h1 h2 z => by
      rw [List.getElem?_set_ne hj] at h1 h2
      obtain ⟨a', vs', q1, q2, _⟩ := rp.own j es h1
      rw [h2] at q1
      cases q1
      exact nA (z ▸ q2)
    by_cases hj : i = j
    · by_cases hk : i = k
      · exact hj.symm.trans hk
      · subst hj
        rw [List.getElem?_set_self hs] at h3
        cases h3
        exact absurd rfl (old k es' _ hk h2 h4)
    · by_cases hk : i = k
      · subst hk
        rw [List.getElem?_set_self hs] at h4
        cases h4
        exact absurd rfl (old j es _ hj h1 h3)
      · rw [List.getElem?_set_ne hj] at h1 h3
        rw [List.getElem?_set_ne hk] at h2 h4
        exact rp.inj j k es es' aa h1 h2 h3 h4
  · rcases List.mem_cons.mp hb with z | z
    · rw [z, ha]
      exact ⟨by simp, fun ps z => nomatch z⟩
    · exact r1.occ b z
theorem own_w {K : PySem.W.Frag} {i : Nat} : ∀ D σ H, tS K Ts (sOwn i f) D σ H → tNew K Ts f σ H (fun x H1 => gName i x σ H1 D.nx) := fun D σ H ⟨He, O₀, Vz, en, r, rp, hf, k⟩ => by
  unfold sOwn at hf
  split at hf
  · rename_i ds h1
    split at hf
    · rename_i hi
      cases hf
      obtain ⟨O, a1, a2, rp, xv⟩ := rp
      exact ⟨He, O, en, ds, rp, h1, fun a vs H' x t na ha q => k _ H' (RepS.setO a1 a2 rp hi x t na ha q xv)⟩
    · cases hf
  · cases hf
theorem s_own {i : Nat} {x : Str} {pos' : Pos} (hN : X.N.Nodup) (hi : X.N[i]? = some x) (hx : Loc X.env.scope x) (he : DNew X Ts e f) (hs : swapsWith e (some (.Name x pos')) pos.line X.env = pure false := by rfl) (hf : X.fn x = true ∨ X.env.scope.names.lookup x = some .local := by first | exact .inl rfl | exact .inr rfl | assumption) :
    DS X Ts (.Assign [.Name x pos'] e pos) (sOwn i f) := PS.imp (ps_set hN hi hx he hs hf) fun D σ H h => own_w D σ H h
theorem n_lst {es : List Expr} {gs : En → Option (List PyData)} (h : DA X Ts es gs) : DNew X Ts (.List es pos) (fLst gs) := PE.imp (pe_lst h) fun σ H Q ⟨He, O, en, ds, rp, hf, kk⟩ => by
  obtain ⟨ds', h1, hl, h2⟩ := fLst_some hf
  cases h2
  exact tDs.of rp h1 fun vs H1 x1 r1 q1 => ⟨by rw [DpAll.len q1]; exact small64 hl, fun p np => kk p vs _ (x1.trans (Xt.upd np)) (r1.tabs.new np) (x1.there np) upd_same (DpAll.mono (fun b o e => by
    obtain ⟨e1, e2⟩ := hide_some e
    have hne := ne_of_none e2 np
    exact .inl (hide_of (fun z => (List.mem_cons.mp z).elim hne e1) (by rw [upd_ne hne]; exact e2))) q1)⟩
theorem s_app {i : Nat} {x : Str} {px ap : Pos} (hN : X.N[i]? = some x := by rfl) (hv : Vis X.env.scope x := by first | exact Or.inl rfl | exact Or.inr (Or.inl rfl) | exact Or.inr (Or.inr rfl)) (ha : DE X Ts e f) (hd : (x == ("__debug__" : Str)) = false := by decide) (hcd : (x == ("__classdict__" : Str)) = false := by decide) {cpos : Pos}
    (hbase : attributeBase (.Name x px) "append" X.env (eval (.Name x px) X.env) = eval (.Name x px) X.env := by rfl)
    (hfew : ((backTo cpos (starEach [e] X.env)).all (fun x => !x.1) && (backToKw cpos (keywordEach [] X.env)).all (fun x => x.1.isSome) && decide ([e].length + ([] : List Keyword).length + (if ([] : List Keyword).isEmpty then 0 else 1) < 30)) = true := by rfl)
    (hline : (ap.endLine == cpos.line) = true := by rfl) (hs : starEach [e] X.env = (false, eval e X.env) :: starEach [] X.env := by rfl) (hplain : (backTo cpos (starEach [] X.env)).any (·.1) = false := by rfl)
    (hsw : swapsWith (.Call (.Attribute (.Name x px) "append" ap) [e] [] cpos) none pos.line X.env = pure false := by rfl) :
    DS X Ts (.Expr (.Call (.Attribute (.Name x px) "append" ap) [e] [] cpos) pos) (sApp i f) :=
  PS.imp (ps_expr (pe_bm (t := tCons (tD X.K Ts f) tNil) PySem.F.plainAttrs_list PySem.F.slot_list_append PySem.F.type_list_append mt_append (pe_var hN hv hd hcd) (pa_cons ha pa_nil hs) hbase hfew hline hs hplain) hsw) fun D σ H ⟨He, O₀, Vz, en, r, rp, hf, k⟩ => by
    unfold sApp at hf
    obtain ⟨d, h1, h2⟩ := Option.bind_eq_some_iff.mp hf
    split at h2
    · rename_i ds hd
      split at h2
      · rename_i hl
        cases h2
        obtain ⟨O, a1, a2, rp, xv⟩ := rp
        obtain ⟨a, vs, p1, p2, p3, p4, p5⟩ := rp.own i ds hd
        have hi : i < en.length := (List.getElem?_eq_some_iff.mp hd).1
        refine ⟨.ref a, p1, .inl ⟨rfl, _, .inl (.inl p4)⟩, tD.of rp h1 fun v H1 x1 r1 q1 => ?_⟩
        have p4' := x1.get a _ p4 (fun _ z => nomatch z)
        have p5' := DpAll.mono (hide_mono (O := O) x1) p5
        refine ⟨a, vs, v, rfl, rfl, p4', by rw [DpAll.len p5, sizeLine_eq]; omega, k σ _ ⟨O, a1, a2, ?_, xv.trans ((hide_mono x1).trans (hide_upd p2))⟩⟩
        have hu : Xt (hide H1 O) (hide (upd H1 a (.lst (vs ++ [v]))) O) := hide_upd p2
        refine ⟨by simp [rp.len], fun j d' h => ?_, fun j es h => ?_, fun j kk es es' aa h1 h2 h3 h4 => ?_, fun b hb => ?_, fun b o e => ?_, r1.tabs.upd fun u z => by rw [p4'] at z; cases z; exact lst_noc⟩
        · have hj : i ≠ j := fun z => by subst z; rw [List.getElem?_set_self hi] at h; cases h
          rw [List.getElem?_set_ne hj] at h
          obtain ⟨u, q1, q2⟩ := r1.dat j d' h
          exact ⟨u, q1, Dp.mono hu q2⟩
        · by_cases hj : i = j
          · subst hj
            rw [List.getElem?_set_self hi] at h
            cases h
            exact ⟨a, vs ++ [v], p1, p2, p3, upd_same, DpAll.app (DpAll.mono hu p5') (.cons (Dp.mono hu q1) .nil)⟩
          · rw [List.getElem?_set_ne hj] at h
            obtain ⟨a', vs', q1, q2, q3, q4, q5⟩ := r1.own j es h
            have hne : a' ≠ a := fun z => hj (by subst z; exact rp.inj i j ds es a' hd h p1 q1)
            exact ⟨a', vs', q1, q2, q3, by rw [upd_ne hne]; exact q4, DpAll.mono hu q5⟩
        · have toOwn : ∀ (j : Nat) (es : List PyData), (en.set i (Slot.own (ds ++ [d])))[j]? = some (Slot.own es) → ∃ es', en[j]? = some (Slot.own es') := fun j es h => by
            by_cases hj : i = j
            · subst hj; exact ⟨ds, hd⟩
            · rw [List.getElem?_set_ne hj] at h; exact ⟨es, h⟩
          obtain ⟨e1, g1⟩ := toOwn j es h1
          obtain ⟨e2, g2⟩ := toOwn kk es' h2
          exact rp.inj j kk e1 e2 aa g1 g2 h3 h4
        · by_cases z : b = a
          · rw [z, upd_same]
            exact ⟨by simp, fun ps z => nomatch z⟩
          · rw [upd_ne z]
            exact r1.occ b hb
        · have hne : b ≠ a := fun z => by rw [z, p3] at e; cases e
          rw [upd_ne hne]
          exact r1.ext b o e
      · cases h2
    · cases h2
theorem s_if {c : Expr} {a b : List Stmt} {t : En → Option Bool} (hc : DT X Ts c t) (ha : DSs X Ts a F) (hb : DSs X Ts b G) : DS X Ts (.If c a b pos) (sIf t F G) := PS.imp (ps_if hc ha hb) fun D σ H ⟨He, O₀, Vz, en, r, rp, hf, k⟩ => by
  unfold sIf at hf
  obtain ⟨O, a1, a2, rp, xv⟩ := rp
  split at hf
  · rename_i h
    exact tT.of rp h fun H1 x1 r1 => iteT ⟨He, O₀, Vz, en, r, ⟨O, a1, a2, r1, xv.trans (hide_mono x1)⟩, hf, k⟩
  · rename_i h
    exact tT.of rp h fun H1 x1 r1 => iteF ⟨He, O₀, Vz, en, r, ⟨O, a1, a2, r1, xv.trans (hide_mono x1)⟩, hf, k⟩
  · cases hf
theorem s_ret (he : DE X Ts e f) : DS X Ts (.Return (some e) pos) (sRet f) := PS.imp (ps_ret he) fun D σ H ⟨He, O₀, Vz, en, r, rp, hf, k⟩ => by
  unfold sRet at hf
  obtain ⟨d, h1, rfl⟩ := Option.map_eq_some_iff.mp hf
  obtain ⟨O, a1, a2, rp, xv⟩ := rp
  exact tD.of rp h1 fun v H1 x1 r1 q1 => k v H1 r1.ext r1.tabs (Dp.mono (hide_sub a1) q1)
theorem s_expr (he : DE X Ts e f) (hs : swapsWith e none pos.line X.env = pure false := by rfl) : DS X Ts (.Expr e pos) (sExpr f) := PS.imp (ps_expr he hs) fun D σ H ⟨He, O₀, Vz, en, r, rp, hf, k⟩ => by
  unfold sExpr at hf
  obtain ⟨d, h1, rfl⟩ := Option.map_eq_some_iff.mp hf
  obtain ⟨O, a1, a2, rp, xv⟩ := rp
  exact tD.of rp h1 fun v H1 x1 r1 q1 => k σ H1 ⟨O, a1, a2, r1, xv.trans (hide_mono x1)⟩
theorem s_never : DS X Ts st sNever := PS.imp ps_never fun D σ H ⟨He, O₀, Vz, en, r, rp, hf, k⟩ => by cases hf
theorem s_par {i j : Nat} {x y : Str} {a b : Expr} {px py pt : Pos} {kt k2 pt2} (hc : X.calm = true) (hN : X.N.Nodup) (hi : X.N[i]? = some x) (hj : X.N[j]? = some y) (hij : i ≠ j)
    (hx : X.env.scope.names.lookup x = some .local) (hy : X.env.scope.names.lookup y = some .local) (ha : DE X Ts a f) (hb : DE X Ts b g) (hw : swappedStores [.Tuple [.Name x px, .Name y py] kt pt] (.Tuple [a, b] k2 pt2) X.env = pure (some [x, y]))
    (hs1 : starEach [a, b] X.env = (false, eval a X.env) :: starEach [b] X.env := by rfl) (hs2 : starEach [b] X.env = (false, eval b X.env) :: starEach [] X.env := by rfl)
    (hs : swapsWithSole [.Tuple [.Name x px, .Name y py] kt pt] (.Tuple [a, b] k2 pt2) pos.line X.env = pure false := by rfl) : DS X Ts (.Assign [.Tuple [.Name x px, .Name y py] kt pt] (.Tuple [a, b] k2 pt2) pos) (sPar i j f g) :=
  PS.imp (ps_par hc hN hi hj hij hx hy (pa_cons ha (pa_cons hb pa_nil hs2) hs1) hw hs) fun D σ H ⟨He, O₀, Vz, en, r, rp, hf, k⟩ => by
    unfold sPar at hf
    obtain ⟨d1, h1, hf1⟩ := Option.bind_eq_some_iff.mp hf
    obtain ⟨d2, h2, hf2⟩ := Option.bind_eq_some_iff.mp hf1
    obtain ⟨e1, h3, hf3⟩ := Option.bind_eq_some_iff.mp hf2
    obtain ⟨e2, h4, rfl⟩ := Option.map_eq_some_iff.mp hf3
    obtain ⟨O, a1, a2, rp, xv⟩ := rp
    refine tD.of rp h1 fun v H1 x1 r1 q1 => tD.of r1 h2 fun w H2 x2 r2 q2 => ⟨v, w, rfl, k _ H2 ?_⟩
    unfold bName at h3 h4
    split at h3
    · rename_i hi'
      cases h3
      split at h4
      · rename_i hj'
        cases h4
        exact ⟨O, a1, a2, (r2.setD hi' (Dp.mono (hide_mono x2) q1)).setD hj' q2, xv.trans (hide_mono (x1.trans x2))⟩
      · cases h4
    · cases h3
theorem for_w {K : PySem.W.Frag} {vs : List Nat} {it : En → Option (List PyData)} {b : PyData → En → Option En} : ∀ D σ H, tS K Ts (sFor it b F) D σ H → tFor (tI K Ts it) (gD K Ts vs b) (tS K Ts F) D σ H := fun D σ H ⟨He, O₀, Vz, en, r, rp, hf, k⟩ => by
  unfold sFor at hf
  obtain ⟨ds, h1, h2⟩ := Option.bind_eq_some_iff.mp hf
  clear hf
  obtain ⟨O, a1, a2, rp, xv⟩ := rp
  refine ⟨He, O, en, ds, rp, h1, fun J H1 x1 t1 gv => ?_⟩
  have xv1 : Xt Vz (hide H1 O) := xv.trans (hide_mono x1)
  refine ⟨fun i m σ2 H2 => m = ds.length - i ∧ i ≤ ds.length ∧ ∃ en2, RepS K Ts He O₀ (hide H1 O) σ2 H2 en2 ∧ forGo b F (ds.drop i) en2 = some r,
    ⟨ds.length, by simp, Nat.zero_le _, en, ⟨O, a1, a2, rp.go x1 t1, Xt.refl _⟩, by simpa using h2⟩, fun i m σ2 H2 hW => ?_⟩
  obtain ⟨rfl, hi, en2, ⟨O2, b1, b2, r2, x12⟩, hgo⟩ := hW
  obtain ⟨g1, g2, g3⟩ := gv O2 H2 x12 (x12.trans hide_out) r2.occ
  have weak : ∀ {σ' H' en'}, RepS K Ts He O₀ (hide H1 O) σ' H' en' → RepS K Ts He O₀ Vz σ' H' en' := fun ⟨O', c1, c2, c3, c4⟩ => ⟨O', c1, c2, c3, xv1.trans c4⟩
  by_cases hlt : i < ds.length
  · rw [List.drop_eq_getElem_cons hlt] at hgo
    unfold forGo at hgo
    obtain ⟨e1, hb1, hgo1⟩ := Option.bind_eq_some_iff.mp hgo
    clear hgo
    refine .inr ⟨g1 i hlt, fun σ' H' => ∃ en2, RepS K Ts He O₀ (hide H1 O) σ' H' en2 ∧ forGo b F (ds.drop (i + 1)) en2 = some r, fun σ' H' c => ⟨ds.length - (i + 1), by omega, rfl, hlt, c⟩, fun x H3 hy => ?_⟩
    obtain ⟨d, hd, x23, t23, qd⟩ := g3 i x H3 hlt hy
    have r3 := r2.go x23 (t23 r2.tabs)
    have hd' : ds[i] = d := by rw [List.getElem?_eq_getElem hlt] at hd; exact Option.some.inj hd
    rw [hd'] at hb1
    refine ⟨He, O2, en2, d, e1, r3, qd, hb1, fun σ4 r4 _ => ?_⟩
    have rs4 : RepS K Ts He O₀ (hide H1 O) σ4 H3 e1 := ⟨O2, b1, b2, r4, x12.trans (hide_mono x23)⟩
    cases hF : F e1 with
    | none => rw [hF] at hgo1; cases hgo1
    | some fl =>
      rw [hF] at hgo1
      refine ⟨He, O₀, hide H1 O, e1, fl, rs4, hF, ?_⟩
      cases fl with
      | nx e2 => exact fun σ' H' r' => ⟨e2, r', hgo1⟩
      | ct e2 => exact fun σ' H' r' => ⟨e2, r', hgo1⟩
      | bk e2 =>
        cases hgo1
        exact fun σ' H' r' => k σ' H' (weak r')
      | rt v =>
        cases hgo1
        exact k
  · have hie : i = ds.length := by omega
    subst hie
    rw [List.drop_of_length_le (Nat.le_refl _)] at hgo
    cases hgo
    exact .inl ⟨g2, k σ2 H2 ⟨O2, b1, b2, r2, xv1.trans x12⟩⟩
theorem s_for {tg iter : Expr} {body : List Stmt} {vs : List Nat} {it : En → Option (List PyData)} {b : PyData → En → Option En} (hp : PassesOwn (model X.prog X.w) X.A X.env X.xe) (hc : X.calm = true) (hi : DI X Ts tg iter it) (hg : DG X Ts tg vs b) (hb : DSs X Ts body F)
    (hs : ∀ x, foldedSetIterable iter X.env x = pure x := by intro _; rfl) : DS X Ts (.For tg iter body [] pos) (sFor it b F) := PS.imp (ps_for hp hc hi hg hb hs) for_w
theorem while_w {K : PySem.W.Frag} {n : En → Nat} {t : En → Option Bool} : ∀ D σ H, tS K Ts (sWhile n t F) D σ H → tWhile (tT K Ts t) (tS K Ts F) D σ H := fun D σ H ⟨He, O₀, Vz, en, r, rp, hf, k⟩ => by
  unfold sWhile at hf
  refine ⟨fun m σ2 H2 => ∃ en2, RepS K Ts He O₀ Vz σ2 H2 en2 ∧ whGo t F m en2 = some r, ⟨n en, en, rp, hf⟩, fun m σ2 H2 ⟨en2, rs, hgo⟩ => ?_⟩
  cases m with
  | zero => cases hgo
  | succ m =>
    unfold whGo at hgo
    obtain ⟨O, a1, a2, rp2, xv⟩ := rs
    cases ht : t en2 with
    | none => rw [ht] at hgo; cases hgo
    | some c =>
      rw [ht] at hgo
      refine tT.of rp2 ht fun H3 x23 r3 => ?_
      have rs3 : RepS K Ts He O₀ Vz σ2 H3 en2 := ⟨O, a1, a2, r3, xv.trans (hide_mono x23)⟩
      cases c with
      | false =>
        cases hgo
        exact iteF (k σ2 H3 rs3)
      | true =>
        refine iteT ⟨fun σ' H' => ∃ en2, RepS K Ts He O₀ Vz σ' H' en2 ∧ whGo t F m en2 = some r, fun σ' H' c => ⟨m, Nat.lt_succ_self m, c⟩, ?_⟩
        cases hF : F en2 with
        | none => simp only [hF] at hgo; cases hgo
        | some fl =>
          simp only [hF] at hgo
          refine ⟨He, O₀, Vz, en2, fl, rs3, hF, ?_⟩
          cases fl with
          | nx e2 => exact fun σ' H' r' => ⟨e2, r', hgo⟩
          | ct e2 => exact fun σ' H' r' => ⟨e2, r', hgo⟩
          | bk e2 =>
            cases hgo
            exact k
          | rt v =>
            cases hgo
            exact k
theorem s_while {c : Expr} {body : List Stmt} {t : En → Option Bool} (n : En → Nat) (hp : PassesOwn (model X.prog X.w) X.A X.env X.xe) (hc : DT X Ts c t) (hb : DSs X Ts body F) : DS X Ts (.While c body [] pos) (sWhile n t F) := PS.imp (ps_while hp hc hb) while_w
end
def runD (n : Nat) (F : En → Option Fl) (ds : List PyData) : Option PyData := match F (ds.map .dat ++ List.replicate (n - ds.length) .no) with
  | some (.rt d) => some d
  | some (.nx _) => some .none
  | _ => none
structure DF (K : PySem.W.Frag) (x qual : Str) (st : Stmt) (f : Addr) (fd : FuncData) (cdv : Value) : Prop where
  ex : ∃ (oc : Value) (od : Option Addr) (dV kV doc pm : Value) (an : Option Addr) (ct : Value) (osl : Array (Option Value)),
    fd = PySem.W.fnOf x qual (defArgs st) (defBody st) (defScope st) dV kV doc pm an cdv ct ∧ K.lookup f = some ⟨oc, od, .func fd, osl⟩ ∧ PySem.W.codeIn K cdv qual = true
  kp : PySem.W.keepIn K (.ref f) = true
section
variable {P : Program} {w : World} {K : PySem.W.Frag} {mg : Str → Option Value} {base : Heap} {Ts : TsT}
theorem DF.ok {x qual : Str} {st : Stmt} {f : Addr} {fd : FuncData} {cdv : Value} {N ps : List Str} {k : Nat} {F : En → Option Fl} (D : DF K x qual st f fd cdv) (S : FnScope N ps (defScope st))
    (hbody : ∀ (A : Around) (outer : List Env) (s : Shared) (H : Hp) (E : XK), Room k (A.deeper (envOfC qual (defScope st) s.heap.objs.size f cdv)) → DSs (cxOf CX0 P w K mg base N qual (defScope st) f cdv A outer s H E).nox Ts (defBody st) F) :
    FnOk P w K mg base CX0 (k + 1) f fd ps (spD K Ts ps.length (runD N.length F)) := by
  obtain ⟨oc, od, dV, kV, doc, pm, an, ct, osl, rfl, lk, hcd⟩ := D.ex
  refine fn_of lk hcd S (fun vs H Q E h => h.1) fun A outer s H vs Q E hr hsp => ?_
  refine ⟨_, (hbody A outer s H E hr).nox, ?_⟩
  obtain ⟨hl, O, ds, d, q, t, occ, hF, kk⟩ := hsp
  unfold runD at hF
  have hlen := DpAll.len q
  have rp : Rep K Ts H O (L2.start N vs) H (ds.map .dat ++ List.replicate (N.length - ds.length) .no) := by
    refine ⟨by simp [L2.start, hlen], fun i d h => ?_, fun i es h => ?_, fun i j es es' a h => ?_, occ, Xt.refl H, t⟩
    · by_cases hi : i < ds.length
      · rw [List.getElem?_append_left (by simpa using hi), List.getElem?_map] at h
        obtain ⟨d', h1, h2⟩ := Option.map_eq_some_iff.mp h
        cases h2
        obtain ⟨v, h3, h4⟩ := DpAll.get' q h1
        refine ⟨v, ?_, h4⟩
        unfold L2.start
        rw [List.getElem?_append_left (by simp; omega), List.getElem?_map, h3]
        rfl
      · rw [List.getElem?_append_right (by simpa using hi), List.getElem?_replicate] at h
        split at h <;> cases h
    · by_cases hi : i < ds.length
      · rw [List.getElem?_append_left (by simpa using hi), List.getElem?_map] at h
        obtain ⟨d', h1, h2⟩ := Option.map_eq_some_iff.mp h
        cases h2
      · rw [List.getElem?_append_right (by simpa using hi), List.getElem?_replicate] at h
        split at h <;> cases h
    · by_cases hi : i < ds.length
      · rw [List.getElem?_append_left (by simpa using hi), List.getElem?_map] at h
        obtain ⟨d', h1, h2⟩ := Option.map_eq_some_iff.mp h
        cases h2
      · rw [List.getElem?_append_right (by simpa using hi), List.getElem?_replicate] at h
        split at h <;> cases h
  have rs : RepS K Ts H O (fun _ => none) (L2.start N vs) H (ds.map .dat ++ List.replicate (N.length - ds.length) .no) := ⟨O, fun b hb => hb, fun b hb => (occ b hb).1, rp, fun b o e => nomatch e⟩
  split at hF
  · rename_i d' hf
    cases hF
    exact ⟨H, O, _, _, _, rs, hf, fun v H' x t q => kk v H' x t q⟩
  · rename_i e' hf
    cases hF
    refine ⟨H, O, _, _, _, rs, hf, fun σ' H' r' => ?_⟩
    obtain ⟨O', a1, a2, r1, _⟩ := r'
    exact kk .non H' r1.ext r1.tabs .non
  · cases hF
theorem df_mk {x qual : Str} {st : Stmt} {f : Addr} {oc : Value} {od an : Option Addr} {osl : Array (Option Value)} {dV kV doc pm cdv ct : Value} (l : K.lookup f = some ⟨oc, od, .func (PySem.W.fnOf x qual (defArgs st) (defBody st) (defScope st) dV kV doc pm an cdv ct), osl⟩)
    (c : PySem.W.codeIn K cdv qual = true) (k : PySem.W.keepIn K (.ref f) = true) : DF K x qual st f (PySem.W.fnOf x qual (defArgs st) (defBody st) (defScope st) dV kV doc pm an cdv ct) cdv := ⟨⟨oc, od, dV, kV, doc, pm, an, ct, osl, rfl, l, c⟩, k⟩
end
section
variable {X : Cx} {Ts : TsT} {pos p : Pos} {tg e e2 : Expr} {f g : En → Option PyData}
def gPlus : PyData → PyData → Option PyData
  | .int i, .int j => some (.int (i + j))
  | .tuple xs, .tuple ys => if xs.length + ys.length ≤ 1000000 then some (.tuple (xs ++ ys)) else none
  | .list xs, .list ys => if xs.length + ys.length ≤ 1000000 then some (.list (xs ++ ys)) else none
  | _, _ => none
def fPlus := f2 gPlus
def rCatL (K : PySem.W.Frag) : R2 := fun x y H Q => ∃ a b xs ys, x = .ref a ∧ y = .ref b ∧ SqL K H a xs ∧ SqL K H b ys ∧ xs.length + ys.length ≤ sizeLine ∧ ∀ p, H p = none → Q (.ref p) (upd H p (.lst (xs ++ ys)))
theorem op_catL : OpR X (binaryOp .Add) (rCatL X.K) := by
  intro pins s σ H x y v u Q I rx ry h
  obtain ⟨a, b, xs, ys, rfl, rfl, ha, hb, hz, q⟩ := h
  cases rx
  cases ry
  obtain ⟨is1, r1, ⟨⟨c1, d1, t1, l1⟩, n1, g1, gc1, _, gd1⟩, _⟩ := I.list ha
  obtain ⟨is2, r2, ⟨⟨c2, d2, t2, l2⟩, n2, g2, gc2, _, gd2⟩, _⟩ := I.list hb
  simp only at gc1 gd1 gc2 gd2
  subst gc1 gd1 gc2 gd2
  have len1 := r1.length
  have len2 := r2.length
  have small : is1.toArray.size + is2.toArray.size ≤ sizeLine := by
    rw [List.size_toArray, List.size_toArray]
    omega
  refine concat_meets ⟨_, g1, rfl⟩ ⟨_, g2, rfl⟩ noFill_list_add seq_list_add PySem.F.slot_list_add PySem.F.entry_list_add (PySem.F.args_list_add_2 _ _)
    (list_addW a b is1.toArray is2.toArray n1 n2 d1 d2 l1 l2 small) ⟨g1, g2, ?_⟩
  have joined : is1.toArray ++ is2.toArray = (is1 ++ is2).toArray := by simp
  rw [joined]
  exact ⟨.ref _, _, I.lnew (t' := s.toks) (r1.append r2) (by rw [List.length_append]; omega), rfl, q _ I.fresh⟩
theorem op_plus : OpR X (binaryOp .Add) (fun x y H Q => rI0 (fun i j => .int (i + j)) x y H Q ∨ rCatA X.K x y H Q ∨ rCatL X.K x y H Q) := by
  intro pins s σ H x y v u Q I rx ry h
  rcases h with h | h | h
  · exact op_add pins s σ H x y v u Q I rx ry h
  · exact op_catA pins s σ H x y v u Q I rx ry h
  · exact op_catL pins s σ H x y v u Q I rx ry h
theorem d_plus (ha : DE X Ts e f) (hb : DE X Ts e2 g) : DE X Ts (.BinOp e .Add e2 pos) (fPlus f g) := PE.imp (pe_op op_plus ha hb) fun σ H Q ⟨He, O, en, d, rp, hf, kk⟩ => by
  obtain ⟨x, y, h1, h2, h3⟩ := f2_some hf
  refine tD.of rp h1 fun v H1 x1 r1 q1 => tD.of r1 h2 fun w H2 x2 r2 q2 => ?_
  have q1 := Dp.mono (hide_mono x2) q1
  cases x <;> cases y <;> simp only [gPlus] at h3 <;> try cases h3
  · cases q1
    cases q2
    exact .inl ⟨_, _, rfl, rfl, kk _ H2 (x1.trans x2) r2.tabs (.int _)⟩
  · split at h3
    · rename_i hl
      cases h3
      cases q1 with
      | lst s1 a1 =>
        cases q2 with
        | lst s2 a2 =>
          have l1 := DpAll.len a1
          have l2 := DpAll.len a2
          exact .inr (.inr ⟨_, _, _, _, rfl, rfl, sqL_mono (fun o n e => (hide_some e).2) s1, sqL_mono (fun o n e => (hide_some e).2) s2, by rw [l1, l2, sizeLine_eq]; omega, fun p np => kk _ _ (x1.trans (x2.trans (Xt.upd np))) (r2.tabs.new np) (lst_new np (new_out r2.occ np) (DpAll.app a1 a2))⟩)
    · cases h3
  · split at h3
    · rename_i hl
      cases h3
      cases q1 with
      | tup s1 a1 =>
        cases q2 with
        | tup s2 a2 =>
          have l1 := DpAll.len a1
          have l2 := DpAll.len a2
          refine .inr (.inl ⟨_, _, _, _, rfl, rfl, sqT_mono (fun o n e => (hide_some e).2) s1, sqT_mono (fun o n e => (hide_some e).2) s2, by rw [l1, l2, sizeLine_eq]; omega, fun e0 => ?_, fun _ e0 => ?_, fun _ _ p np => kk _ _ (x1.trans (x2.trans (Xt.upd np))) (r2.tabs.new np) (tup_new np (new_out r2.occ np) (DpAll.app a1 a2))⟩)
          · subst e0
            cases a1
            exact kk _ H2 (x1.trans x2) r2.tabs (.tup s2 a2)
          · subst e0
            cases a2
            rw [List.append_nil] at kk
            exact kk _ H2 (x1.trans x2) r2.tabs (.tup s1 a1)
    · cases h3
def iSq (K : PySem.W.Frag) (tl : TE) : TI := fun σ H R => tl σ H fun x H1 => (∃ a, x = .ref a ∧ (∃ xs, SqL K H1 a xs) ∧ R (Itl K a) H1) ∨ (∃ a, x = .ref a ∧ (∃ xs, SqT K H1 a xs) ∧ R (Itt K a) H1)
theorem pi_sq {l : Expr} {tl : TE} (hl : PE X l tl) : PI X tg l (iSq X.K tl) := by
  refine ⟨fun pins s σ H R I h => ?_⟩
  refine thn (hl.run pins s σ H _ I h) fun v s1 ⟨x, H1, I1, r1, q1⟩ => ?_
  rcases q1 with ⟨a, e, ⟨xs, hq⟩, q⟩ | ⟨a, e, ⟨xs, hq⟩, q⟩
  · subst e
    cases r1
    obtain ⟨its, rv, p, hz⟩ := I1.list hq
    refine wpAny_pyIter_list p.isList ?_
    refine ⟨s1.heap.objs.size, [s1.heap.objs.size], _, _, H1, rfl, I1.kept (t' := s1.toks) fun b o e => Heap.get?_push_of_some _ e, turn_list a _, ⟨_, Heap.get?_push_size _ rfl, rfl, rfl⟩, fun b hb => ?_, q⟩
    have e : b = s1.heap.objs.size := by simpa using hb
    subst e
    exact I1.fpOk (Nat.le_refl _) (I1.hok.fresh (Nat.le_refl _))
  · subst e
    cases r1
    obtain ⟨its, rv, p, hz⟩ := I1.tuple hq
    refine wpAny_pyIter_tuple (show s1.heap.IsTuple a its.toArray from p) ?_
    refine ⟨s1.heap.objs.size, [s1.heap.objs.size], _, _, H1, rfl, I1.kept (t' := s1.toks) fun b o e => Heap.get?_push_of_some _ e, turn_tuple a _, ⟨_, Heap.get?_push_size _ rfl, rfl, rfl⟩, fun b hb => ?_, q⟩
    have e : b = s1.heap.objs.size := by simpa using hb
    subst e
    exact I1.fpOk (Nat.le_refl _) (I1.hok.fresh (Nat.le_refl _))
def iSeq (f : En → Option PyData) : En → Option (List PyData) := fun en => (f en).bind items
theorem gives_list {K : PySem.W.Frag} {H1 : Hp} {O : List Addr} {l : Addr} {vs : List V} {ds : List PyData} (s : SqL K (hide H1 O) l vs) (a : DpAll K (hide H1 O) vs ds) : Gives K Ts (Itl K l) ds H1 O := fun O' H2 h1 h2 occ => by
  have s2 : SqL K H2 l vs := sqL_mono (fun o n e => h2.get _ o e n) s
  have a2 := DpAll.mono h1 a
  have hl := DpAll.len a
  refine ⟨fun i hi => ⟨vs, vs[i]'(by omega), s2, by simp [hl, hi]⟩, ⟨vs, s2, by omega⟩, fun i x H3 hi hy => ?_⟩
  obtain ⟨rfl, hx⟩ := hy
  obtain ⟨d, hd1, hd2⟩ := DpAll.get a2 (hx vs s2)
  exact ⟨d, hd1, Xt.refl _, id, hd2⟩
theorem gives_tup {K : PySem.W.Frag} {H1 : Hp} {O : List Addr} {l : Addr} {vs : List V} {ds : List PyData} (s : SqT K (hide H1 O) l vs) (a : DpAll K (hide H1 O) vs ds) : Gives K Ts (Itt K l) ds H1 O := fun O' H2 h1 h2 occ => by
  have s2 : SqT K H2 l vs := sqT_mono (fun o n e => h2.get _ o e n) s
  have a2 := DpAll.mono h1 a
  have hl := DpAll.len a
  refine ⟨fun i hi => ⟨vs, vs[i]'(by omega), s2, by simp [hl, hi]⟩, ⟨vs, s2, by omega⟩, fun i x H3 hi hy => ?_⟩
  obtain ⟨rfl, hx⟩ := hy
  obtain ⟨d, hd1, hd2⟩ := DpAll.get a2 (hx vs s2)
  exact ⟨d, hd1, Xt.refl _, id, hd2⟩
theorem di_seq (h : DE X Ts e f) : DI X Ts tg e (iSeq f) := PI.imp (pi_sq h) fun σ H R ⟨He, O, en, ds, rp, hf, kk⟩ => by
  unfold iSeq at hf
  obtain ⟨d, h1, h2⟩ := Option.bind_eq_some_iff.mp hf
  refine tD.of rp h1 fun v H1 x1 r1 q1 => ?_
  cases d <;> simp only [items] at h2 <;> cases h2
  · cases q1 with
    | lst s a => exact .inl ⟨_, rfl, ⟨_, sqL_mono (fun o n e => (hide_some e).2) s⟩, kk _ H1 x1 r1.tabs (gives_list s a)⟩
  · cases q1 with
    | tup s a => exact .inr ⟨_, rfl, ⟨_, sqT_mono (fun o n e => (hide_some e).2) s⟩, kk _ H1 x1 r1.tabs (gives_tup s a)⟩
theorem d_globE {x : Str} {i : Int} (hg : Gl X x) (hm : ∃ t, X.mg x = some (.int i t)) (hd : (x == ("__debug__" : Str)) = false := by decide) : DE X Ts (.Name x pos) (fLit (.int i)) := by
  obtain ⟨t, hm⟩ := hm
  exact d_glob hg hm hd
end
theorem room_gen {j : Nat} {A : Around} (r : Room (j + 1) A) (env : Env) : Room j (A.in1.in1.deeper env) :=
  ⟨r.hd, by have := r.dp; show A.depth + 1 + 3 * j + 5 < _; omega, by have := r.un; show A.units + 1 + 1 + 3 + 16 * j + 200 < _; omega⟩
structure CF (P : Program) (w : World) (K : PySem.W.Frag) (mg : Str → Option Value) (base : Heap) (Ts : TsT) (k : Nat) (x : Str) (n : Nat) (F : List PyData → Option PyData) : Prop where
  ex : ∃ f fd ps dvs us dd G, mg x = some (.ref f) ∧ PySem.W.keepIn K (.ref f) = true ∧ Binds K fd ps us ∧ Vals dvs us ∧ (∀ H, DpAll K H dvs dd) ∧ FnOk P w K mg base CX0 k f fd ps (spD K Ts (n + dd.length) G) ∧ ∀ xs d, xs.length = n → F xs = some d → G (xs ++ dd) = some d
theorem CF.imp {P : Program} {w : World} {K : PySem.W.Frag} {mg : Str → Option Value} {base : Heap} {Ts : TsT} {k : Nat} {x : Str} {n : Nat} {F G : List PyData → Option PyData} (c : CF P w K mg base Ts k x n F) (h : ∀ ds d, G ds = some d → F ds = some d) : CF P w K mg base Ts k x n G := by
  obtain ⟨f, fd, ps, dvs, us, dd, G', h1, h2, h3, h4, h5, h6, h7⟩ := c.ex
  exact ⟨f, fd, ps, dvs, us, dd, G', h1, h2, h3, h4, h5, h6, fun xs d hl e => h7 xs d hl (h xs d e)⟩
theorem CF.call {X : Cx} {Ts : TsT} {k : Nat} {x : Str} {n : Nat} {F : List PyData → Option PyData} (c : CF X.prog X.w X.K X.mg X.base Ts k x n F) : DFn X Ts k x n F := ⟨c.ex⟩
theorem CF.of {P : Program} {w : World} {K : PySem.W.Frag} {mg : Str → Option Value} {base : Heap} {Ts : TsT} {k : Nat} {x : Str} {n : Nat} {F : List PyData → Option PyData} {f : Addr} {fd : FuncData} {ps : List Str} (h1 : mg x = some (.ref f)) (h2 : PySem.W.keepIn K (.ref f) = true) (h3 : Binds K fd ps []) (h4 : FnOk P w K mg base CX0 k f fd ps (spD K Ts n F)) : CF P w K mg base Ts k x n F :=
  ⟨f, fd, ps, [], [], [], F, h1, h2, h3, .nil, fun _ => .nil, h4, fun xs d _ e => by rw [List.append_nil]; exact e⟩
def RowOk (rw : List PyData) : Prop := ∃ (ns : List Int) (i m c : Int), rw = [.list (ns.map .int), .int i, .int m, .int c] ∧ ns.length ≤ 63 ∧ 0 ≤ i ∧ 0 ≤ m ∧ m < 2147483647 ∧ 0 ≤ c
def WRep (K : PySem.W.Frag) (Ts : TsT) (ρ : Nat) (He : Hp) (O : List Addr) (σ : St) (H : Hp) (en : En) : Prop := ρ < en.length ∧ ∃ rw, RowOk rw ∧ Rep K Ts He O σ H (en.set ρ (.own rw))
def XtB (a : Addr) (H H' : Hp) : Prop := ∀ b o, b ≠ a → H b = some o → H' b = some o ∨ ∃ ps qs, o = .tbl ps ∧ H' b = some (.tbl qs)
theorem XtB.trans {a : Addr} {H H1 H2 : Hp} (x : XtB a H H1) (y : XtB a H1 H2) : XtB a H H2 := fun b o hb e => by
  rcases x b o hb e with q | ⟨ps, qs, e1, q⟩
  · exact y b o hb q
  · rcases y b _ hb q with q' | ⟨_, qs', _, q'⟩
    · exact .inr ⟨ps, qs, e1, q'⟩
    · exact .inr ⟨ps, qs', e1, q'⟩
theorem XtB.of {a : Addr} {H H1 : Hp} (x : Xt H H1) : XtB a H H1 := fun b o _ e => x b o e
def Xw (ρ : Nat) (σ : St) (O : List Addr) (H H' : Hp) : Prop := Xt (hide H O) (hide H' O) ∧ ∀ a, σ[ρ]? = some (some (V.ref a)) → XtB a H H'
theorem Xw.refl {ρ : Nat} {σ : St} {O : List Addr} (H : Hp) : Xw ρ σ O H H := ⟨Xt.refl _, fun _ _ => .of (Xt.refl _)⟩
theorem Xw.of {ρ : Nat} {σ : St} {O : List Addr} {H H' : Hp} (x : Xt H H') : Xw ρ σ O H H' := ⟨hide_mono x, fun _ _ => .of x⟩
theorem Xw.trans {ρ : Nat} {σ : St} {O : List Addr} {H H1 H2 : Hp} (x : Xw ρ σ O H H1) (y : Xw ρ σ O H1 H2) : Xw ρ σ O H H2 := ⟨x.1.trans y.1, fun a h => (x.2 a h).trans (y.2 a h)⟩
abbrev WF := En → (PyData → Prop) → Prop
def tW (K : PySem.W.Frag) (Ts : TsT) (ρ : Nat) (F : WF) : TE := fun σ H Q => ∃ He O en Qd, WRep K Ts ρ He O σ H en ∧ F en Qd ∧ ∀ d v H', Qd d → WRep K Ts ρ He O σ H' en → Dp K (hide H' O) v d → Xw ρ σ O H H' → Q v H'
def tWs (K : PySem.W.Frag) (Ts : TsT) (ρ : Nat) (F : En → (List PyData → Prop) → Prop) : TA := fun σ H Q => ∃ He O en Qd, WRep K Ts ρ He O σ H en ∧ F en Qd ∧ ∀ ds vs H', Qd ds → WRep K Ts ρ He O σ H' en → DpAll K (hide H' O) vs ds → Xw ρ σ O H H' → Q vs H'
def tWT (K : PySem.W.Frag) (Ts : TsT) (ρ : Nat) (F : En → (Bool → Prop) → Prop) : TT := fun σ H Q => ∃ He O en Qd, WRep K Ts ρ He O σ H en ∧ F en Qd ∧ ∀ b H', Qd b → WRep K Ts ρ He O σ H' en → Xw ρ σ O H H' → Q b H'
abbrev WE (X : Cx) (Ts : TsT) (ρ : Nat) (e : Expr) (F : WF) : Prop := PE X e (tW X.K Ts ρ F)
abbrev WA (X : Cx) (Ts : TsT) (ρ : Nat) (es : List Expr) (F : En → (List PyData → Prop) → Prop) : Prop := PA X es (tWs X.K Ts ρ F)
abbrev WT (X : Cx) (Ts : TsT) (ρ : Nat) (e : Expr) (F : En → (Bool → Prop) → Prop) : Prop := PT X e (tWT X.K Ts ρ F)
theorem WRep.tabs' {K : PySem.W.Frag} {Ts : TsT} {ρ : Nat} {He : Hp} {O : List Addr} {σ : St} {H : Hp} {en : En} (r : WRep K Ts ρ He O σ H en) : Tb Ts H := let ⟨_, _, _, r⟩ := r; r.tabs
theorem WRep.occ {K : PySem.W.Frag} {Ts : TsT} {ρ : Nat} {He : Hp} {O : List Addr} {σ : St} {H : Hp} {en : En} (r : WRep K Ts ρ He O σ H en) : ∀ b ∈ O, H b ≠ none ∧ ∀ ps, H b ≠ some (.tbl ps) := let ⟨_, _, _, r⟩ := r; r.occ
theorem WRep.go {K : PySem.W.Frag} {Ts : TsT} {ρ : Nat} {He : Hp} {O : List Addr} {σ : St} {H H' : Hp} {en : En} (r : WRep K Ts ρ He O σ H en) (x : Xt H H') (t : Tb Ts H') : WRep K Ts ρ He O σ H' en := let ⟨a, rw, b, c⟩ := r; ⟨a, rw, b, c.go x t⟩
def wP (ρ : Nat) (f : En → Option PyData) : WF := fun en Q => ∃ d, (∀ rw, f (en.set ρ (.own rw)) = some d) ∧ Q d
def wT (ρ : Nat) (f : En → Option Bool) : En → (Bool → Prop) → Prop := fun en Q => ∃ b, (∀ rw, f (en.set ρ (.own rw)) = some b) ∧ Q b
def Op2 (K : PySem.W.Frag) (Ts : TsT) (r : R2) (g : PyData → PyData → Option PyData) : Prop := ∀ x y v w d H O Q, g x y = some d → Dp K (hide H O) v x → Dp K (hide H O) w y → Tb Ts H → (∀ b ∈ O, H b ≠ none ∧ ∀ ps, H b ≠ some (.tbl ps)) → (∀ u H', Xt H H' → Tb Ts H' → Dp K (hide H' O) u d → Q u H') → r v w H Q
def w2 (g : PyData → PyData → Option PyData) (F G : WF) : WF := fun en Q => F en fun x => G en fun y => ∃ d, g x y = some d ∧ Q d
def w1 (g : PyData → Option PyData) (F : WF) : WF := fun en Q => F en fun x => ∃ d, g x = some d ∧ Q d
section
variable {K : PySem.W.Frag} {X : Cx} {Ts : TsT} {ρ : Nat} {pos p : Pos} {e e2 : Expr} {es : List Expr} {f : En → Option PyData} {F G : WF}
theorem we_pure (h : DE X Ts e f) : WE X Ts ρ e (wP ρ f) := PE.imp h fun σ H Q ⟨He, O, en, Qd, ⟨hl, rw, hr, rp⟩, ⟨d, hf, hq⟩, kk⟩ =>
  tD.of rp (hf rw) fun v H' x r' q => kk d v H' hq ⟨hl, rw, hr, r'⟩ q (Xw.of x)
theorem wt_pure {t : En → Option Bool} (h : DT X Ts e t) : WT X Ts ρ e (wT ρ t) := PT.imp h fun σ H Q ⟨He, O, en, Qd, ⟨hl, rw, hr, rp⟩, ⟨d, hf, hq⟩, kk⟩ =>
  tT.of rp (hf rw) fun H' x r' => kk d H' hq ⟨hl, rw, hr, r'⟩ (Xw.of x)
theorem ww_2 {r : R2} {g : PyData → PyData → Option PyData} (k : Op2 K Ts r g) : ∀ σ H Q, tW K Ts ρ (w2 g F G) σ H Q → tOp r (tW K Ts ρ F) (tW K Ts ρ G) σ H Q := fun σ H Q ⟨He, O, en, Qd, rp, hF, kk⟩ =>
  ⟨He, O, en, _, rp, hF, fun x v H1 hx r1 q1 x1 => ⟨He, O, en, _, r1, hx, fun y w H2 ⟨d, hg, hd⟩ r2 q2 x2 =>
    k x y v w d H2 O Q hg (Dp.mono x2.1 q1) q2 r2.tabs' r2.occ fun u H' x3 t3 q3 => kk d u H' hd (r2.go x3 t3) q3 (x1.trans (x2.trans (Xw.of x3)))⟩⟩
theorem op2_plus : Op2 X.K Ts (fun x y H Q => rI0 (fun i j => .int (i + j)) x y H Q ∨ rCatA X.K x y H Q ∨ rCatL X.K x y H Q) gPlus := fun x y v w d H O Q h3 q1 q2 ht occ kk => by
  cases x <;> cases y <;> simp only [gPlus] at h3 <;> try cases h3
  · cases q1
    cases q2
    exact .inl ⟨_, _, rfl, rfl, kk _ H (Xt.refl H) ht (.int _)⟩
  · split at h3
    · rename_i hl
      cases h3
      cases q1 with
      | lst s1 a1 =>
        cases q2 with
        | lst s2 a2 =>
          have l1 := DpAll.len a1
          have l2 := DpAll.len a2
          exact .inr (.inr ⟨_, _, _, _, rfl, rfl, sqL_mono (fun o n e => (hide_some e).2) s1, sqL_mono (fun o n e => (hide_some e).2) s2, by rw [l1, l2, sizeLine_eq]; omega, fun p np => kk _ _ (Xt.upd np) (ht.new np) (lst_new np (new_out occ np) (DpAll.app a1 a2))⟩)
    · cases h3
  · split at h3
    · rename_i hl
      cases h3
      cases q1 with
      | tup s1 a1 =>
        cases q2 with
        | tup s2 a2 =>
          have l1 := DpAll.len a1
          have l2 := DpAll.len a2
          refine .inr (.inl ⟨_, _, _, _, rfl, rfl, sqT_mono (fun o n e => (hide_some e).2) s1, sqT_mono (fun o n e => (hide_some e).2) s2, by rw [l1, l2, sizeLine_eq]; omega, fun e0 => ?_, fun _ e0 => ?_, fun _ _ p np => kk _ _ (Xt.upd np) (ht.new np) (tup_new np (new_out occ np) (DpAll.app a1 a2))⟩)
          · subst e0
            cases a1
            exact kk _ H (Xt.refl H) ht (.tup s2 a2)
          · subst e0
            cases a2
            rw [List.append_nil] at kk
            exact kk _ H (Xt.refl H) ht (.tup s1 a1)
    · cases h3
theorem we_plus (ha : WE X Ts ρ e F) (hb : WE X Ts ρ e2 G) : WE X Ts ρ (.BinOp e .Add e2 pos) (w2 gPlus F G) := PE.imp (pe_op op_plus ha hb) (ww_2 op2_plus)
def wTB (F : WF) : En → (Bool → Prop) → Prop := fun en Q => F en fun d => ∃ b, d = .bool b ∧ Q b
theorem wt_of {t : TE} (h : PT X e (tTest t)) (w : ∀ σ H Q, tW X.K Ts ρ F σ H Q → t σ H Q) (hm : ∀ en Q Q', (∀ d, Q d → Q' d) → F en Q → F en Q') : WT X Ts ρ e (wTB F) := PT.imp h fun σ H Q ⟨He, O, en, Qd, rp, hF, kk⟩ =>
  w σ H _ ⟨He, O, en, _, rp, hF, fun d v H' ⟨b, hb, hq⟩ r' q x => by subst hb; cases q; exact ⟨b, rfl, kk b H' hq r' x⟩⟩
def wNil : En → (List PyData → Prop) → Prop := fun _ Q => Q []
def wCons (F : WF) (G : En → (List PyData → Prop) → Prop) : En → (List PyData → Prop) → Prop := fun en Q => F en fun x => G en fun xs => Q (x :: xs)
variable {Gs : En → (List PyData → Prop) → Prop}
theorem wa_nil : WA X Ts ρ [] wNil := PA.imp pa_nil fun σ H Q ⟨He, O, en, Qd, rp, hF, kk⟩ => kk [] [] H hF rp .nil (Xw.refl _)
theorem wa_cons (ha : WE X Ts ρ e F) (hr : WA X Ts ρ es Gs) (hs : starEach (e :: es) X.env = (false, eval e X.env) :: starEach es X.env := by rfl) : WA X Ts ρ (e :: es) (wCons F Gs) := PA.imp (pa_cons ha hr hs) fun σ H Q ⟨He, O, en, Qd, rp, hF, kk⟩ =>
  ⟨He, O, en, _, rp, hF, fun x v H1 hx r1 q1 x1 => ⟨He, O, en, _, r1, hx, fun xs vs H2 hxs r2 q2 x2 => kk _ _ H2 hxs r2 (.cons (Dp.mono x2.1 q1) q2) (x1.trans x2)⟩⟩
def wLst (G : En → (List PyData → Prop) → Prop) : WF := fun en Q => G en fun ds => ds.length ≤ 64 ∧ Q (.list ds)
theorem we_lst (h : WA X Ts ρ es Gs) : WE X Ts ρ (.List es pos) (wLst Gs) := PE.imp (pe_lst h) fun σ H Q ⟨He, O, en, Qd, rp, hF, kk⟩ =>
  ⟨He, O, en, _, rp, hF, fun ds vs H1 ⟨hl, hq⟩ r1 q1 x1 => ⟨by rw [DpAll.len q1]; exact small64 hl, fun p np => kk _ _ _ hq (r1.go (Xt.upd np) (r1.tabs'.new np)) (lst_new np (new_out r1.occ np) q1) (x1.trans (Xw.of (Xt.upd np)))⟩⟩
def spW (K : PySem.W.Frag) (Ts : TsT) (n : Nat) (F : List PyData → (PyData → Prop) → Prop) : Sp := fun vs H Q _ => vs.length = n + 1 ∧ ∃ a vs' O ds rw ws Qd, vs = .ref a :: vs' ∧ a ∈ O ∧ H a = some (.lst ws) ∧ DpAll K (hide H O) ws rw ∧ RowOk rw ∧ DpAll K (hide H O) vs' ds ∧ Tb Ts H ∧
  (∀ b ∈ O, H b ≠ none ∧ ∀ ps, H b ≠ some (.tbl ps)) ∧ F ds Qd ∧ ∀ d v H' rw' ws', Qd d → RowOk rw' → H' a = some (.lst ws') → DpAll K (hide H' O) ws' rw' → XtB a H H' → Tb Ts H' → Dp K (hide H' O) v d → Q v H'
theorem spW.imp {n : Nat} {F G : List PyData → (PyData → Prop) → Prop} (h : ∀ ds Q, G ds Q → F ds Q) : ∀ vs H Q E, spW K Ts n G vs H Q E → spW K Ts n F vs H Q E :=
  fun vs H Q E ⟨h1, a, vs', O, ds, rw, ws, Qd, e1, e2, e3, e4, e5, e6, e7, e8, e9, k⟩ => ⟨h1, a, vs', O, ds, rw, ws, Qd, e1, e2, e3, e4, e5, e6, e7, e8, h ds Qd e9, k⟩
structure CW (P : Program) (w : World) (K : PySem.W.Frag) (mg : Str → Option Value) (base : Heap) (Ts : TsT) (k : Nat) (x : Str) (n : Nat) (F : List PyData → (PyData → Prop) → Prop) : Prop where
  ex : ∃ f fd ps, mg x = some (.ref f) ∧ PySem.W.keepIn K (.ref f) = true ∧ Binds K fd ps [] ∧ FnOk P w K mg base CX0 k f fd ps (spW K Ts n F)
theorem CW.imp {P : Program} {w : World} {mg : Str → Option Value} {base : Heap} {k : Nat} {x : Str} {n : Nat} {F G : List PyData → (PyData → Prop) → Prop} (c : CW P w K mg base Ts k x n F) (h : ∀ ds Q, G ds Q → F ds Q) : CW P w K mg base Ts k x n G := by
  obtain ⟨f, fd, ps, h1, h2, h3, h4⟩ := c.ex
  exact ⟨f, fd, ps, h1, h2, h3, h4.imp (spW.imp h)⟩
def wDraw (n : Nat) (Fn : List PyData → (PyData → Prop) → Prop) (G : En → (List PyData → Prop) → Prop) : WF := fun en Q => G en fun ds => ds.length = n ∧ Fn ds Q
theorem WRep.back {He : Hp} {O : List Addr} {σ : St} {H H' : Hp} {en : En} {a : Addr} {rw' : List PyData} {ws' : List V} (r : WRep K Ts ρ He O σ H en) (hs : σ[ρ]? = some (some (V.ref a))) (hr : RowOk rw') (ha : H' a = some (.lst ws')) (q : DpAll K (hide H' O) ws' rw') (x : XtB a H H') (t : Tb Ts H') : WRep K Ts ρ He O σ H' en ∧ Xt (hide H O) (hide H' O) := by
  obtain ⟨hl, rw, hr0, rp⟩ := r
  have hρ : (en.set ρ (Slot.own rw))[ρ]? = some (Slot.own rw) := by rw [List.getElem?_set_self hl]
  obtain ⟨a0, vs0, p1, p2, p3, p4, p5⟩ := rp.own ρ rw hρ
  rw [hs] at p1
  cases p1
  have xh : Xt (hide H O) (hide H' O) := fun b o e => by
    obtain ⟨e1, e2⟩ := hide_some e
    have hne : b ≠ a := fun z => e1 (z ▸ p2)
    rcases x b o hne e2 with q | ⟨ps, qs, e3, q⟩
    · exact .inl (hide_of e1 q)
    · exact .inr ⟨ps, qs, e3, hide_of e1 q⟩
  have toOwn : ∀ (j : Nat) (es : List PyData), (en.set ρ (Slot.own rw'))[j]? = some (Slot.own es) → ∃ es', (en.set ρ (Slot.own rw))[j]? = some (Slot.own es') := fun j es h => by
    by_cases hj : ρ = j
    · subst hj; exact ⟨rw, hρ⟩
    · rw [List.getElem?_set_ne hj] at h ⊢; exact ⟨es, h⟩
  refine ⟨⟨hl, rw', hr, ⟨by simpa using rp.len, fun j d h => ?_, fun j es h => ?_, fun j k es es' aa h1 h2 h3 h4 => ?_, fun b hb => ?_, fun b o e => ?_, t⟩⟩, xh⟩
  · have hj : ρ ≠ j := fun z => by subst z; rw [List.getElem?_set_self hl] at h; cases h
    rw [List.getElem?_set_ne hj] at h
    obtain ⟨v, q1, q2⟩ := rp.dat j d (by rw [List.getElem?_set_ne hj]; exact h)
    exact ⟨v, q1, Dp.mono xh q2⟩
  · by_cases hj : ρ = j
    · subst hj
      rw [List.getElem?_set_self hl] at h
      cases h
      exact ⟨a, ws', hs, p2, p3, ha, q⟩
    · rw [List.getElem?_set_ne hj] at h
      obtain ⟨a', vs', q1, q2, q3, q4, q5⟩ := rp.own j es (by rw [List.getElem?_set_ne hj]; exact h)
      have hne : a' ≠ a := fun z => hj (by subst z; exact rp.inj ρ j rw es a' hρ (by rw [List.getElem?_set_ne hj]; exact h) hs q1)
      rcases x a' _ hne q4 with q | ⟨_, _, z, _⟩
      · exact ⟨a', vs', q1, q2, q3, q, DpAll.mono xh q5⟩
      · cases z
  · obtain ⟨e1, g1⟩ := toOwn j es h1
    obtain ⟨e2, g2⟩ := toOwn k es' h2
    exact rp.inj j k e1 e2 aa g1 g2 h3 h4
  · by_cases z : b = a
    · rw [z, ha]
      exact ⟨by simp, fun ps z => nomatch z⟩
    · obtain ⟨n1, n2⟩ := rp.occ b hb
      cases e : H b with
      | none => exact absurd e n1
      | some o =>
        rcases x b o z e with q | ⟨ps, qs, e3, q⟩
        · rw [q]; exact ⟨by simp, fun ps z => n2 ps (by rw [e]; exact z)⟩
        · exact absurd (by rw [e, e3]) (n2 ps)
  · have hne : b ≠ a := fun z => by rw [z, p3] at e; cases e
    rcases rp.ext b o e with q | ⟨ps, qs, e3, q⟩
    · exact x b o hne q
    · rcases x b _ hne q with q' | ⟨_, qs', _, q'⟩
      · exact .inr ⟨ps, qs, e3, q'⟩
      · exact .inr ⟨ps, qs', e3, q'⟩
theorem WRep.at {He : Hp} {O : List Addr} {σ : St} {H : Hp} {en : En} (r : WRep K Ts ρ He O σ H en) : ∃ a rw ws, σ[ρ]? = some (some (V.ref a)) ∧ a ∈ O ∧ He a = none ∧ H a = some (.lst ws) ∧ DpAll K (hide H O) ws rw ∧ RowOk rw := by
  obtain ⟨hl, rw, hr, rp⟩ := r
  obtain ⟨a, vs, p1, p2, p3, p4, p5⟩ := rp.own ρ rw (by rw [List.getElem?_set_self hl])
  exact ⟨a, rw, vs, p1, p2, p3, p4, p5, hr⟩
theorem we_draw {k j n : Nat} {x y : Str} {py : Pos} {Fn : List PyData → (PyData → Prop) → Prop} (hr : Room j X.A) (hF : CW X.prog X.w X.K X.mg X.base Ts k x n Fn) (hk : k ≤ j) (hg : Gl X x) (hN : X.N[ρ]? = some y) (hv : Vis X.env.scope y) (ha : WA X Ts ρ es Gs) (hdb : (x == ("__debug__" : Str)) = false := by decide) (hd : (y == ("__debug__" : Str)) = false := by decide)
    (hcd : (y == ("__classdict__" : Str)) = false := by decide) (he : starEach (.Name y py :: es) X.env = (false, eval (.Name y py) X.env) :: starEach es X.env := by rfl) (hpl : (backTo pos (starEach es X.env)).any (·.1) = false := by rfl) : WE X Ts ρ (.Call (.Name x p) (.Name y py :: es) [] pos) (wDraw n Fn Gs) := by
  obtain ⟨f, fd, ps, h1, h2, h3, h4⟩ := hF.ex
  refine PE.imp (pe_call h4 (hr.mono hk) hg h1 h2 h3 .nil pass0 (pa_cons (pe_var hN hv hd hcd) ha he) hdb he hpl) fun σ H Q ⟨He, O, en, Qd, rp, hF, kk⟩ => ?_
  obtain ⟨a, rw, ws, p1, p2, p3, p4, p5, p6⟩ := rp.at
  refine ⟨.ref a, p1, He, O, en, _, rp, hF, fun ds vs H1 ⟨hl, hq⟩ r1 q1 x1 => ?_⟩
  obtain ⟨a', rw1, ws1, s1, s2, s3, s4, s5, s6⟩ := r1.at
  rw [p1] at s1
  cases s1
  show spW X.K Ts n Fn ((V.ref a :: vs) ++ []) H1 Q E0
  rw [List.append_nil]
  exact ⟨by rw [List.length_cons, DpAll.len q1, hl], a, vs, O, ds, rw1, ws1, Qd, rfl, s2, s4, s5, s6, q1, r1.tabs', r1.occ, hq, fun d v H' rw' ws' hd hrw ha' hq' hx ht hdp => by
    obtain ⟨b1, b2⟩ := r1.back p1 hrw ha' hq' hx ht
    exact kk d v H' hd b1 hdp (x1.trans ⟨b2, fun a2 h2 => by rw [p1] at h2; cases h2; exact hx⟩)⟩
end
def BOk (ρ : Nat) (b : PyData → En → Option En) : Prop := ∀ (d : PyData) (en en' : En) (rw : List PyData), b d en = some en' → b d (en.set ρ (.own rw)) = some (en'.set ρ (.own rw)) ∧ en'.length = en.length ∧
  (∀ j es, j ≠ ρ → en'[j]? = some (Slot.own es) → en[j]? = some (Slot.own es))
theorem bOk_name {ρ i : Nat} (h : i ≠ ρ) : BOk ρ (bName i) := fun d en en' rw hb => by
  unfold bName at hb ⊢
  split at hb
  · rename_i hi
    cases hb
    refine ⟨by rw [if_pos (by simpa using hi), List.set_comm _ _ (Ne.symm h)], by simp, fun j es hj h1 => ?_⟩
    have hij : i ≠ j := fun z => by subst z; rw [List.getElem?_set_self hi] at h1; cases h1
    rwa [List.getElem?_set_ne hij] at h1
  · cases hb
theorem bOk_names {ρ : Nat} : ∀ {is : List Nat}, (∀ i ∈ is, i ≠ ρ) → ∀ (ds : List PyData) (en en' : En) (rw : List PyData), bNames is ds en = some en' → bNames is ds (en.set ρ (.own rw)) = some (en'.set ρ (.own rw)) ∧ en'.length = en.length ∧
  (∀ j es, j ≠ ρ → en'[j]? = some (Slot.own es) → en[j]? = some (Slot.own es))
  | [], _, [], en, en', rw, h => by cases h; exact ⟨rfl, rfl, fun _ _ _ h => h⟩
  | [], _, _ :: _, _, _, _, h => by cases h
  | _ :: _, _, [], _, _, _, h => by cases h
  | i :: is, hi, d :: ds, en, en', rw, h => by
    obtain ⟨e1, h1, h2⟩ := Option.bind_eq_some_iff.mp h
    obtain ⟨a1, a2, a3⟩ := bOk_name (hi i List.mem_cons_self) d en e1 rw h1
    obtain ⟨b1, b2, b3⟩ := bOk_names (fun j hj => hi j (List.mem_cons_of_mem _ hj)) ds e1 en' rw h2
    exact ⟨by show (bName i d (en.set ρ (.own rw))).bind _ = _; rw [a1]; exact b1, b2.trans a2, fun j es hj h => a3 j es hj (b3 j es hj h)⟩
theorem bOk_tup {ρ : Nat} {is : List Nat} (h : ∀ i ∈ is, i ≠ ρ) : BOk ρ (bTup is) := fun d en en' rw hb => by
  cases d <;> try cases hb
  exact bOk_names h _ en en' rw hb
def tWI (K : PySem.W.Frag) (Ts : TsT) (ρ : Nat) (F : En → (List PyData → Prop) → Prop) : TI := fun σ H R => ∃ He O en Qd, WRep K Ts ρ He O σ H en ∧ F en Qd ∧ ∀ ds J H1, Qd ds → WRep K Ts ρ He O σ H1 en → Xw ρ σ O H H1 → Gives K Ts J ds H1 O → R J H1
abbrev WI (X : Cx) (Ts : TsT) (ρ : Nat) (tg iter : Expr) (F : En → (List PyData → Prop) → Prop) : Prop := PI X tg iter (tWI X.K Ts ρ F)
def gWD (K : PySem.W.Frag) (Ts : TsT) (ρ : Nat) (vs : List Nat) (b : PyData → En → Option En) : TG := fun x σ H Q => ∃ He O en d en', WRep K Ts ρ He O σ H en ∧ Dp K (hide H O) x d ∧ b d en = some en' ∧ ∀ σ', WRep K Ts ρ He O σ' H en' → wipe σ' vs = wipe σ vs → Q σ' H
section
variable {K : PySem.W.Frag} {X : Cx} {Ts : TsT} {ρ : Nat} {pos p : Pos} {e e2 tg iter elt : Expr} {es : List Expr} {f : En → Option PyData} {F G : WF} {it : En → (List PyData → Prop) → Prop} {b : PyData → En → Option En} {t : En → (Bool → Prop) → Prop}
theorem wg_of {vs : List Nat} (h : DG X Ts tg vs b) (hb : BOk ρ b) : PG X tg (gWD X.K Ts ρ vs b) := PG.imp h fun x σ H Q ⟨He, O, en, d, en', ⟨hl, rw, hr, rp⟩, q, hbd, kk⟩ =>
  ⟨He, O, _, d, _, rp, q, (hb d en en' rw hbd).1, fun σ' r' w' => kk σ' ⟨by rw [(hb d en en' rw hbd).2.1]; exact hl, rw, hr, r'⟩ w'⟩
def wRange1 (F : WF) : En → (List PyData → Prop) → Prop := fun en Q => F en fun d => ∃ j : Int, d = .int j ∧ -1000000 ≤ j ∧ j ≤ 1000000 ∧ Q (rangeD 0 j.toNat)
theorem wi_range1 (hg : Gl X "range") (hm : X.mg "range" = none) (ha : WE X Ts ρ e F) (hs : starEach [e] X.env = [(false, eval e X.env)] := by rfl) : WI X Ts ρ tg (.Call (.Name "range" p) [e] [] pos) (wRange1 F) :=
  PI.imp (pi_range1 (ta := tCons (tW X.K Ts ρ F) tNil) hg hm (pa_cons ha pa_nil hs) hs) fun σ H R ⟨He, O, en, Qd, rp, hF, kk⟩ =>
    ⟨He, O, en, _, rp, hF, fun d v H1 ⟨j, hj, h1, h2, hq⟩ r1 q1 x1 => by
      subst hj
      cases q1
      exact ⟨j, rfl, by omega, by omega, kk _ _ H1 hq r1 x1 gives_range⟩⟩
def wlcGo (b : PyData → En → Option En) (t : En → (Bool → Prop) → Prop) (f : WF) (en : En) : List PyData → (List PyData → Prop) → Prop
  | [], Q => Q []
  | d :: r, Q => ∃ e1, b d en = some e1 ∧ t e1 fun k => if k = true then f e1 fun y => wlcGo b t f en r fun o => Q (y :: o) else wlcGo b t f en r Q
def wLc (it : En → (List PyData → Prop) → Prop) (b : PyData → En → Option En) (t : En → (Bool → Prop) → Prop) (f : WF) (vs : List Nat) : WF := fun en Q => (∀ j ∈ vs, ∀ es, en[j]? ≠ some (Slot.own es)) ∧ it en fun ds => ds.length ≤ 1000000 ∧ wlcGo b t f (wipeE en vs) ds fun o => Q (.list o)
def wYes : En → (Bool → Prop) → Prop := fun _ Q => Q true
theorem wts_nil : PTs X [] (tWT X.K Ts ρ wYes) := ⟨fun pins s σ H Q I ⟨He, O, en, Qd, rp, hF, kk⟩ => pts_nil.run pins s σ H Q I (kk true H hF rp (Xw.refl _))⟩
theorem wipeE_set {en : En} {vs : List Nat} {x : Slot} (h : ρ ∉ vs) : wipeE (en.set ρ x) vs = (wipeE en vs).set ρ x := by
  induction vs with
  | nil => rfl
  | cons v vs ih =>
    have h1 : v ≠ ρ := fun e => h (by rw [e]; exact List.mem_cons_self)
    have h2 : ρ ∉ vs := fun m => h (List.mem_cons_of_mem _ m)
    show (wipeE (en.set ρ x) vs).set v .no = ((wipeE en vs).set v .no).set ρ x
    rw [ih h2, List.set_comm _ _ (Ne.symm h1)]
theorem wipeE_len (en : En) : ∀ vs : List Nat, (wipeE en vs).length = en.length
  | [] => rfl
  | v :: vs => by
    show ((wipeE en vs).set v .no).length = _
    rw [List.length_set, wipeE_len en vs]
theorem WRep.wipe {He : Hp} {O : List Addr} {σ : St} {H : Hp} {en : En} (r : WRep K Ts ρ He O σ H en) {vs : List Nat} (h : ρ ∉ vs) : WRep K Ts ρ He O (L2.wipe σ vs) H (wipeE en vs) := by
  obtain ⟨hl, rw, hr, rp⟩ := r
  refine ⟨by rw [wipeE_len]; exact hl, rw, hr, ?_⟩
  have := rp.wipe vs
  rwa [wipeE_set h] at this
theorem WRep.hid {He : Hp} {O : List Addr} {σ : St} {H : Hp} {en : En} (r : WRep K Ts ρ He O σ H en) {D : Addr} (hD : H D = none) {o : HO} (no : ∀ ps, o ≠ .tbl ps) : WRep K Ts ρ He (D :: O) σ (upd H D o) en := by
  obtain ⟨hl, rw, hr, rp⟩ := r
  exact ⟨hl, rw, hr, rp.hid hD no⟩
theorem WRep.join {He : Hp} {O : List Addr} {σ σ2 : St} {H H5 : Hp} {en e2 : En} (r1 : WRep K Ts ρ He O σ H en) (r2 : WRep K Ts ρ He O σ2 H5 e2) (x : Xt (hide H O) (hide H5 O)) (hρ : σ2[ρ]? = σ[ρ]?)
    (ho : ∀ (j : Nat) (es : List PyData), j ≠ ρ → en[j]? = some (Slot.own es) → e2[j]? = some (Slot.own es) ∧ σ2[j]? = σ[j]?) : WRep K Ts ρ He O σ H5 en := by
  obtain ⟨hl, rw1, hr1, rp1⟩ := r1
  obtain ⟨hl2, rw2, hr2, rp2⟩ := r2
  have h2ρ : (e2.set ρ (Slot.own rw2))[ρ]? = some (Slot.own rw2) := by rw [List.getElem?_set_self hl2]
  have h1ρ : (en.set ρ (Slot.own rw1))[ρ]? = some (Slot.own rw1) := by rw [List.getElem?_set_self hl]
  have toOwn : ∀ (j : Nat) (es : List PyData), (en.set ρ (Slot.own rw2))[j]? = some (Slot.own es) → ∃ es', (en.set ρ (Slot.own rw1))[j]? = some (Slot.own es') := fun j es h => by
    by_cases hj : ρ = j
    · subst hj; exact ⟨rw1, h1ρ⟩
    · rw [List.getElem?_set_ne hj] at h ⊢; exact ⟨es, h⟩
  refine ⟨hl, rw2, hr2, ⟨by simpa using rp1.len, fun j d h => ?_, fun j es h => ?_, fun j k es es' aa h1 h2 h3 h4 => ?_, rp2.occ, rp2.ext, rp2.tabs⟩⟩
  · have hj : ρ ≠ j := fun z => by subst z; rw [List.getElem?_set_self hl] at h; cases h
    rw [List.getElem?_set_ne hj] at h
    obtain ⟨v, q1, q2⟩ := rp1.dat j d (by rw [List.getElem?_set_ne hj]; exact h)
    exact ⟨v, q1, Dp.mono x q2⟩
  · by_cases hj : ρ = j
    · subst hj
      rw [List.getElem?_set_self hl] at h
      cases h
      obtain ⟨a, vs, p1, p2⟩ := rp2.own ρ rw2 h2ρ
      exact ⟨a, vs, by rw [← hρ]; exact p1, p2⟩
    · rw [List.getElem?_set_ne hj] at h
      obtain ⟨q1, q2⟩ := ho j es (Ne.symm hj) h
      obtain ⟨a, vs, p1, p2⟩ := rp2.own j es (by rw [List.getElem?_set_ne hj]; exact q1)
      exact ⟨a, vs, by rw [← q2]; exact p1, p2⟩
  · obtain ⟨f1, g1⟩ := toOwn j es h1
    obtain ⟨f2, g2⟩ := toOwn k es' h2
    exact rp1.inj j k f1 f2 aa g1 g2 h3 h4
theorem wipeE_out {en : En} {i : Nat} : ∀ {vs : List Nat}, i ∉ vs → (wipeE en vs)[i]? = en[i]?
  | [], _ => rfl
  | v :: vs, h => by
    have h1 : v ≠ i := fun e => h (by rw [e]; exact List.mem_cons_self)
    have h2 : i ∉ vs := fun m => h (List.mem_cons_of_mem _ m)
    show ((wipeE en vs).set v .no)[i]? = _
    rw [List.getElem?_set_ne h1]
    exact wipeE_out h2
theorem WRep.free {He : Hp} {O : List Addr} {σ : St} {H : Hp} {en : En} {D : Addr} (r : WRep K Ts ρ He O σ H en) (nD : H D = none) : ∀ (j : Nat) (es : List PyData) (a : Addr), (∃ rw, (en.set ρ (Slot.own rw))[j]? = some (Slot.own es)) → σ[j]? = some (some (V.ref a)) → a ≠ D := fun j es a ⟨rw', h1⟩ h2 z => by
  obtain ⟨hl, rw0, hr0, rp0⟩ := r
  have : ∃ es', (en.set ρ (Slot.own rw0))[j]? = some (Slot.own es') := by
    by_cases hj : ρ = j
    · subst hj; exact ⟨rw0, by rw [List.getElem?_set_self hl]⟩
    · rw [List.getElem?_set_ne hj] at h1 ⊢; exact ⟨es, h1⟩
  obtain ⟨es', h3⟩ := this
  obtain ⟨a', vs', g1, g2, g3, g4, _⟩ := rp0.own j es' h3
  rw [h2] at g1
  cases g1
  rw [z, nD] at g4
  cases g4
theorem WRep.grow {He : Hp} {O : List Addr} {σ : St} {H : Hp} {en : En} {D : Addr} {l l' : List V} (r : WRep K Ts ρ He O σ H en) (hm : D ∈ O) (hD : H D = some (.lst l)) (nE : He D = none) (no : ∀ (j : Nat) (es : List PyData) (a : Addr), (∃ rw, (en.set ρ (Slot.own rw))[j]? = some (Slot.own es)) → σ[j]? = some (some (V.ref a)) → a ≠ D) : WRep K Ts ρ He O σ (upd H D (.lst l')) en := by
  obtain ⟨hl, rw, hr, rp⟩ := r
  have hu : Xt (hide H O) (hide (upd H D (.lst l')) O) := hide_upd hm
  refine ⟨hl, rw, hr, ⟨rp.len, fun j dd h => let ⟨u, p, q⟩ := rp.dat j dd h; ⟨u, p, Dp.mono hu q⟩, fun j es h => ?_, rp.inj, fun bb hb => ?_, fun bb o e => ?_, rp.tabs.upd fun u z => by rw [hD] at z; cases z; exact lst_noc⟩⟩
  · obtain ⟨a, ws, p1, p2, p3, p4, p5⟩ := rp.own j es h
    exact ⟨a, ws, p1, p2, p3, by rw [upd_ne (no j es a ⟨rw, h⟩ p1)]; exact p4, DpAll.mono hu p5⟩
  · by_cases z : bb = D
    · rw [z, upd_same]
      exact ⟨by simp, fun ps q => nomatch q⟩
    · rw [upd_ne z]
      exact rp.occ bb hb
  · have hne : bb ≠ D := fun z => by rw [z, nE] at e; cases e
    rw [upd_ne hne]
    exact rp.ext bb o e
end
section
variable {X : Cx} {Ts : TsT} {ρ : Nat} {pos p : Pos} {e elt tg iter : Expr} {ifs : List Expr} {scope : Scope} {own : List (Str × Nat)} {it : En → (List PyData → Prop) → Prop} {b : PyData → En → Option En} {t : En → (Bool → Prop) → Prop} {F : WF}
def Mn (F : WF) : Prop := ∀ en Q Q', (∀ d, Q d → Q' d) → F en Q → F en Q'
def MnT (F : En → (Bool → Prop) → Prop) : Prop := ∀ en Q Q', (∀ d, Q d → Q' d) → F en Q → F en Q'
def MnI (F : En → (List PyData → Prop) → Prop) : Prop := ∀ en Q Q', (∀ d, Q d → Q' d) → F en Q → F en Q'
theorem mnt_yes : MnT wYes := fun _ _ _ h q => h _ q
theorem bName_out {i : Nat} : ∀ (d : PyData) (en e1 : En) (j : Nat), j ∉ [i] → bName i d en = some e1 → e1[j]? = en[j]? := fun d en e1 j hj h => by
  unfold bName at h
  split at h
  · cases h
    rw [List.getElem?_set_ne (fun z => hj (by rw [z]; exact List.mem_cons_self))]
  · cases h
end
section
variable {P : Program} {w : World} {K : PySem.W.Frag} {mg : Str → Option Value} {base : Heap} {Ts : TsT}
def runW (n : Nat) (F : WF) : List PyData → (PyData → Prop) → Prop := fun ds Q => F (Slot.no :: (ds.map Slot.dat ++ List.replicate (n - 1 - ds.length) Slot.no)) Q
theorem start_get {N : List Str} {vs : List V} {i : Nat} {v : V} (h : vs[i]? = some v) : (L2.start N vs)[i]? = some (some v) := by
  have hi : i < vs.length := (List.getElem?_eq_some_iff.mp h).1
  unfold L2.start
  rw [List.getElem?_append_left (by simpa using hi), List.getElem?_map, h]
  rfl
theorem wrep_start {N : List Str} {n : Nat} {vs : List V} {H : Hp} {O : List Addr} {a : Addr} {vs' : List V} {ds rw : List PyData} {ws : List V} (hn : vs.length = n + 1) (hN : vs.length ≤ N.length) (e1 : vs = .ref a :: vs') (e2 : a ∈ O) (e3 : H a = some (.lst ws)) (e4 : DpAll K (hide H O) ws rw) (e6 : DpAll K (hide H O) vs' ds) (e7 : Tb Ts H) (e8 : ∀ b ∈ O, H b ≠ none ∧ ∀ ps, H b ≠ some (.tbl ps)) :
    Rep K Ts (fun b => if b = a then none else H b) O (L2.start N vs) H (Slot.own rw :: (ds.map Slot.dat ++ List.replicate (N.length - 1 - ds.length) Slot.no)) := by
  subst e1
  have hl := DpAll.len e6
  have hlen : (Slot.own rw :: (ds.map Slot.dat ++ List.replicate (N.length - 1 - ds.length) Slot.no)).length = (L2.start N (V.ref a :: vs')).length := by
    simp [L2.start, hl]; simp at hN; omega
  refine ⟨hlen, fun i d h => ?_, fun i es h => ?_, fun i j es es' b h1 h2 h3 h4 => ?_, e8, fun b o e => ?_, e7⟩
  · cases i with
    | zero => cases h
    | succ i =>
      rw [List.getElem?_cons_succ] at h
      by_cases hi : i < ds.length
      · rw [List.getElem?_append_left (by simpa using hi), List.getElem?_map] at h
        obtain ⟨d', h1, h2⟩ := Option.map_eq_some_iff.mp h
        cases h2
        obtain ⟨v, h3, h4⟩ := DpAll.get' e6 h1
        exact ⟨v, start_get (by rw [List.getElem?_cons_succ]; exact h3), h4⟩
      · rw [List.getElem?_append_right (by simpa using hi), List.getElem?_replicate] at h
        split at h <;> cases h
  · cases i with
    | zero =>
      cases h
      exact ⟨a, ws, start_get rfl, e2, if_pos rfl, e3, e4⟩
    | succ i =>
      rw [List.getElem?_cons_succ] at h
      by_cases hi : i < ds.length
      · rw [List.getElem?_append_left (by simpa using hi), List.getElem?_map] at h
        obtain ⟨d', h1, h2⟩ := Option.map_eq_some_iff.mp h
        cases h2
      · rw [List.getElem?_append_right (by simpa using hi), List.getElem?_replicate] at h
        split at h <;> cases h
  · have zero : ∀ {k : Nat} {es : List PyData}, (Slot.own rw :: (ds.map Slot.dat ++ List.replicate (N.length - 1 - ds.length) Slot.no))[k]? = some (Slot.own es) → k = 0 := fun {k es} h => by
      cases k with
      | zero => rfl
      | succ i =>
        rw [List.getElem?_cons_succ] at h
        by_cases hi : i < ds.length
        · rw [List.getElem?_append_left (by simpa using hi), List.getElem?_map] at h
          obtain ⟨d', h1, h2⟩ := Option.map_eq_some_iff.mp h
          cases h2
        · rw [List.getElem?_append_right (by simpa using hi), List.getElem?_replicate] at h
          split at h <;> cases h
    rw [zero h1, zero h2]
  · split at e
    · cases e
    · exact .inl e
theorem DF.okW {x qual : Str} {st : Stmt} {f : Addr} {fd : FuncData} {cdv : Value} {N ps : List Str} {k n : Nat} {F : WF} {e : Expr} {pos : Pos} (D : DF K x qual st f fd cdv) (S : FnScope N ps (defScope st)) (hn : ps.length = n + 1) (hN : n + 1 ≤ N.length) (hb : defBody st = [.Return (some e) pos])
    (hbody : ∀ (A : Around) (outer : List Env) (s : Shared) (H : Hp) (E : XK), Room k (A.deeper (envOfC qual (defScope st) s.heap.objs.size f cdv)) → WE (cxOf CX0 P w K mg base N qual (defScope st) f cdv A outer s H E).nox Ts 0 e F) :
    FnOk P w K mg base CX0 (k + 1) f fd ps (spW K Ts n (runW N.length F)) := by
  obtain ⟨oc, od, dV, kV, doc, pm, an, ct, osl, rfl, lk, hcd⟩ := D.ex
  refine fn_of lk hcd S (fun vs H Q E h => h.1.trans hn.symm) fun A outer s H vs Q E hr hsp => ?_
  rw [hb]
  refine ⟨_, (pss_one (ps_ret (hbody A outer s H E hr))).nox, ?_⟩
  obtain ⟨hl, a, vs', O, ds, rw', ws, Qd, e1, e2, e3, e4, e5, e6, e7, e8, hF, kk⟩ := hsp
  have rp := wrep_start (N := N) hl (by omega) e1 e2 e3 e4 e6 e7 e8
  have hs : (L2.start N vs)[0]? = some (some (V.ref a)) := by rw [e1]; exact start_get rfl
  refine ⟨fun b => if b = a then none else H b, O, _, Qd, ⟨?_, rw', e5, ?_⟩, hF, fun d v H' hd r' q x => ?_⟩
  · simp
  · exact rp
  · obtain ⟨a', rw2, ws2, s1, s2, s3, s4, s5, s6⟩ := r'.at
    rw [hs] at s1
    cases s1
    exact kk d v H' rw2 ws2 hd s6 s4 s5 (x.2 a hs) r'.tabs' q
end
abbrev ZF := En → (En → Prop) → (PyData → En → Prop) → Prop
def tZ (K : PySem.W.Frag) (Ts : TsT) (ρ : Nat) (F : ZF) : TS := fun D σ H => ∃ He O en N R a, Rep K Ts He O σ H en ∧ σ[ρ]? = some (some (V.ref a)) ∧ F en N R ∧
  (∀ en' σ' H', N en' → Rep K Ts He O σ' H' en' → σ'[ρ]? = some (some (V.ref a)) → XtB a H H' → D.nx σ' H') ∧
  (∀ d en' v σ' H', R d en' → Rep K Ts He O σ' H' en' → σ'[ρ]? = some (some (V.ref a)) → XtB a H H' → Dp K (hide H' O) v d → D.rt v H')
abbrev ZS (X : Cx) (Ts : TsT) (ρ : Nat) (st : Stmt) (F : ZF) : Prop := PS X st (tZ X.K Ts ρ F)
abbrev ZSs (X : Cx) (Ts : TsT) (ρ : Nat) (st : List Stmt) (F : ZF) : Prop := PSs X st (tZ X.K Ts ρ F)
def zNil : ZF := fun en N _ => N en
def zSeq (F G : ZF) : ZF := fun en N R => F en (fun e1 => G e1 N R) R
def zSet (i : Nat) (f : En → Option PyData) : ZF := fun en N _ => ∃ d e1, f en = some d ∧ bName i d en = some e1 ∧ N e1
def zRow (ρ c : Nat) (f : En → Option PyData) : ZF := fun en N _ => ∃ d ds, f en = some d ∧ en[ρ]? = some (Slot.own ds) ∧ c < ds.length ∧ N (en.set ρ (.own (ds.set c d)))
def zIf (t : En → Option Bool) (F G : ZF) : ZF := fun en N R => ∃ b, t en = some b ∧ if b = true then F en N R else G en N R
def zRet (f : En → Option PyData) : ZF := fun en _ R => ∃ d, f en = some d ∧ R d en
theorem XtB.refl {a : Addr} (H : Hp) : XtB a H H := .of (Xt.refl H)
theorem DpAll.set {K : PySem.W.Frag} {H : Hp} {v : V} {d : PyData} : ∀ {vs : List V} {ds : List PyData} (c : Nat), DpAll K H vs ds → Dp K H v d → DpAll K H (vs.set c v) (ds.set c d)
  | _, _, _, .nil, _ => .nil
  | _, _, 0, .cons _ b, q => .cons q b
  | _, _, n + 1, .cons a b, q => .cons a (DpAll.set n b q)
theorem Rep.own_set {K : PySem.W.Frag} {Ts : TsT} {He : Hp} {O : List Addr} {σ : St} {H : Hp} {en : En} {i : Nat} {a : Addr} {vs vs' : List V} {ds ds' : List PyData} (rp : Rep K Ts He O σ H en) (hd : en[i]? = some (Slot.own ds)) (p1 : σ[i]? = some (some (V.ref a))) (p2 : a ∈ O) (p3 : He a = none) (p4 : H a = some (.lst vs)) (q : DpAll K (hide H O) vs' ds') :
    Rep K Ts He O σ (upd H a (.lst vs')) (en.set i (.own ds')) := by
  have hi : i < en.length := (List.getElem?_eq_some_iff.mp hd).1
  have hu : Xt (hide H O) (hide (upd H a (.lst vs')) O) := hide_upd p2
  refine ⟨by simp [rp.len], fun j d' h => ?_, fun j es h => ?_, fun j kk es es' aa h1 h2 h3 h4 => ?_, fun b hb => ?_, fun b o e => ?_, rp.tabs.upd fun u z => by rw [p4] at z; cases z; exact lst_noc⟩
  · have hj : i ≠ j := fun z => by subst z; rw [List.getElem?_set_self hi] at h; cases h
    rw [List.getElem?_set_ne hj] at h
    obtain ⟨u, q1, q2⟩ := rp.dat j d' h
    exact ⟨u, q1, Dp.mono hu q2⟩
  · by_cases hj : i = j
    · subst hj
      rw [List.getElem?_set_self hi] at h
      cases h
      exact ⟨a, vs', p1, p2, p3, upd_same, DpAll.mono hu q⟩
    · rw [List.getElem?_set_ne hj] at h
      obtain ⟨a', vs2, q1, q2, q3, q4, q5⟩ := rp.own j es h
      have hne : a' ≠ a := fun z => hj (by subst z; exact rp.inj i j ds es a' hd h p1 q1)
      exact ⟨a', vs2, q1, q2, q3, by rw [upd_ne hne]; exact q4, DpAll.mono hu q5⟩
  · have toOwn : ∀ (j : Nat) (es : List PyData), (en.set i (Slot.own ds'))[j]? = some (Slot.own es) → ∃ es', en[j]? = some (Slot.own es') := fun j es h => by
      by_cases hj : i = j
      · subst hj; exact ⟨ds, hd⟩
      · rw [List.getElem?_set_ne hj] at h; exact ⟨es, h⟩
    obtain ⟨e1, g1⟩ := toOwn j es h1
    obtain ⟨e2, g2⟩ := toOwn kk es' h2
    exact rp.inj j kk e1 e2 aa g1 g2 h3 h4
  · by_cases z : b = a
    · rw [z, upd_same]
      exact ⟨by simp, fun ps z => nomatch z⟩
    · rw [upd_ne z]
      exact rp.occ b hb
  · have hne : b ≠ a := fun z => by rw [z, p3] at e; cases e
    rw [upd_ne hne]
    exact rp.ext b o e
theorem ixN_at {n j : Nat} (hj : j < n) : ixN n (j : Int) = some j := by
  unfold ixN
  rw [if_pos (by omega), if_pos (by omega)]
  simp
section
variable {X : Cx} {Ts : TsT} {ρ : Nat} {pos : Pos} {st : Stmt} {rest : List Stmt} {F G : ZF} {e : Expr} {f g : En → Option PyData}
theorem z_nil : ZSs X Ts ρ [] zNil := PSs.imp pss_nil fun D σ H ⟨He, O, en, N, R, a, rp, hs, hF, k, _⟩ => k en σ H hF rp hs (XtB.refl H)
theorem z_cons (h1 : ZS X Ts ρ st F) (h2 : ZSs X Ts ρ rest G) : ZSs X Ts ρ (st :: rest) (zSeq F G) := PSs.imp (pss_cons h1 h2) fun D σ H ⟨He, O, en, N, R, a, rp, hs, hF, k, l⟩ =>
  ⟨He, O, en, _, R, a, rp, hs, hF, fun e1 σ1 H1 hn r1 s1 x1 => ⟨He, O, e1, N, R, a, r1, s1, hn, fun e2 σ2 H2 hn2 r2 s2 x2 => k e2 σ2 H2 hn2 r2 s2 (x1.trans x2), fun d e2 v σ2 H2 hr r2 s2 x2 q => l d e2 v σ2 H2 hr r2 s2 (x1.trans x2) q⟩, l⟩
theorem z_one (h1 : ZS X Ts ρ st F) : ZSs X Ts ρ [st] F := pss_one h1
theorem z_set {i : Nat} {x : Str} {pos' : Pos} (hN : X.N.Nodup) (hi : X.N[i]? = some x) (hx : Loc X.env.scope x) (hρ : i ≠ ρ) (he : DE X Ts e f) (hs : swapsWith e (some (.Name x pos')) pos.line X.env = pure false := by rfl) (hf : X.fn x = true ∨ X.env.scope.names.lookup x = some .local := by first | exact .inl rfl | exact .inr rfl | assumption) :
    ZS X Ts ρ (.Assign [.Name x pos'] e pos) (zSet i f) := PS.imp (ps_set hN hi hx he hs hf) fun D σ H ⟨He, O, en, N, R, a, rp, hs, ⟨d, e1, h1, h2, hn⟩, k, _⟩ => by
  refine tD.of rp h1 fun v H1 x1 r1 q1 => ?_
  unfold bName at h2
  split at h2
  · rename_i hi'
    cases h2
    exact k _ _ H1 hn (r1.setD hi' q1) (by rw [List.getElem?_set_ne hρ]; exact hs) (.of x1)
  · cases h2
theorem z_row {c : Nat} {x : Str} {px ps pc : Pos} {kc : Nat} (hN : X.N[ρ]? = some x) (hv : Vis X.env.scope x) (he : DE X Ts e f) (hd : (x == ("__debug__" : Str)) = false := by decide) (hcd : (x == ("__classdict__" : Str)) = false := by decide)
    (hs : swapsWithSole [.Subscript (.Name x px) (.Constant (.int (c : Int)) kc pc) ps] e pos.line X.env = pure false := by rfl) (hw : swappedStores [.Subscript (.Name x px) (.Constant (.int (c : Int)) kc pc) ps] e X.env = pure none := by rfl) :
    ZS X Ts ρ (.Assign [.Subscript (.Name x px) (.Constant (.int (c : Int)) kc pc) ps] e pos) (zRow ρ c f) := PS.imp (ps_asg he (pg_sub (pe_var hN hv hd hcd) pe_int set_list) hs hw) fun D σ H ⟨He, O, en, N, R, a, rp, hs, ⟨d, ds, h1, h2, h3, hn⟩, k, _⟩ => by
  refine tD.of rp h1 fun v H1 x1 r1 q1 => ?_
  obtain ⟨a', vs, p1, p2, p3, p4, p5⟩ := r1.own ρ ds h2
  rw [hs] at p1
  cases p1
  have hl : c < vs.length := by rw [DpAll.len p5]; exact h3
  refine ⟨.ref a, hs, a, vs, c, c, rfl, rfl, p4, ixN_at hl, ?_⟩
  exact k _ _ _ hn (r1.own_set h2 hs p2 p3 p4 (DpAll.set c p5 q1)) hs ((XtB.of x1).trans fun b o hb e => .inl (by rw [upd_ne hb]; exact e))
theorem z_if {c : Expr} {a b : List Stmt} {t : En → Option Bool} (hc : DT X Ts c t) (ha : ZSs X Ts ρ a F) (hb : ZSs X Ts ρ b G) : ZS X Ts ρ (.If c a b pos) (zIf t F G) := PS.imp (ps_if hc ha hb) fun D σ H ⟨He, O, en, N, R, a, rp, hs, ⟨b, h1, h2⟩, k, l⟩ => by
  refine tT.of rp h1 fun H1 x1 r1 => ?_
  cases b with
  | true => exact iteT ⟨He, O, en, N, R, a, r1, hs, h2, fun e2 σ2 H2 hn2 r2 s2 x2 => k e2 σ2 H2 hn2 r2 s2 ((XtB.of x1).trans x2), fun d e2 v σ2 H2 hr r2 s2 x2 q => l d e2 v σ2 H2 hr r2 s2 ((XtB.of x1).trans x2) q⟩
  | false => exact iteF ⟨He, O, en, N, R, a, r1, hs, h2, fun e2 σ2 H2 hn2 r2 s2 x2 => k e2 σ2 H2 hn2 r2 s2 ((XtB.of x1).trans x2), fun d e2 v σ2 H2 hr r2 s2 x2 q => l d e2 v σ2 H2 hr r2 s2 ((XtB.of x1).trans x2) q⟩
theorem z_ret (he : DE X Ts e f) : ZS X Ts ρ (.Return (some e) pos) (zRet f) := PS.imp (ps_ret he) fun D σ H ⟨He, O, en, N, R, a, rp, hs, ⟨d, h1, hr⟩, k, l⟩ =>
  tD.of rp h1 fun v H1 x1 r1 q1 => l d en v σ H1 hr r1 hs (.of x1) q1
def cPow (i j : Int) : Bool := decide (0 ≤ j ∧ j ≤ 1000000 ∧ i.natAbs < 2 ^ 64)
def fPow := f2 (gIc cPow fun i j => .int (i ^ j.toNat))
theorem d_pow {a b : Expr} (ha : DE X Ts a f) (hb : DE X Ts b g) : DE X Ts (.BinOp a .Pow b pos) (fPow f g) := d_i (fun i j h => show CPow i j from @of_decide_eq_true (0 ≤ j ∧ j ≤ 1000000 ∧ i.natAbs < 2 ^ 64) _ h) (fun _ _ _ _ => .int _) (pe_op op_pow ha hb)
end
section
variable {P : Program} {w : World} {K : PySem.W.Frag} {mg : Str → Option Value} {base : Heap} {Ts : TsT}
def runZ (n : Nat) (F : ZF) : List PyData → (PyData → Prop) → Prop := fun ds Q => ∀ rw, RowOk rw → F (Slot.own rw :: (ds.map Slot.dat ++ List.replicate (n - 1 - ds.length) Slot.no)) (fun _ => False) fun d en' => (∃ rw', RowOk rw' ∧ en'[0]? = some (Slot.own rw')) ∧ Q d
theorem DF.okZ {x qual : Str} {st : Stmt} {f : Addr} {fd : FuncData} {cdv : Value} {N ps : List Str} {k n : Nat} {F : ZF} (D : DF K x qual st f fd cdv) (S : FnScope N ps (defScope st)) (hn : ps.length = n + 1) (hN : n + 1 ≤ N.length)
    (hbody : ∀ (A : Around) (outer : List Env) (s : Shared) (H : Hp) (E : XK), Room k (A.deeper (envOfC qual (defScope st) s.heap.objs.size f cdv)) → ZSs (cxOf CX0 P w K mg base N qual (defScope st) f cdv A outer s H E).nox Ts 0 (defBody st) F) :
    FnOk P w K mg base CX0 (k + 1) f fd ps (spW K Ts n (runZ N.length F)) := by
  obtain ⟨oc, od, dV, kV, doc, pm, an, ct, osl, rfl, lk, hcd⟩ := D.ex
  refine fn_of lk hcd S (fun vs H Q E h => h.1.trans hn.symm) fun A outer s H vs Q E hr hsp => ?_
  refine ⟨_, (hbody A outer s H E hr).nox, ?_⟩
  obtain ⟨hl, a, vs', O, ds, rw', ws, Qd, e1, e2, e3, e4, e5, e6, e7, e8, hF, kk⟩ := hsp
  have rp := wrep_start (N := N) hl (by omega) e1 e2 e3 e4 e6 e7 e8
  have hs : (L2.start N vs)[0]? = some (some (V.ref a)) := by rw [e1]; exact start_get rfl
  refine ⟨fun b => if b = a then none else H b, O, _, _, _, a, rp, hs, hF rw' e5, fun _ _ _ h => h.elim, fun d en' v σ' H' ⟨⟨rw2, h1, h2⟩, h3⟩ r' s' x' q => ?_⟩
  obtain ⟨a', ws2, s1, s2, s3, s4, s5⟩ := r'.own 0 rw2 h2
  rw [s'] at s1
  cases s1
  exact kk d v H' rw2 ws2 h3 h1 s4 s5 x' r'.tabs q
end
abbrev rw_ (k : Int) : En → Option PyData := fIx (fOwn 0) (fLit (.int k))
abbrev li (k : Int) : En → Option PyData := fLit (.int k)
def F_taken : ZF := zSeq (zIf (fT (fGt (rw_ 3) (li 0))) (zSeq (zSet 2 (fMod (fInt (rw_ 3)) (fVar 1))) (zSeq (zRow 0 3 (fDiv (rw_ 3) (fVar 1))) (zRet (fVar 2)))) zNil)
  (zSeq (zRow 0 1 (fPlus (rw_ 1) (li 1)))
  (zSeq (zIf (fT (fGt (rw_ 1) (fLen (rw_ 0)))) (zSeq (zRow 0 2 (fMod (fInt (fPlus (fMul (rw_ 2) (li 48271)) (li 11))) (li 2147483647))) (zRet (fMod (fInt (fDiv (rw_ 2) (li 7))) (fVar 1)))) zNil)
  (zSeq (zSet 3 (fIx (rw_ 0) (fSub (rw_ 1) (li 1))))
  (zSeq (zRow 0 2 (fMod (fInt (fPlus (fPlus (fMul (rw_ 2) (li 48271)) (fVar 3)) (li 11))) (li 2147483647)))
  (zSeq (zIf (fT (fGe (fVar 3) (fPow (li 10) (li 18)))) (zRow 0 3 (fDiv (fVar 3) (fVar 1))) zNil)
  (zRet (fMod (fInt (fVar 3)) (fVar 1))))))))
def cTaken : List PyData → (PyData → Prop) → Prop := fun ds Q => ∃ m : Int, ds = [.int m] ∧ 0 < m ∧ m ≤ 1000000 ∧ ∀ r, 0 ≤ r → r < m → Q (.int r)
theorem rowOk {ns : List Int} {i m c : Int} (h1 : ns.length ≤ 63) (h2 : 0 ≤ i) (h3 : 0 ≤ m) (h4 : m < 2147483647) (h5 : 0 ≤ c) : RowOk [.list (ns.map .int), .int i, .int m, .int c] := ⟨ns, i, m, c, rfl, h1, h2, h3, h4, h5⟩
theorem modA {f g : En → Option PyData} {en : En} {a b : Int} (h1 : f en = some (.int a)) (h2 : g en = some (.int b)) (hb : 0 < b) : fMod f g en = some (.int (a % b)) := by
  unfold fMod f2
  rw [h1, h2]
  show (if cMod a b = true then _ else _) = _
  rw [if_pos (by unfold cMod; exact decide_eq_true (by omega))]
  show some (PyData.int (a.fmod b)) = _
  rw [Int.fmod_eq_emod_of_nonneg _ (by omega)]
theorem divA {f g : En → Option PyData} {en : En} {a b : Int} (h1 : f en = some (.int a)) (h2 : g en = some (.int b)) (hb : 0 < b) (hl : b.natAbs.log2 < 9000) : fDiv f g en = some (.int (a / b)) := by
  unfold fDiv f2
  rw [h1, h2]
  show (if cDiv a b = true then _ else _) = _
  rw [if_pos (by unfold cDiv; exact decide_eq_true ⟨hb, hl⟩)]
theorem mulA {f g : En → Option PyData} {en : En} {a b : Int} (h1 : f en = some (.int a)) (h2 : g en = some (.int b)) (hl : a.natAbs.log2 + b.natAbs.log2 < 1000000) : fMul f g en = some (.int (a * b)) := by
  unfold fMul f2
  rw [h1, h2]
  show (if cMul a b = true then _ else _) = _
  rw [if_pos (by unfold cMul; exact decide_eq_true hl)]
theorem intA {f : En → Option PyData} {en : En} {a : Int} (h1 : f en = some (.int a)) : fInt f en = some (.int a) := by
  unfold fInt f1
  rw [h1]
  rfl
theorem plusA {f g : En → Option PyData} {en : En} {a b : Int} (h1 : f en = some (.int a)) (h2 : g en = some (.int b)) : fPlus f g en = some (.int (a + b)) := by
  unfold fPlus f2
  rw [h1, h2]
  rfl
theorem subA {f g : En → Option PyData} {en : En} {a b : Int} (h1 : f en = some (.int a)) (h2 : g en = some (.int b)) : fSub f g en = some (.int (a - b)) := by
  unfold fSub f2
  rw [h1, h2]
  rfl
theorem log2_le {a : Int} {k : Nat} (h : a.natAbs < 2 ^ k) (hk : 0 < k) : a.natAbs.log2 < k := by
  by_cases h0 : a.natAbs = 0
  · rw [h0]; simpa using hk
  · exact (Nat.log2_lt h0).mpr h
theorem taken_ok : ∀ ds Q, cTaken ds Q → runZ 4 F_taken ds Q := by
  rintro ds Q ⟨m, rfl, h0, h1, hq⟩ rw ⟨ns, i, mm, c, rfl, hn, hi, hm0, hm1, hc⟩
  have lm : m.natAbs.log2 < 9000 := Nat.lt_of_lt_of_le (log2_le (k := 20) (by omega) (by decide)) (by decide)
  refine ⟨decide (0 < c), rfl, ?_⟩
  by_cases hcp : 0 < c
  · rw [if_pos (by simpa using hcp)]
    refine ⟨_, _, modA (intA (a := c) rfl) (b := m) rfl h0, rfl, ?_⟩
    refine ⟨_, _, divA (a := c) rfl (b := m) rfl h0 lm, rfl, by simp, ?_⟩
    exact ⟨_, rfl, ⟨_, rowOk hn hi hm0 hm1 (Int.ediv_nonneg hc (by omega)), rfl⟩, hq _ (Int.emod_nonneg _ (by omega)) (Int.emod_lt_of_pos _ h0)⟩
  · rw [if_neg (by simpa using hcp)]
    refine ⟨_, _, rfl, rfl, by simp, ?_⟩
    refine ⟨decide ((ns.map PyData.int).length < i + 1), rfl, ?_⟩
    have lmm : mm.natAbs.log2 + (48271 : Int).natAbs.log2 < 1000000 := by
      have := log2_le (a := mm) (k := 31) (by omega) (by decide)
      have h2 : (48271 : Int).natAbs.log2 = 15 := by decide
      omega
    by_cases hl : ((ns.map PyData.int).length : Int) < i + 1
    · rw [if_pos (by simpa using hl)]
      refine ⟨_, _, modA (intA (plusA (mulA (a := mm) rfl (b := 48271) rfl lmm) (b := 11) rfl)) (b := 2147483647) rfl (by decide), rfl, by simp, ?_⟩
      refine ⟨_, modA (intA (divA rfl (b := 7) rfl (by decide) (by decide))) (b := m) rfl h0, ⟨_, rowOk hn (i := i + 1) (by omega) (Int.emod_nonneg _ (by decide)) (Int.emod_lt_of_pos _ (by decide)) hc, rfl⟩, hq _ (Int.emod_nonneg _ (by omega)) (Int.emod_lt_of_pos _ h0)⟩
    · rw [if_neg (by simpa using hl)]
      rw [List.length_map] at hl
      have hi2 : i.toNat < ns.length := by omega
      have hcell : fIx (rw_ 0) (fSub (rw_ 1) (li 1)) [Slot.own [.list (ns.map .int), .int (i + 1), .int mm, .int c], Slot.dat (.int m), Slot.no, Slot.no] = some (.int ns[i.toNat]) := by
        show ((fIx (rw_ 0) (fSub (rw_ 1) (li 1))) _) = _
        unfold fIx f2
        rw [subA (a := i + 1) (f := rw_ 1) rfl (b := 1) rfl]
        show (some (PyData.list (ns.map .int))).bind _ = _
        show atI (ns.map PyData.int) (i + 1 - 1) = _
        have e1 : i + 1 - 1 = (i.toNat : Int) := by omega
        rw [e1]
        unfold atI
        rw [ixN_at (by rw [List.length_map]; exact hi2)]
        show (ns.map PyData.int)[i.toNat]? = _
        rw [List.getElem?_map, List.getElem?_eq_getElem hi2]
        rfl
      refine ⟨_, _, hcell, rfl, ?_⟩
      refine ⟨_, _, modA (intA (plusA (plusA (mulA (a := mm) rfl (b := 48271) rfl lmm) (b := ns[i.toNat]) rfl) (b := 11) rfl)) (b := 2147483647) rfl (by decide), rfl, by simp, ?_⟩
      refine ⟨decide ((10 : Int) ^ 18 ≤ ns[i.toNat]), rfl, ?_⟩
      have hm2 : 0 ≤ (mm * 48271 + ns[i.toNat] + 11) % 2147483647 := Int.emod_nonneg _ (by decide)
      have hm3 : (mm * 48271 + ns[i.toNat] + 11) % 2147483647 < 2147483647 := Int.emod_lt_of_pos _ (by decide)
      by_cases hg : (10 : Int) ^ 18 ≤ ns[i.toNat]
      · rw [if_pos (by simpa using hg)]
        refine ⟨_, _, divA (a := ns[i.toNat]) rfl (b := m) rfl h0 lm, rfl, by simp, ?_⟩
        refine ⟨_, modA (intA (a := ns[i.toNat]) rfl) (b := m) rfl h0, ⟨_, rowOk hn (i := i + 1) (by omega) hm2 hm3 (Int.ediv_nonneg (by omega) (by omega)), rfl⟩, hq _ (Int.emod_nonneg _ (by omega)) (Int.emod_lt_of_pos _ h0)⟩
      · rw [if_neg (by simpa using hg)]
        refine ⟨_, modA (intA (a := ns[i.toNat]) rfl) (b := m) rfl h0, ⟨_, rowOk hn (i := i + 1) (by omega) hm2 hm3 hc, rfl⟩, hq _ (Int.emod_nonneg _ (by omega)) (Int.emod_lt_of_pos _ h0)⟩
section
variable {X : Cx} {Ts : TsT} {ρ : Nat} {pos : Pos} {e e2 : Expr} {F G : WF}
theorem op2_ix : Op2 X.K Ts (rIx X.K) gIx := fun x y v w d H O Q hg q1 q2 ht occ kk => by
  unfold gIx at hg
  cases q2 <;> try cases hg
  rename_i i
  obtain ⟨ds, h4, h5⟩ := Option.bind_eq_some_iff.mp hg
  cases x <;> simp only [items] at h4 <;> cases h4
  · cases q1 with
    | lst s a =>
      obtain ⟨u, h6, h7⟩ := atI_dp a h5
      exact .inl ⟨_, _, i, u, rfl, rfl, sqL_mono (fun o n e => (hide_some e).2) s, h6, kk u H (Xt.refl H) ht h7⟩
  · cases q1 with
    | tup s a =>
      obtain ⟨u, h6, h7⟩ := atI_dp a h5
      exact .inr (.inl ⟨_, _, i, u, rfl, rfl, sqT_mono (fun o n e => (hide_some e).2) s, h6, kk u H (Xt.refl H) ht h7⟩)
theorem we_ix (ha : WE X Ts ρ e F) (hb : WE X Ts ρ e2 G) (hs : PlainIx e2 := by exact fun _ _ => rfl) : WE X Ts ρ (.Subscript e e2 pos) (w2 gIx F G) := PE.imp (pe_ix ix_seq ha hb hs) (ww_2 op2_ix)
end
def F_pick (c : List PyData → (PyData → Prop) → Prop) : WF := w2 gIx (wP 0 (fVar 1)) (wDraw 1 c (wCons (wP 0 (fLen (fVar 1))) wNil))
def cPick : List PyData → (PyData → Prop) → Prop := fun ds Q => ∃ es, ds = [.list es] ∧ 0 < es.length ∧ es.length ≤ 64 ∧ ∀ d ∈ es, Q d
theorem pick_ok : ∀ ds Q, cPick ds Q → runW 2 (F_pick cTaken) ds Q := by
  rintro ds Q ⟨es, rfl, h0, h1, hq⟩
  refine ⟨.list es, fun rw => rfl, ?_⟩
  refine ⟨.int es.length, fun rw => rfl, rfl, (es.length : Int), rfl, by omega, by omega, fun r hr0 hr1 => ?_⟩
  obtain ⟨k, rfl⟩ : ∃ k : Nat, r = (k : Int) := ⟨r.toNat, by omega⟩
  have hi : k < es.length := by omega
  refine ⟨es[k], ?_, hq _ (List.getElem_mem hi)⟩
  show atI es k = _
  unfold atI
  rw [ixN_at hi]
  exact List.getElem?_eq_getElem hi
def Flows (ns : List Int) : Prop := ∀ n ∈ ns, 0 ≤ n ∧ n ≤ 1000
theorem tup_once (l : Addr) (items : Array Value) (n : Nat) (dd : Option Addr) (sl : Array (Option Value)) (x : Int) (u : Tok) (c0 : (decide (x < -(2 ^ 63)) || decide (x ≥ 2 ^ 63)) = false) (c1 : (items.isEmpty || x == 1) = true) :
    Meets (Builtin.«tuple.__mul__» ⟨[.ref l, .int x u], []⟩) (fun _ R s => s.heap.get? l = some { cls := .type "tuple", dict := dd, data := .seq items n, slots := sl } ∧ R (.ok (.ret (Value.ref l))) s) :=
  .of_wp fun prog w A R s h => by
    obtain ⟨hp, g, d, tk, os⟩ := s
    obtain ⟨hl, h⟩ := h
    have f1 := AutoSeq1.idx_int
    wp_walk using wpAny_loadPart' hl
    repeat (first
      | (refine wpAny_ite_false (decide_eq_false (by rw [c0]; exact Bool.false_ne_true)) ?_; wp_walk using wpAny_loadPart' hl)
      | (refine wpAny_ite_true (decide_eq_true (by rw [c1])) ?_; wp_walk using wpAny_loadPart' hl))
    all_goals first | exact ⟨_, rfl, h⟩ | trace_state
def rRepO (K : PySem.W.Frag) : R2 := fun x y H Q => ∃ l xs, x = .ref l ∧ y = .int 1 ∧ SqT K H l xs ∧ Q (.ref l) H
section
variable {X : Cx}
theorem op_repO : OpR X (binaryOp .Mult) (rRepO X.K) := by
  intro pins s σ H x y v u Q I rx ry h
  obtain ⟨l, xs, rfl, rfl, hT, q⟩ := h
  cases rx
  obtain ⟨t, rfl⟩ := ry
  obtain ⟨its, r, ⟨⟨cls, dd, data, sl⟩, ho, hc, n, hd⟩, hs⟩ := I.tuple hT
  simp only at hc hd
  subst hc hd
  refine wpAny_binaryOp_repeat_ref (T := "tuple") (U := "int") (by decide) ⟨_, ho, rfl⟩ (fun s' => typeIs_int s' 1 t) noFill_tuple_mul F.fills_int_mul F.slot_int_rmul repeat_tuple F.slot_int_index.lookup
    (call_meets F.slot_int_rmul (typeIs_int s 1 t) F.entry_int_rmul (F.args_int_rmul_2 _ _) (int_rmul_tuple 1 t l its.toArray n dd sl)
      ⟨ho, rfl, ⟨_, ho, rfl⟩, call_meets F.slot_tuple_mul ⟨_, ho, rfl⟩ F.entry_tuple_mul (F.args_tuple_mul_2 _ _) (tup_once l its.toArray n dd sl 1 t (by decide) (by simp)) ⟨ho, ?_⟩⟩)
  exact ⟨.ref l, H, I, rfl, q⟩
end
def gRep : PyData → PyData → Option PyData
  | .tuple ds, .int k => if ds ≠ [] ∧ 1 ≤ k ∧ k ≤ 1000 ∧ ds.length ≤ 1000 then some (.tuple (List.replicate k.toNat ds).flatten) else none
  | _, _ => none
theorem DpAll.rep {K : PySem.W.Frag} {H : Hp} {vs : List V} {ds : List PyData} (h : DpAll K H vs ds) : ∀ n : Nat, DpAll K H (List.replicate n vs).flatten (List.replicate n ds).flatten
  | 0 => .nil
  | n + 1 => DpAll.app h (DpAll.rep h n)
section
variable {X : Cx} {Ts : TsT} {pos p : Pos} {a b e : Expr} {fa fb : En → Option PyData}
def gTimes : PyData → PyData → Option PyData
  | .int i, .int j => if cMul i j = true then some (.int (i * j)) else none
  | .tuple ds, .int k => gRep (.tuple ds) (.int k)
  | _, _ => none
def fTimes := f2 gTimes
theorem d_times (ha : DE X Ts a fa) (hb : DE X Ts b fb) : DE X Ts (.BinOp a .Mult b pos) (fTimes fa fb) :=
  PE.imp (pe_op (op_mulW.or (op_repT.or op_repO)) ha hb) (w_2 fun x y v w d H O Q hg q1 q2 ht occ kk => by
    cases x <;> cases y <;> simp only [gTimes, gRep] at hg <;> try cases hg
    · rename_i i j
      split at hg
      · rename_i hc
        cases hg
        cases q1
        cases q2
        exact .inl ⟨_, _, rfl, rfl, show CMulW i j from @of_decide_eq_true (i.natAbs.log2 + j.natAbs.log2 < 1000000) _ hc, kk _ H (Xt.refl H) ht (.int _)⟩
      · cases hg
    · rename_i ds k
      split at hg
      · rename_i hc
        obtain ⟨c1, c2, c3, c4⟩ := hc
        cases hg
        cases q2
        cases q1 with
        | tup s q =>
          have hl := DpAll.len q
          by_cases hk : k = 1
          · subst hk
            refine .inr (.inr ⟨_, _, rfl, rfl, sqT_mono (fun o n e => (hide_some e).2) s, kk _ H (Xt.refl H) ht ?_⟩)
            have e1 : (List.replicate (1 : Int).toNat ds).flatten = ds := by simp
            rw [e1]
            exact .tup s q
          · refine .inr (.inl ⟨_, _, _, rfl, rfl, sqT_mono (fun o n e => (hide_some e).2) s, fun z => c1 (by subst z; cases q; rfl), by omega, c3, by omega, fun p np => kk _ _ (Xt.upd np) (ht.new np) (tup_new np (fun z => occ p z np) (DpAll.rep q _))⟩)
      · cases hg)
theorem bName_set {i : Nat} {d : PyData} {en e1 : En} (h : bName i d en = some e1) : i < en.length ∧ e1 = en.set i (.dat d) := by
  unfold bName at h
  split at h
  · cases h; exact ⟨by assumption, rfl⟩
  · cases h
theorem d_isi2 {T U : String} {x y : Str} {q q' : PyData → Bool} {f : En → Option PyData} {px py pt : Pos} {kt : Nat} (hq : ∀ d, kitB (pyTy d) T = some (q d)) (hq' : ∀ d, kitB (pyTy d) U = some (q' d)) (hg : Gl X "isinstance") (hm : X.mg "isinstance" = none) (hv : bootBuiltins "isinstance" = some (.builtin "isinstance"))
    (hgT : Gl X x) (hmT : X.mg x = none) (hvT : bootBuiltins x = some (.type T)) (hgU : Gl X y) (hmU : X.mg y = none) (hvU : bootBuiltins y = some (.type U)) (ha : DE X Ts e f) (hnT : x ≠ "__name__" := by decide) (hdT : (x == ("__debug__" : Str)) = false := by decide) (hnU : y ≠ "__name__" := by decide) (hdU : (y == ("__debug__" : Str)) = false := by decide)
    (he : starEach [e, .Tuple [.Name x px, .Name y py] kt pt] X.env = (false, eval e X.env) :: starEach [.Tuple [.Name x px, .Name y py] kt pt] X.env := by rfl) (he2 : starEach [.Tuple [.Name x px, .Name y py] kt pt] X.env = (false, eval (.Tuple [.Name x px, .Name y py] kt pt) X.env) :: starEach [] X.env := by rfl)
    (ht1 : starEach [.Name x px, .Name y py] X.env = (false, eval (.Name x px) X.env) :: starEach [.Name y py] X.env := by rfl) (ht2 : starEach [.Name y py] X.env = (false, eval (.Name y py) X.env) :: starEach [] X.env := by rfl) (hpl : (backTo pos (starEach [.Tuple [.Name x px, .Name y py] kt pt] X.env)).any (·.1) = false := by rfl) :
    DE X Ts (.Call (.Name "isinstance" p) [e, .Tuple [.Name x px, .Name y py] kt pt] [] pos) (fIsi (fun d => q d || q' d) f) :=
  PE.imp (pe_callB (t := tCons (tD X.K Ts f) (tCons (tTup (tCons (tC (.ty T)) (tCons (tC (.ty U)) tNil))) tNil)) call_isiT hg hm hv (pa_cons ha (pa_cons (pe_tup (pa_cons (pe_bltn (v := .ty T) hgT hmT hvT rfl hnT hdT) (pa_cons (pe_bltn (v := .ty U) hgU hmU hvU rfl hnU hdU) pa_nil ht2) ht1)) pa_nil he2) he) (by decide) (by decide) he hpl) fun σ H Q ⟨He, O, en, d, rp, hf, kk⟩ => by
    obtain ⟨z, h1, h2⟩ := f1_some hf
    split at h2
    · cases h2
    rename_i nf
    cases h2
    refine tD.of rp h1 fun v H1 x1 r1 q1 => ⟨small64 (by simp), fun tp np => ?_⟩
    refine ⟨v, tp, [.ty T, .ty U], _, [.type T, .type U], q z || q' z, rfl, upd_same, .cons (.ty T) (.cons (.ty U) .nil), tyX_of (Dp.mono (Xt.upd np) (Dp.mono hide_out q1)) (Bool.not_eq_true _ ▸ nf), kitAny_cons (kit_ty (hq z)) (fun e => ?_) (fun e => by rw [e]; rfl), kk _ _ (x1.trans (Xt.upd np)) (r1.tabs.new np) (.bl _)⟩
    refine kitAny_cons (kit_ty (hq' z)) (fun e2 => ?_) (fun e2 => by rw [e2, Bool.or_true])
    rw [e, e2]
    exact kitAny_nil
theorem ss_never {sts : List Stmt} : DSs X Ts sts sNever := ⟨fun _ _ _ _ _ _ ⟨_, _, _, _, _, _, hf, _⟩ => by cases hf⟩
end
def gRepL : PyData → PyData → Option PyData
  | .list ds, .int k => if -1000000 ≤ k ∧ k ≤ 1000 ∧ ds.length ≤ 1000 then some (.list (List.replicate k.toNat ds).flatten) else none
  | _, _ => none
def fRepL := f2 gRepL
theorem d_repL {X : Cx} {Ts : TsT} {pos : Pos} {a b : Expr} {fa fb : En → Option PyData} (ha : DNew X Ts a fa) (hb : DE X Ts b fb) : DE X Ts (.BinOp a .Mult b pos) (fRepL fa fb) := PE.imp (pe_op op_rep ha hb) fun σ H Q ⟨He, O, en, d, rp, hf, kk⟩ => by
  obtain ⟨x, y, h1, h2, h3⟩ := f2_some hf
  cases x <;> cases y <;> simp only [gRepL] at h3 <;> try cases h3
  rename_i ds k
  split at h3
  · rename_i hk
    cases h3
    refine ⟨He, O, en, ds, rp, h1, fun c vs H1 x1 t1 na hc q1 => ?_⟩
    have nO : c ∉ O := rp.free na
    have r1 := rp.go x1 t1
    refine tD.of r1 h2 fun w H2 x2 r2 q2 => ?_
    cases q2
    have hs : Xt (hide H1 (c :: O)) (hide H1 O) := hide_sub fun b hb => List.mem_cons_of_mem _ hb
    have q3 : DpAll X.K (hide H2 O) vs ds := DpAll.mono (hs.trans (hide_mono x2)) q1
    have hl := DpAll.len q3
    refine ⟨c, k, vs, rfl, rfl, x2.get c _ hc (fun _ z => nomatch z), by omega, by omega, ?_, fun p np => kk _ _ (x1.trans (x2.trans (Xt.upd np))) (r2.tabs.new np) (lst_new np (new_out r2.occ np) (DpAll.rep q3 k.toNat))⟩
    rw [hl, sizeLine_eq]
    have : ds.length * k.toNat ≤ 1000 * 1000 := Nat.mul_le_mul hk.2.2 (by omega)
    omega
  · cases h3
abbrev LF := En → (Fl → Prop) → Prop
def lNil : LF := fun en Q => Q (.nx en)
def lSeq (F G : LF) : LF := fun en Q => F en fun r => match r with
  | .nx e => G e Q
  | r => Q r
def lSet (i : Nat) (F : WF) : LF := fun en Q => F en fun d => ∃ e1, bName i d en = some e1 ∧ Q (.nx e1)
def lIf (t : En → (Bool → Prop) → Prop) (F G : LF) : LF := fun en Q => t en fun b => if b = true then F en Q else G en Q
def lEnd (ρ : Nat) (G : En → Option Fl) : LF := fun en Q => ∀ rw, RowOk rw → ∃ b, G (en.set ρ (.own rw)) = some (.rt (.bool b)) ∧ Q (.rt (.bool b))
section
variable {X : Cx} {Ts : TsT} {ρ : Nat} {pos : Pos} {st : Stmt} {rest : List Stmt} {F G : LF} {e a b : Expr} {f g : WF}
theorem WRep.setD {K : PySem.W.Frag} {He : Hp} {O : List Addr} {σ : St} {H : Hp} {en e1 : En} {i : Nat} {v : V} {d : PyData} (r : WRep K Ts ρ He O σ H en) (hi : i ≠ ρ) (hb : bName i d en = some e1) (q : Dp K (hide H O) v d) : WRep K Ts ρ He O (σ.set i (some v)) H e1 := by
  obtain ⟨b1, rfl⟩ := bName_set hb
  obtain ⟨hl, rw, hr, rp⟩ := r
  refine ⟨by simpa using hl, rw, hr, ?_⟩
  rw [List.set_comm _ _ hi]
  exact rp.setD (by simpa using b1) q
def lBind (b : PyData → En → Option En) (F : WF) : LF := fun en Q => F en fun d => ∃ e1, b d en = some e1 ∧ Q (.nx e1)
end
section
variable {P : Program} {w : World} {K : PySem.W.Frag} {mg : Str → Option Value} {base : Heap} {Ts : TsT}
def spLaw (K : PySem.W.Frag) (Ts : TsT) : Sp := fun vs H Q _ => ∃ (a : Addr) (ns : List Int), vs = [.ref a] ∧ SqL K H a (ns.map V.int) ∧ ns.length ≤ 63 ∧ Tb Ts H ∧ ∀ H', Q (.bl true) H'
def lawEn (n : Nat) (ns : List Int) : En := Slot.dat (.list (ns.map .int)) :: List.replicate (n - 1) Slot.no
end
def SqB (K : PySem.W.Frag) (b : Bool) (H : Hp) (a : Addr) (xs : List V) : Prop := match b with | true => SqL K H a xs | false => SqT K H a xs
def ItB (b : Bool) (h : Heap) (i a : Addr) (k : Nat) : Prop := match b with | true => h.IsListIter i a k | false => h.IsTupleIter i a k
def IsB (b : Bool) (h : Heap) (a : Addr) (its : Array Value) : Prop := match b with | true => h.IsList a its | false => h.IsTuple a its
def obB (b : Bool) (a : Addr) : Obj := match b with | true => { cls := .type "list_iterator", data := .fields #[.ref a, .int 0 0] } | false => { cls := .type "tuple_iterator", data := .fields #[.ref a, .int 0 0] }
theorem ItB.at {b : Bool} {h h' : Heap} {i a : Addr} {k : Nat} (x : ItB b h i a k) (hk : ∀ o, h.get? i = some o → h'.get? i = some o) : ItB b h' i a k := by
  cases b with
  | true => exact Heap.IsListIter.at (h := h) x hk
  | false => exact Heap.IsTupleIter.at (h := h) x hk
theorem ItB.obj {b : Bool} {h : Heap} {i a : Addr} {k : Nat} (x : ItB b h i a k) : ∃ o, h.get? i = some o ∧ ∀ v, o.data ≠ .cell v := by
  cases b with
  | true => obtain ⟨o, e, _, d⟩ := x; exact ⟨o, e, fun v q => by rw [d] at q; cases q⟩
  | false => obtain ⟨o, e, _, d⟩ := x; exact ⟨o, e, fun v q => by rw [d] at q; cases q⟩
theorem drB {prog : Program} {w : World} {A : Around} (hh : A.handled = none) (b : Bool) (it a : Addr) (hne : a ≠ it) (items : Array Value) :
    Draws prog w A it [it, a] items.size (fun i v => items[i]? = some v) (fun i h => ItB b h it a i ∧ IsB b h a items) := by
  cases b with
  | true => exact Draws.list hh it a hne items
  | false => exact Draws.tuple hh it a hne items
theorem SqB.inv {X : Cx} {pins : List (Addr × Obj)} {σ : L2.St} {H : Hp} {s : Shared} (I : Inv X pins σ H s) {b : Bool} {a : Addr} {xs : List V} (q : SqB X.K b H a xs) : ∃ its, Vals xs its ∧ IsB b s.heap a its.toArray ∧ a < s.heap.objs.size := by
  cases b with
  | true =>
    obtain ⟨its, rv, p, _⟩ := I.list q
    exact ⟨its, rv, p.isList, p.lt⟩
  | false =>
    obtain ⟨its, rv, p, _⟩ := I.tuple q
    obtain ⟨o, ho, _⟩ := id p
    exact ⟨its, rv, p, Heap.lt_size ho⟩
theorem SqB.inj {X : Cx} {pins : List (Addr × Obj)} {σ : L2.St} {H : Hp} {s : Shared} (I : Inv X pins σ H s) {b : Bool} {a : Addr} {xs ys : List V} (q : SqB X.K b H a xs) (r : SqB X.K b H a ys) : xs = ys := by
  cases b with
  | true => exact I.list_inj q r
  | false => exact I.tuple_inj q r
theorem SqB.mono {K : PySem.W.Frag} {b : Bool} {H H' : Hp} {a : Addr} {xs : List V} (h : ∀ o, (∀ ps, o ≠ .tbl ps) → H a = some o → H' a = some o) (q : SqB K b H a xs) : SqB K b H' a xs := by
  cases b with
  | true => exact sqL_mono (fun o n e => h o n e) q
  | false => exact sqT_mono (fun o n e => h o n e) q
theorem begB (b : Bool) (a : Addr) (items : Array Value) : Begins (.ref a) (obB b a) fun h => IsB b h a items := by
  cases b with
  | true => exact begins_list a items
  | false => exact begins_tuple a items
theorem ItB.start {b : Bool} {h : Heap} {i a : Addr} (e : h.get? i = some (obB b a)) : ItB b h i a 0 := by
  cases b with
  | true => exact ⟨_, e, rfl, rfl⟩
  | false => exact ⟨_, e, rfl, rfl⟩
def Itz2 (K : PySem.W.Frag) (b1 b2 : Bool) (a1 a2 : Addr) : It :=
  ⟨fun i H => ∃ (xs ys : List V) (x y : V), SqB K b1 H a1 xs ∧ SqB K b2 H a2 ys ∧ xs[i]? = some x ∧ ys[i]? = some y,
    fun i H v H' => ∃ T x y, v = .ref T ∧ H T = none ∧ H' = upd H T (.tup [x, y]) ∧ (∀ xs, SqB K b1 H a1 xs → xs[i]? = some x) ∧ (∀ ys, SqB K b2 H a2 ys → ys[i]? = some y),
    fun i H => ∃ xs ys : List V, SqB K b1 H a1 xs ∧ SqB K b2 H a2 ys ∧ i ≤ xs.length ∧ i ≤ ys.length ∧ (i = xs.length ∨ i = ys.length)⟩
theorem turn_zip2 {P : Program} {w : World} {K : PySem.W.Frag} {elts : List Expr} {kk : Nat} {tpos : Pos} {b1 b2 : Bool} {a1 a2 z TI TO i1 i2 : Addr} (S : ZipSep2 z TI TO i1 i2 [i1, a1] [i2, a2]) (n1 : a1 ≠ i1) (n2 : a2 ≠ i2) :
    Turn P w K (.Tuple elts kk tpos) (Itz2 K b1 b2 a1 a2) [z, TI, TO, i1, i2] z (fun i h => IsZip h z TI TO .none ∧ IsTupOf2 h TI (.ref i1) (.ref i2) ∧ (∃ x y, IsTupOf2 h TO x y) ∧ ItB b1 h i1 a1 i ∧ ItB b2 h i2 a2 i) where
  mem := by simp
  obj := fun i h st c hc => by
    obtain ⟨hz, hTI, ⟨x, y, hTO⟩, e1, e2⟩ := st
    have e' : c = z ∨ c = TI ∨ c = TO ∨ c = i1 ∨ c = i2 := by simpa using hc
    rcases e' with q | q | q | q | q
    · rw [q]; exact ⟨_, hz, fun v q => nomatch q⟩
    · rw [q]; exact ⟨_, hTI, fun v q => nomatch q⟩
    · rw [q]; exact ⟨_, hTO, fun v q => nomatch q⟩
    · rw [q]; exact e1.obj
    · rw [q]; exact e2.obj
  keep := fun i h h' st k => by
    obtain ⟨hz, hTI, ⟨x, y, hTO⟩, h1, h2⟩ := st
    exact ⟨k z (by simp) _ hz, k TI (by simp) _ hTI, ⟨x, y, k TO (by simp) _ hTO⟩, h1.at fun o q => k i1 (by simp) o q, h2.at fun o q => k i2 (by simp) o q⟩
  item := by
    intro X hP hw hK hc i pins s σ H E I hf st hg
    subst hP hw hK
    obtain ⟨hz, hTI, ⟨x0, y0, hTO⟩, h1, h2⟩ := st
    obtain ⟨xs, ys, x, y, hqx, hqy, hx, hy⟩ := hg
    obtain ⟨its, rv, p, _⟩ := hqx.inv I
    obtain ⟨its2, rv2, p2, _⟩ := hqy.inv I
    obtain ⟨u, hu, ru⟩ := rv.get hx
    obtain ⟨u2, hu2, ru2⟩ := rv2.get hy
    have hzl : z < s.heap.objs.size := Heap.lt_size hz
    have hh : X.A.in1.handled = none := I.ok.hd hc
    have D1 := drB (prog := X.prog) (w := X.w) hh b1 i1 a1 n1 its.toArray
    have D2 := drB (prog := X.prog) (w := X.w) hh b2 i2 a2 n2 its2.toArray
    have l1 : i < its.length := (List.getElem?_eq_some_iff.mp hu).1
    have l2 : i < its2.length := (List.getElem?_eq_some_iff.mp hu2).1
    refine wpAny_pyNext_zipD2_item S D1 D2 hz hTI hTO ⟨h1, p⟩ ⟨h2, p2⟩ (by simpa using l1) (by simpa using l2) fun x1 x2 h' tk y1 y2 z' TO' d1 d2 hT hsz hk => ?_
    have y1 : its[i]? = some x1 := by simpa using y1
    have y2 : its2[i]? = some x2 := by simpa using y2
    rw [hu] at y1; cases y1
    rw [hu2] at y2; cases y2
    refine ⟨_, rfl, wpAny_letOwnedTupleGo_zip (s := { s with heap := h', toks := tk }) z' fun h'' z'' sb => ?_⟩
    have hT2 : h''.get? s.heap.objs.size = some { cls := .type "tuple", data := .seq #[u, u2] } := (sb.2 _ (Nat.ne_of_gt hzl)).trans hT
    have new : ObjOk X.prog X.w (upd H s.heap.objs.size (.tup [x, y])) h'' s.heap.objs.size (.tup [x, y]) :=
      ⟨by show 2 ≤ sizeLine; decide, [u, u2], .cons ru (.cons ru2 .nil), ⟨_, hT2, rfl, _, rfl⟩⟩
    have I1 : Inv X pins σ (upd H s.heap.objs.size (.tup [x, y])) { s with heap := h'', toks := tk } :=
      I.turnedNew (t' := tk) (ch := [z, TI, TO, i1, i2]) (fun c o hb q => (sb.2 c (fun q' => hb (by simp [q']))).trans (hk c o (fun q' => hb (by simp [q'])) (fun q' => hb (by simp [q'])) (fun q' => hb (by simp [q'])) (fun q' => hb (by simp [q'])) q)) hf (Nat.le_refl _) new
    have f1 : ∀ {b : Bool} {ia aa : Addr} {k : Nat}, ia ≠ z → ItB b h' ia aa k → ItB b h'' ia aa k := fun hne q => q.at fun o e => (sb.2 _ hne).trans e
    refine ⟨.ref s.heap.objs.size, _, I1, rfl, ⟨_, x, y, rfl, I.hok.fresh (Nat.le_refl _), rfl, fun l hl => by rw [hl.inj I hqx]; exact hx, fun l hl => by rw [hl.inj I hqy]; exact hy⟩, ⟨z'', ?_, ⟨u, u2, ?_⟩, f1 S.zi1.symm d1.1, f1 S.zi2.symm d2.1⟩, fun c hcm => ?_⟩
    · exact (sb.2 _ S.TIz).trans (hk _ _ S.TIz S.TITO S.TIi1 S.TIi2 hTI)
    · exact (sb.2 _ S.TOz).trans TO'
    · have hlt : c < s.heap.objs.size := by
        have e' : c = z ∨ c = TI ∨ c = TO ∨ c = i1 ∨ c = i2 := by simpa using hcm
        rcases e' with q | q | q | q | q
        · rw [q]; exact hzl
        · rw [q]; exact Heap.lt_size hTI
        · rw [q]; exact Heap.lt_size hTO
        · rw [q]; obtain ⟨_, e1, _⟩ := h1.obj; exact Heap.lt_size e1
        · rw [q]; obtain ⟨_, e2, _⟩ := h2.obj; exact Heap.lt_size e2
      rw [upd_ne (Nat.ne_of_lt hlt)]
      exact (hf c hcm).1
  done := by
    intro X hP hw hK hc i pins s σ H E I hf st hg
    subst hP hw hK
    obtain ⟨hz, hTI, ⟨x0, y0, hTO⟩, h1, h2⟩ := st
    obtain ⟨xs, ys, hqx, hqy, k1, k2, hend⟩ := hg
    obtain ⟨its, rv, p, _⟩ := hqx.inv I
    obtain ⟨its2, rv2, p2, _⟩ := hqy.inv I
    have l1 := rv.length
    have l2 := rv2.length
    have hh : X.A.in1.handled = none := I.ok.hd hc
    have D1 := drB (prog := X.prog) (w := X.w) hh b1 i1 a1 n1 its.toArray
    have D2 := drB (prog := X.prog) (w := X.w) hh b2 i2 a2 n2 its2.toArray
    exact wpAny_pyNext_zipD2_end S D1 D2 hz hTI hTO ⟨h1, p⟩ ⟨h2, p2⟩ (by simp; omega) (by simp; omega) (by simp; omega) fun h' tk hk => ⟨rfl, I.turnedL (t' := tk) (ch := [z, TI, TO, i1, i2]) (fun c o hb q =>
      hk c o (fun q' => hb (by simp [q'])) (fun q' => hb (by simp [q'])) (fun q' => hb (by simp [q'])) (fun q' => hb (by simp [q'])) q) hf⟩
  self := fun A i s Q E st h => wpAny_pyIter_zip st.1 h
def iZip2A (K : PySem.W.Frag) (ta : TA) : TI := fun σ H R => ta σ H fun vs H1 => ∃ b1 b2 a1 a2 xs ys, vs = [.ref a1, .ref a2] ∧ SqB K b1 H1 a1 xs ∧ SqB K b2 H1 a2 ys ∧ R (Itz2 K b1 b2 a1 a2) H1
theorem pi_zip2A {X : Cx} {e e2 : Expr} {ta : TA} {p pos tpos : Pos} {elts : List Expr} {kk : Nat} (hg : Gl X "zip") (hm : X.mg "zip" = none) (ha : PA X [e, e2] ta)
    (hs : starEach [e, e2] X.env = (false, eval e X.env) :: starEach [e2] X.env := by rfl) (hpl : (backTo pos (starEach [e2] X.env)).any (·.1) = false := by rfl) :
    PI X (.Tuple elts kk tpos) (.Call (.Name "zip" p) [e, e2] [] pos) (iZip2A X.K ta) := by
  refine ⟨fun pins s σ H R I h => ?_⟩
  refine Call_ (ld_blt I hg hm PyProof.Rows.boot_zip (PyProof.Rows.callWith_type1 (thn (ha.run pos pins s σ H _ I h) fun us s1 ⟨vs, H1, I1, r1, q1⟩ => ?_) hs hpl))
  obtain ⟨b1, b2, a1, a2, xs, ys, ex, q1, q2, qR⟩ := q1
  subst ex
  cases r1 with
  | cons r rr =>
    cases rr with
    | cons r' rr =>
      cases rr
      cases r
      cases r'
      obtain ⟨its, rv, p1, k1⟩ := q1.inv I1
      obtain ⟨its2, rv2, p2, k2⟩ := q2.inv I1
      refine zip_begins2 (begB b1 a1 its.toArray) (begB b2 a2 its2.toArray) p1 p2 fun h' hz hTI hTO g1 g2 hsz hk => wpAny_pyIter_zip hz ?_
      have I2 : Inv X pins σ H1 { s1 with heap := h' } := I1.kept (t' := s1.toks) hk
      refine ⟨s1.heap.objs.size + 4, [s1.heap.objs.size + 4, s1.heap.objs.size + 2, s1.heap.objs.size + 3, s1.heap.objs.size, s1.heap.objs.size + 1], _, _, H1, rfl, I2, turn_zip2 (b1 := b1) (b2 := b2) (a1 := a1) (a2 := a2) (zip_sep2 (fun b hb => by rw [List.mem_singleton.mp hb]; exact k1) (fun b hb => by rw [List.mem_singleton.mp hb]; exact k2)) (Nat.ne_of_lt k1) (Nat.ne_of_lt (Nat.lt_succ_of_lt k2)), ⟨hz, hTI, ⟨_, _, hTO⟩, .start g1, .start g2⟩, fun c hcm => ?_, qR⟩
      have e' : c = s1.heap.objs.size + 4 ∨ c = s1.heap.objs.size + 2 ∨ c = s1.heap.objs.size + 3 ∨ c = s1.heap.objs.size ∨ c = s1.heap.objs.size + 1 := by simpa using hcm
      have hle : s1.heap.objs.size ≤ c := by
        rcases e' with z | z | z | z | z
        · rw [z]; exact Nat.le_add_right _ _
        · rw [z]; exact Nat.le_add_right _ _
        · rw [z]; exact Nat.le_add_right _ _
        · rw [z]; exact Nat.le_refl _
        · rw [z]; exact Nat.le_add_right _ _
      exact I1.fpOk hle (I1.hok.fresh hle)
def lt_items : PyData → Option (List PyData)
  | .tuple xs => some xs
  | .list xs => some xs
  | _ => none
theorem dp_sqB {K : PySem.W.Frag} {H : Hp} {v : V} {x : PyData} {xs : List PyData} (q : Dp K H v x) (h : lt_items x = some xs) : ∃ b a vs, v = .ref a ∧ SqB K b H a vs ∧ DpAll K H vs xs := by
  cases x <;> simp only [lt_items] at h <;> cases h
  · cases q with
    | lst s a => exact ⟨true, _, _, rfl, s, a⟩
  · cases q with
    | tup s a => exact ⟨false, _, _, rfl, s, a⟩
def pairs : List PyData → List PyData → List PyData
  | x :: xs, y :: ys => .tuple [x, y] :: pairs xs ys
  | _, _ => []
theorem pairs_len : ∀ xs ys : List PyData, (pairs xs ys).length = min xs.length ys.length
  | [], _ => by simp [pairs]
  | _ :: _, [] => by simp [pairs]
  | x :: xs, y :: ys => by
    show (pairs xs ys).length + 1 = _
    rw [pairs_len xs ys, List.length_cons, List.length_cons]
    omega
theorem pairs_get : ∀ {xs ys : List PyData} {i : Nat} {x y : PyData}, xs[i]? = some x → ys[i]? = some y → (pairs xs ys)[i]? = some (.tuple [x, y])
  | [], _, _, _, _, h, _ => by simp at h
  | _ :: _, [], _, _, _, _, h => by simp at h
  | a :: xs, b :: ys, 0, x, y, h1, h2 => by
    simp at h1 h2
    subst h1 h2
    rfl
  | a :: xs, b :: ys, i + 1, x, y, h1, h2 => by
    rw [List.getElem?_cons_succ] at h1 h2
    show (pairs xs ys)[i]? = _
    exact pairs_get h1 h2
def iZip (f g : En → Option PyData) : En → Option (List PyData) := fun en => (f en).bind fun x => (g en).bind fun y => match x, y with
  | .tuple xs, .tuple ys => some (pairs xs ys)
  | .list xs, .list ys => some (pairs xs ys)
  | .tuple xs, .list ys => some (pairs xs ys)
  | .list xs, .tuple ys => some (pairs xs ys)
  | _, _ => none
section
variable {X : Cx} {Ts : TsT} {pos p tpos : Pos} {e e2 : Expr} {f g : En → Option PyData} {elts : List Expr} {kk : Nat}
theorem gives_zip2 {K : PySem.W.Frag} {H1 : Hp} {O : List Addr} {b1 b2 : Bool} {a1 a2 : Addr} {xs ys : List V} {ds es : List PyData} (s1 : SqB K b1 (hide H1 O) a1 xs) (s2 : SqB K b2 (hide H1 O) a2 ys)
    (q1 : DpAll K (hide H1 O) xs ds) (q2 : DpAll K (hide H1 O) ys es) : Gives K Ts (Itz2 K b1 b2 a1 a2) (pairs ds es) H1 O := fun O' H2 h1 h2 occ => by
  have u1 := s1.mono fun o n e => h2.get _ o e n
  have u2 := s2.mono fun o n e => h2.get _ o e n
  have la := DpAll.len q1
  have lb := DpAll.len q2
  have q1 := DpAll.mono h1 q1
  have q2 := DpAll.mono h1 q2
  refine ⟨fun i hi => ?_, ?_, fun i v H3 hi hy => ?_⟩
  · rw [pairs_len] at hi
    exact ⟨xs, ys, xs[i]'(by omega), ys[i]'(by omega), u1, u2, List.getElem?_eq_getElem _, List.getElem?_eq_getElem _⟩
  · rw [pairs_len]
    exact ⟨xs, ys, u1, u2, by omega, by omega, by omega⟩
  · obtain ⟨T, x, y, rfl, nT, rfl, ex, ey⟩ := hy
    obtain ⟨d1, hd1, r1⟩ := DpAll.get q1 (ex _ u1)
    obtain ⟨d2, hd2, r2⟩ := DpAll.get q2 (ey _ u2)
    exact ⟨.tuple [d1, d2], pairs_get hd1 hd2, Xt.upd nT, fun t => t.new nT, tup_new nT (fun z => (occ T z).1 nT) (.cons r1 (.cons r2 .nil))⟩
theorem di_zip (hg : Gl X "zip") (hm : X.mg "zip" = none) (ha : DE X Ts e f) (hb : DE X Ts e2 g)
    (hs : starEach [e, e2] X.env = (false, eval e X.env) :: starEach [e2] X.env := by rfl) (hs2 : starEach [e2] X.env = (false, eval e2 X.env) :: starEach [] X.env := by rfl) (hpl : (backTo pos (starEach [e2] X.env)).any (·.1) = false := by rfl) :
    DI X Ts (.Tuple elts kk tpos) (.Call (.Name "zip" p) [e, e2] [] pos) (iZip f g) :=
  PI.imp (pi_zip2A (ta := tCons (tD X.K Ts f) (tCons (tD X.K Ts g) tNil)) hg hm (pa_cons ha (pa_cons hb pa_nil hs2) hs) hs hpl) fun σ H R ⟨He, O, en, ds, rp, hf, kk⟩ => by
    unfold iZip at hf
    obtain ⟨x, h1, hf1⟩ := Option.bind_eq_some_iff.mp hf
    obtain ⟨y, h2, hf2⟩ := Option.bind_eq_some_iff.mp hf1
    refine tD.of rp h1 fun v H1 x1 r1 q1 => tD.of r1 h2 fun w H2 x2 r2 q2 => ?_
    have q1 := Dp.mono (hide_mono x2) q1
    have fin : ∀ xs ys, lt_items x = some xs → lt_items y = some ys → ds = pairs xs ys → ∃ b1 b2 a1 a2 us ws, [v, w] = [V.ref a1, V.ref a2] ∧ SqB X.K b1 H2 a1 us ∧ SqB X.K b2 H2 a2 ws ∧ R (Itz2 X.K b1 b2 a1 a2) H2 := fun xs ys h4 h5 e => by
      subst e
      obtain ⟨b1, a1, vs1, rfl, s1, t1⟩ := dp_sqB q1 h4
      obtain ⟨b2, a2, vs2, rfl, s2, t2⟩ := dp_sqB q2 h5
      exact ⟨b1, b2, a1, a2, vs1, vs2, rfl, s1.mono fun o n e => (hide_some e).2, s2.mono fun o n e => (hide_some e).2, kk _ H2 (x1.trans x2) r2.tabs (gives_zip2 s1 s2 t1 t2)⟩
    cases x <;> cases y <;> simp only at hf2 <;> cases hf2 <;> exact fin _ _ rfl rfl rfl
theorem d_gcd {x : Str} (hg : Gl X x) (hm : X.mg x = some (.builtin "math.gcd")) (ha : DE X Ts e f) (hb : DE X Ts e2 g) (hdb : (x == ("__debug__" : Str)) = false := by decide)
    (hs : starEach [e, e2] X.env = (false, eval e X.env) :: starEach [e2] X.env := by rfl) (hs2 : starEach [e2] X.env = (false, eval e2 X.env) :: starEach [] X.env := by rfl) (hpl : (backTo pos (starEach [e2] X.env)).any (·.1) = false := by rfl) :
    DE X Ts (.Call (.Name x p) [e, e2] [] pos) (fGcd f g) :=
  PE.imp (pe_callBfun cr_gcd hg hm (pa_cons ha (pa_cons hb pa_nil hs2) hs) hdb hs hpl) fun σ H Q ⟨He, O, en, d, rp, hf, kk⟩ => by
    unfold fGcd at hf
    obtain ⟨x, y, h1, h2, h3⟩ := f2_some hf
    refine tD.of rp h1 fun v H1 x1 r1 q1 => tD.of r1 h2 fun w H2 x2 r2 q2 => ?_
    cases x <;> cases y <;> simp only [gI] at h3 <;> try cases h3
    cases q1
    cases q2
    exact ⟨_, _, rfl, kk _ H2 (x1.trans x2) r2.tabs (.int _)⟩
end
def RepV (K : PySem.W.Frag) (Ts : TsT) (ρ : Nat) (a : Addr) (He : Hp) (O₀ : List Addr) (Vz : Hp) (σ : St) (H : Hp) (en : En) : Prop :=
  ∃ O, (∀ b ∈ O₀, b ∈ O ∧ (b = a ∨ He b ≠ none)) ∧ WRep K Ts ρ He O σ H en ∧ σ[ρ]? = some (some (V.ref a)) ∧ Xt Vz (hide H O)
def tV (K : PySem.W.Frag) (Ts : TsT) (ρ : Nat) (fin : Bool) (F : LF) : TS := fun D σ H => ∃ a He O₀ Vz en Q, RepV K Ts ρ a He O₀ Vz σ H en ∧ F en Q ∧
  (∀ en' σ' H', Q (.nx en') → RepV K Ts ρ a He O₀ Vz σ' H' en' → D.nx σ' H') ∧
  ((∀ d v en' σ' H', Q (.rt d) → RepV K Ts ρ a He O₀ Vz σ' H' en' → Dp K (hide H' O₀) v d → D.rt v H') ∧ (fin = true → ∀ b H', Q (.rt (.bool b)) → D.rt (.bl b) H'))
abbrev VS (X : Cx) (Ts : TsT) (ρ : Nat) (fin : Bool) (st : Stmt) (F : LF) : Prop := PS X st (tV X.K Ts ρ fin F)
abbrev VSs (X : Cx) (Ts : TsT) (ρ : Nat) (fin : Bool) (st : List Stmt) (F : LF) : Prop := PSs X st (tV X.K Ts ρ fin F)
def lRetV (F : WF) : LF := fun en Q => F en fun d => Q (.rt d)
section
variable {X : Cx} {Ts : TsT} {ρ : Nat} {fin : Bool} {pos : Pos} {st : Stmt} {rest : List Stmt} {F G : LF} {e a b : Expr} {f g : WF}
theorem v_nil : VSs X Ts ρ fin [] lNil := PSs.imp pss_nil fun D σ H ⟨a, He, O₀, Vz, en, Q, rp, hF, k, _⟩ => k en σ H hF rp
theorem v_cons (h1 : VS X Ts ρ fin st F) (h2 : VSs X Ts ρ fin rest G) : VSs X Ts ρ fin (st :: rest) (lSeq F G) := PSs.imp (pss_cons h1 h2) fun D σ H ⟨a, He, O₀, Vz, en, Q, rp, hF, k, l⟩ =>
  ⟨a, He, O₀, Vz, en, _, rp, hF, fun e1 σ1 H1 hq r1 => ⟨a, He, O₀, Vz, e1, Q, r1, hq, k, l⟩, ⟨fun d v en' σ' H' hq => l.1 d v en' σ' H' hq, fun hf b H' hq => l.2 hf b H' hq⟩⟩
theorem v_one (h1 : VS X Ts ρ fin st F) : VSs X Ts ρ fin [st] F := pss_one h1
theorem v_set {i : Nat} {x : Str} {pos' : Pos} (hN : X.N.Nodup) (hi : X.N[i]? = some x) (hx : Loc X.env.scope x) (hρ : i ≠ ρ) (he : WE X Ts ρ e f) (hs : swapsWith e (some (.Name x pos')) pos.line X.env = pure false := by rfl) (hf : X.fn x = true ∨ X.env.scope.names.lookup x = some .local := by first | exact .inl rfl | exact .inr rfl | assumption) :
    VS X Ts ρ fin (.Assign [.Name x pos'] e pos) (lSet i f) := PS.imp (ps_set hN hi hx he hs hf) fun D σ H ⟨aa, He, O₀, Vz, en, Q, ⟨O, s1, rp, ha, xv⟩, hF, k, _⟩ =>
  ⟨He, O, en, _, rp, hF, fun d v H' ⟨e1, h1, hq⟩ r' q x => k e1 _ H' hq ⟨O, s1, r'.setD hρ h1 q, by rw [List.getElem?_set_ne hρ]; exact ha, xv.trans x.1⟩⟩
theorem v_bind {tg : Expr} {vs : List Nat} {b : PyData → En → Option En} (he : WE X Ts ρ e f) (hg : DG X Ts tg vs b) (hb : BOk ρ b) (hv : ρ ∉ vs) (hs : swapsWithSole [tg] e pos.line X.env = pure false := by rfl) (hw : swappedStores [tg] e X.env = pure none := by rfl)
    (h1 : (assignEach [tg] X.env).map (·.2) = [assign tg X.env] := by rfl) : VS X Ts ρ fin (.Assign [tg] e pos) (lBind b f) := PS.imp (ps_asg he (wg_of hg hb) hs hw h1) fun D σ H ⟨aa, He, O₀, Vz, en, Q, ⟨O, s1, rp, hA, xv⟩, hF, k, _⟩ =>
  ⟨He, O, en, _, rp, hF, fun d v H1 ⟨e1, h1, hq⟩ r1 q1 x1 => ⟨He, O, en, d, e1, r1, q1, h1, fun σ' r' hw' => k e1 σ' H1 hq ⟨O, s1, r', by rw [← wipe_out (vs := vs) hv, hw', wipe_out hv]; exact hA, xv.trans x1.1⟩⟩⟩
theorem v_if {c : Expr} {a b : List Stmt} {t : En → (Bool → Prop) → Prop} (hc : WT X Ts ρ c t) (ha : VSs X Ts ρ fin a F) (hb : VSs X Ts ρ fin b G) : VS X Ts ρ fin (.If c a b pos) (lIf t F G) := PS.imp (ps_if hc ha hb) fun D σ H ⟨aa, He, O₀, Vz, en, Q, ⟨O, s1, rp, hA, xv⟩, hF, k, l⟩ =>
  ⟨He, O, en, _, rp, hF, fun b H' hq r' x => by
    cases b with
    | true => exact iteT ⟨aa, He, O₀, Vz, en, Q, ⟨O, s1, r', hA, xv.trans x.1⟩, hq, k, l⟩
    | false => exact iteF ⟨aa, He, O₀, Vz, en, Q, ⟨O, s1, r', hA, xv.trans x.1⟩, hq, k, l⟩⟩
theorem v_ret (he : WE X Ts ρ e f) : VS X Ts ρ fin (.Return (some e) pos) (lRetV f) := PS.imp (ps_ret he) fun D σ H ⟨aa, He, O₀, Vz, en, Q, ⟨O, s1, rp, hA, xv⟩, hF, k, l⟩ =>
  ⟨He, O, en, _, rp, hF, fun d v H' hq r' q x => l.1 d v en σ H' hq ⟨O, s1, r', hA, xv.trans x.1⟩ (Dp.mono (hide_sub fun b hb => (s1 b hb).1) q)⟩
end
section
variable {P : Program} {w : World} {K : PySem.W.Frag} {mg : Str → Option Value} {base : Heap} {Ts : TsT}
def runV (n : Nat) (F : LF) : List PyData → (PyData → Prop) → Prop := fun ds Q => F (Slot.no :: (ds.map Slot.dat ++ List.replicate (n - 1 - ds.length) Slot.no)) fun r => ∃ d, r = .rt d ∧ Q d
theorem DF.okV {x qual : Str} {st : Stmt} {f : Addr} {fd : FuncData} {cdv : Value} {N ps : List Str} {k n : Nat} {F : LF} (D : DF K x qual st f fd cdv) (S : FnScope N ps (defScope st)) (hn : ps.length = n + 1) (hN : n + 1 ≤ N.length)
    (hbody : ∀ (A : Around) (outer : List Env) (s : Shared) (H : Hp) (E : XK), Room k (A.deeper (envOfC qual (defScope st) s.heap.objs.size f cdv)) → VSs (cxOf CX0 P w K mg base N qual (defScope st) f cdv A outer s H E).nox Ts 0 false (defBody st) F) :
    FnOk P w K mg base CX0 (k + 1) f fd ps (spW K Ts n (runV N.length F)) := by
  obtain ⟨oc, od, dV, kV, doc, pm, an, ct, osl, rfl, lk, hcd⟩ := D.ex
  refine fn_of lk hcd S (fun vs H Q E h => h.1.trans hn.symm) fun A outer s H vs Q E hr hsp => ?_
  refine ⟨_, (hbody A outer s H E hr).nox, ?_⟩
  obtain ⟨hl, a, vs', O, ds, rw', ws, Qd, e1, e2, e3, e4, e5, e6, e7, e8, hF, kk⟩ := hsp
  have rp := wrep_start (N := N) hl (by omega) e1 e2 e3 e4 e6 e7 e8
  have hs : (L2.start N vs)[0]? = some (some (V.ref a)) := by rw [e1]; exact start_get rfl
  refine ⟨a, fun b => if b = a then none else H b, O, fun _ => none, (Slot.no :: (ds.map Slot.dat ++ List.replicate (N.length - 1 - ds.length) Slot.no)), _, ⟨O, fun b z => ⟨z, by by_cases q : b = a; exact .inl q; exact .inr (by show (if b = a then none else H b) ≠ none; rw [if_neg q]; exact (e8 b z).1)⟩, ⟨by simp, rw', e5, rp⟩, hs, fun _ _ z => (nomatch z)⟩, hF, fun en' σ' H' hq _ => ?_, ⟨fun d v en' σ' H' hq r' q => ?_, fun z => nomatch z⟩⟩
  · obtain ⟨_, z, _⟩ := hq
    cases z
  · obtain ⟨d', z, hq⟩ := hq
    cases z
    obtain ⟨O', s1, r2, hA, _⟩ := r'
    obtain ⟨hl2, rw2, hr2, rp2⟩ := r2
    obtain ⟨a', ws2, p1, p2, p3, p4, p5⟩ := rp2.own 0 rw2 (by rw [List.getElem?_set_self hl2])
    rw [hA] at p1
    cases p1
    refine kk d v H' rw2 ws2 hq hr2 p4 (DpAll.mono (hide_sub fun b hb => (s1 b hb).1) p5) (fun b o hb e => ?_) rp2.tabs q
    exact rp2.ext b o (by show (if b = a then none else H b) = some o; rw [if_neg hb]; exact e)
theorem v_end {X : Cx} {ρ : Nat} {rest : List Stmt} {G : En → Option Fl} (h : DSs X Ts rest G) : VSs X Ts ρ true rest (lEnd ρ G) := PSs.imp h fun D σ H ⟨a, He, O₀, Vz, en, Q, ⟨O, s1, ⟨hl, rw, hr, rp⟩, hA, xv⟩, hF, k, l⟩ => by
  obtain ⟨b, h1, h2⟩ := hF rw hr
  exact ⟨He, [], fun _ => none, _, _, ⟨O, fun _ z => (nomatch z), fun _ z => (nomatch z), rp, fun _ _ z => (nomatch z)⟩, h1, fun v H' _ _ q => by cases q; exact l.2 rfl b H' h2⟩
theorem DF.okVL {x qual : Str} {st st1 : Stmt} {rest : List Stmt} {f : Addr} {fd : FuncData} {cdv : Value} {N : List Str} {sc : Str} {k ρ : Nat} {f1 : En → Option PyData} {F : LF} (D : DF K x qual st f fd cdv) (S : FnScope N [sc] (defScope st)) (hN : 1 ≤ N.length) (hb : defBody st = st1 :: rest) (hρ : ρ < N.length)
    (h1 : ∀ (A : Around) (outer : List Env) (s : Shared) (H : Hp) (E : XK), Room k (A.deeper (envOfC qual (defScope st) s.heap.objs.size f cdv)) → DS (cxOf CX0 P w K mg base N qual (defScope st) f cdv A outer s H E).nox Ts st1 (sOwn ρ f1))
    (h2 : ∀ (A : Around) (outer : List Env) (s : Shared) (H : Hp) (E : XK), Room k (A.deeper (envOfC qual (defScope st) s.heap.objs.size f cdv)) → VSs (cxOf CX0 P w K mg base N qual (defScope st) f cdv A outer s H E).nox Ts ρ true rest F)
    (hF : ∀ ns : List Int, ns.length ≤ 63 → ∃ rw, RowOk rw ∧ f1 (lawEn N.length ns) = some (.list rw) ∧ ∀ en', (∃ rw', en' = (lawEn N.length ns).set ρ (.own rw')) → F en' fun r => r = .rt (.bool true)) :
    FnOk P w K mg base CX0 (k + 1) f fd [sc] (spLaw K Ts) := by
  obtain ⟨oc, od, dV, kV, doc, pm, an, ct, osl, rfl, lk, hcd⟩ := D.ex
  refine fn_of lk hcd S (fun vs H Q E ⟨a, ns, h, _⟩ => by rw [h]; rfl) fun A outer s H vs Q E hr hsp => ?_
  rw [hb]
  refine ⟨_, (pss_cons (h1 A outer s H E hr) (h2 A outer s H E hr)).nox, ?_⟩
  obtain ⟨a, ns, rfl, hS, hns, ht, kk⟩ := hsp
  obtain ⟨rw, hrw, hf1, hFF⟩ := hF ns hns
  have hlen : (lawEn N.length ns).length = N.length := by simp [lawEn]; omega
  have rp : Rep K Ts H [] (L2.start N [.ref a]) H (lawEn N.length ns) := by
    have noX : ∀ {i : Nat} {x : Slot}, (lawEn N.length ns)[i + 1]? = some x → x = Slot.no := fun {i x} h => by
      unfold lawEn at h
      rw [List.getElem?_cons_succ, List.getElem?_replicate] at h
      split at h <;> cases h
      rfl
    refine ⟨by rw [hlen]; simp [L2.start]; omega, fun i d h => ?_, fun i es h => ?_, fun i j es es' a h => ?_, fun _ z => (nomatch z), Xt.refl H, ht⟩
    · cases i with
      | zero =>
        cases h
        exact ⟨.ref a, start_get rfl, .lst (sqL_mono (fun o n e => hide_of (fun z => nomatch z) e) hS) (DpAll.of_ints ns)⟩
      | succ i => exact absurd (noX h) (fun z => nomatch z)
    · cases i with
      | zero => cases h
      | succ i => exact absurd (noX h) (fun z => nomatch z)
    · cases i with
      | zero => cases h
      | succ i => exact absurd (noX h) (fun z => nomatch z)
  refine ⟨H, [], fun _ => none, lawEn N.length ns, .nx ((lawEn N.length ns).set ρ (.own rw)), ⟨[], fun _ z => (nomatch z), fun _ z => (nomatch z), rp, fun _ _ z => (nomatch z)⟩, ?_, fun σ' H' r' => ?_⟩
  · unfold sOwn
    rw [hf1]
    show (if ρ < (lawEn N.length ns).length then _ else _) = _
    rw [if_pos (by rw [hlen]; exact hρ)]
  · obtain ⟨O, a1, a2, rp', _⟩ := r'
    obtain ⟨aa, vs2, p1, _⟩ := rp'.own ρ rw (by rw [List.getElem?_set_self (by rw [hlen]; exact hρ)])
    refine ⟨aa, H, [], fun _ => none, (lawEn N.length ns).set ρ (.own rw), _, ⟨O, fun _ z => (nomatch z), ⟨by rw [List.length_set, hlen]; exact hρ, rw, hrw, by rw [List.set_set]; exact rp'⟩, p1, fun _ _ z => (nomatch z)⟩, hFF _ ⟨rw, rfl⟩, fun en' σ2 H2 hq => ?_, ⟨fun d v en' σ2 H2 hq _ q => ?_, fun _ b H2 hq => ?_⟩⟩
    · cases hq
    · cases hq
      cases q
      exact kk H2
    · cases hq
      exact kk H2
end
section
variable {ρ n : Nat} {F G : WF}
def MnA (F : En → (List PyData → Prop) → Prop) : Prop := ∀ en Q Q', (∀ d, Q d → Q' d) → F en Q → F en Q'
def McC (c : List PyData → (PyData → Prop) → Prop) : Prop := ∀ ds Q Q', (∀ d, Q d → Q' d) → c ds Q → c ds Q'
theorem mn_p {f : En → Option PyData} : Mn (wP ρ f) := fun en Q Q' h ⟨d, a, b⟩ => ⟨d, a, h _ b⟩
theorem mna_nil : MnA wNil := fun en Q Q' h a => h _ a
theorem mna_cons {Gs : En → (List PyData → Prop) → Prop} (hF : Mn F) (hG : MnA Gs) : MnA (wCons F Gs) := fun en Q Q' h a => hF en _ _ (fun x hx => hG en _ _ (fun xs hxs => h _ hxs) hx) a
theorem mn_draw {c : List PyData → (PyData → Prop) → Prop} {Gs : En → (List PyData → Prop) → Prop} (hc : McC c) (hG : MnA Gs) : Mn (wDraw n c Gs) := fun en Q Q' h a => hG en _ _ (fun ds ⟨h1, h2⟩ => ⟨h1, hc ds _ _ h h2⟩) a
theorem mn_2 {g : PyData → PyData → Option PyData} (hF : Mn F) (hG : Mn G) : Mn (w2 g F G) := fun en Q Q' h a => hF en _ _ (fun x hx => hG en _ _ (fun y ⟨d, h1, h2⟩ => ⟨d, h1, h _ h2⟩) hx) a
theorem mn_lst {Gs : En → (List PyData → Prop) → Prop} (hG : MnA Gs) : Mn (wLst Gs) := fun en Q Q' h a => hG en _ _ (fun ds ⟨h1, h2⟩ => ⟨h1, h _ h2⟩) a
theorem mni_range (hF : Mn F) : MnI (wRange1 F) := fun en Q Q' h a => hF en _ _ (fun d ⟨j, h1, h2, h3, h4⟩ => ⟨j, h1, h2, h3, h _ h4⟩) a
theorem mc_taken : McC cTaken := fun ds Q Q' h ⟨m, h0, h1, h2, h3⟩ => ⟨m, h0, h1, h2, fun r a b => h _ (h3 r a b)⟩
theorem mc_pick : McC cPick := fun ds Q Q' h ⟨es, h0, h1, h2, h3⟩ => ⟨es, h0, h1, h2, fun d hd => h _ (h3 d hd)⟩
inductive All2 {α β : Type} (P : α → β → Prop) : List α → List β → Prop
  | nil : All2 P [] []
  | cons {x : α} {y : β} {xs : List α} {ys : List β} : P x y → All2 P xs ys → All2 P (x :: xs) (y :: ys)
theorem All2.len {α β : Type} {P : α → β → Prop} : ∀ {xs : List α} {ys : List β}, All2 P xs ys → ys.length = xs.length
  | _, _, .nil => rfl
  | _, _, .cons _ t => by rw [List.length_cons, List.length_cons, t.len]
theorem All2.all {α β : Type} {P : α → β → Prop} {R : β → Prop} (h : ∀ x y, P x y → R y) : ∀ {xs : List α} {ys : List β}, All2 P xs ys → ∀ y ∈ ys, R y
  | _, _, .nil => fun _ z => nomatch z
  | _, _, .cons a t => fun y hy => (List.mem_cons.mp hy).elim (fun e => e ▸ h _ _ a) (fun m => t.all h y m)
theorem wlc_all {α β : Type} {b : PyData → En → Option En} {F : WF} {en : En} {ea : α → PyData} {eb : β → PyData} {P : α → β → Prop} (hb : ∀ x, ∃ e1, b (ea x) en = some e1 ∧ ∀ Q : PyData → Prop, (∀ y, P x y → Q (eb y)) → F e1 Q) :
    ∀ (xs : List α) (Q : List PyData → Prop), (∀ ys : List β, All2 P xs ys → Q (ys.map eb)) → wlcGo b wYes F en (xs.map ea) Q
  | [], Q, h => h [] .nil
  | x :: r, Q, h => by
    obtain ⟨e1, h1, h2⟩ := hb x
    refine ⟨e1, h1, ?_⟩
    refine (show (if true = true then F e1 (fun y => wlcGo b wYes F en (r.map ea) fun o => Q (y :: o)) else wlcGo b wYes F en (r.map ea) Q) from ?_)
    rw [if_pos rfl]
    exact h2 _ fun y hy => wlc_all hb r _ fun ys hys => h (y :: ys) (.cons hy hys)
end
def tX (K : PySem.W.Frag) (Ts : TsT) (W : WX) (cls : Value) (R : En → Bool) : TS := fun _ σ H => ∃ He O₀ Vz en, RepS K Ts He O₀ Vz σ H en ∧ R en = true ∧ ∀ σ' H', Xt He H' → Tb Ts H' → W cls none σ' H'
def tXE (K : PySem.W.Frag) (Ts : TsT) (W : WX) (cls : Value) (R : En → Bool) : TE := fun σ H _ => ∃ He O en, Rep K Ts He O σ H en ∧ R en = true ∧ ∀ H', Xt H H' → Tb Ts H' → W cls none σ H'
abbrev XS (X : Cx) (Ts : TsT) (W : WX) (cls : Value) (st : Stmt) (R : En → Bool) : Prop := PS X st (tX X.K Ts W cls R)
abbrev XSs (X : Cx) (Ts : TsT) (W : WX) (cls : Value) (st : List Stmt) (R : En → Bool) : Prop := PSs X st (tX X.K Ts W cls R)
abbrev XE' (X : Cx) (Ts : TsT) (W : WX) (cls : Value) (e : Expr) (R : En → Bool) : Prop := PE X e (tXE X.K Ts W cls R)
def rLater (F : En → Option Fl) (R : En → Bool) : En → Bool := fun en => match F en with
  | some (.nx e1) => R e1
  | _ => false
def rIf (t : En → Option Bool) (R : En → Bool) : En → Bool := fun en => match t en with
  | some true => R en
  | _ => false
def rCall (n : Nat) (R : List PyData → Bool) (g : En → Option (List PyData)) : En → Bool := fun en => match g en with
  | some ds => decide (ds.length = n) && R ds
  | none => false
def rYes : En → Bool := fun _ => true
section
variable {X : Cx} {Ts : TsT} {W : WX} {cls : Value} {pos : Pos} {st : Stmt} {rest : List Stmt} {F : En → Option Fl} {R : En → Bool} {e : Expr} {es : List Expr} {g : En → Option (List PyData)}
theorem pss_false : PSs X rest (fun _ _ _ => False) := ⟨fun _ _ _ _ _ _ h => h.elim⟩
theorem x_raise (hc : X.calm = true) (tk : Takes X W) (mk : PMk X e (fun _ H Q => Q cls none H)) : XS X Ts W cls (.Raise (some e) none pos) rYes :=
  PS.imp (ps_raise hc tk mk) fun D σ H ⟨He, O₀, Vz, en, ⟨O, a1, a2, rp, xv⟩, _, k⟩ => k σ H rp.ext rp.tabs
theorem xs_here (h1 : XS X Ts W cls st R) : XSs X Ts W cls (st :: rest) R := PSs.imp (pss_cons h1 pss_false) fun D σ H h => h
theorem xs_later (h1 : DS X Ts st F) (h2 : XSs X Ts W cls rest R) : XSs X Ts W cls (st :: rest) (rLater F R) := PSs.imp (pss_cons h1 h2) fun D σ H ⟨He, O₀, Vz, en, rp, hR, k⟩ => by
  unfold rLater at hR
  split at hR
  · rename_i e1 hF
    exact ⟨He, O₀, Vz, en, _, rp, hF, fun σ' H' r' => ⟨He, O₀, Vz, e1, r', hR, k⟩⟩
  · cases hR
theorem x_if {c : Expr} {a b : List Stmt} {t : En → Option Bool} (hc : DT X Ts c t) (ha : XSs X Ts W cls a R) : XS X Ts W cls (.If c a b pos) (rIf t R) := PS.imp (ps_if hc ha pss_false) fun D σ H ⟨He, O₀, Vz, en, ⟨O, a1, a2, rp, xv⟩, hR, k⟩ => by
  unfold rIf at hR
  split at hR
  · rename_i h
    exact tT.of rp h fun H1 x1 r1 => iteT ⟨He, O₀, Vz, en, ⟨O, a1, a2, r1, xv.trans (hide_mono x1)⟩, hR, k⟩
  · cases hR
theorem x_w : ∀ {D : Ends} {σ : St} {H : Hp} {Q : VK}, tX X.K Ts W cls R D σ H → tXE X.K Ts W cls R σ H Q := fun ⟨He, O₀, Vz, en, ⟨O, a1, a2, rp, xv⟩, hR, k⟩ =>
  ⟨He, O, en, rp, hR, fun H' x t => k _ H' (rp.ext.trans x) t⟩
theorem x_expr (he : XE' X Ts W cls e R) (hs : swapsWith e none pos.line X.env = pure false := by rfl) : XS X Ts W cls (.Expr e pos) R := PS.imp (ps_expr he hs) fun D σ H h => x_w h
end
def spR (K : PySem.W.Frag) (Ts : TsT) (n : Nat) (C : Value) (R : List PyData → Bool) : Sp := fun vs H _ E => vs.length = n ∧ ∃ O ds, DpAll K (hide H O) vs ds ∧ Tb Ts H ∧ (∀ b ∈ O, H b ≠ none ∧ ∀ ps, H b ≠ some (.tbl ps)) ∧ R ds = true ∧
  ∀ H', Xt H H' → Tb Ts H' → E C none H'
structure CR (P : Program) (w : World) (K : PySem.W.Frag) (mg : Str → Option Value) (base : Heap) (Ts : TsT) (k : Nat) (x : Str) (n : Nat) (C : Value) (R : List PyData → Bool) : Prop where
  ex : ∃ f fd ps, mg x = some (.ref f) ∧ PySem.W.keepIn K (.ref f) = true ∧ Binds K fd ps [] ∧ FnOk P w K mg base (L2.CX P w) k f fd ps (spR K Ts n C R)
theorem CR.imp {P : Program} {w : World} {K : PySem.W.Frag} {mg : Str → Option Value} {base : Heap} {Ts : TsT} {k : Nat} {x : Str} {n : Nat} {C : Value} {R S : List PyData → Bool} (c : CR P w K mg base Ts k x n C R) (h : ∀ ds, S ds = true → R ds = true) : CR P w K mg base Ts k x n C S := by
  obtain ⟨f, fd, ps, h1, h2, h3, h4⟩ := c.ex
  exact ⟨f, fd, ps, h1, h2, h3, h4.imp fun vs H Q E ⟨a, O, ds, b, c, d, e, k⟩ => ⟨a, O, ds, b, c, d, h ds e, k⟩⟩
theorem x_call {X : Cx} {Ts : TsT} {W : WX} {k j n : Nat} {x : Str} {p pos : Pos} {C : Value} {R : List PyData → Bool} {e : Expr} {es : List Expr} {g : En → Option (List PyData)} (hr : Room j X.A) (hF : CR X.prog X.w X.K X.mg X.base Ts k x n C R) (hk : k ≤ j) (hg : Gl X x) (tk : Takes X W) (ha : DA X Ts (e :: es) g)
    (hdb : (x == ("__debug__" : Str)) = false := by decide) (he : starEach (e :: es) X.env = (false, eval e X.env) :: starEach es X.env := by rfl) (hpl : (backTo pos (starEach es X.env)).any (·.1) = false := by rfl) : XE' X Ts W C (.Call (.Name x p) (e :: es) [] pos) (rCall n R g) := by
  obtain ⟨f, fd, ps, h1, h2, h3, h4⟩ := hF.ex
  refine PE.imp (pe_callS (E := L2.WE W) h4 (hr.mono hk) hg h1 h2 h3 (fun σ => passAt tk σ) ha hdb he hpl) fun σ H Q ⟨He, O, en, rp, hR, kk⟩ => ?_
  unfold rCall at hR
  split at hR
  · rename_i ds q1
    obtain ⟨hl, hR⟩ := Bool.and_eq_true_iff.mp hR
    have hl := of_decide_eq_true hl
    exact tDs.of rp q1 fun vs H1 x1 r1 qs => ⟨by rw [DpAll.len qs, hl], O, ds, qs, r1.tabs, r1.occ, hR, fun H' x t => kk H' (x1.trans x) t⟩
  · cases hR
def runR (n : Nat) (R : En → Bool) (ds : List PyData) : Bool := R (ds.map .dat ++ List.replicate (n - ds.length) .no)
theorem rep_start {K : PySem.W.Frag} {Ts : TsT} {H : Hp} {O : List Addr} {vs : List V} {ds : List PyData} {N : List Str} (q : DpAll K (hide H O) vs ds) (t : Tb Ts H) (occ : ∀ b ∈ O, H b ≠ none ∧ ∀ ps, H b ≠ some (.tbl ps)) : Rep K Ts H O (L2.start N vs) H (ds.map .dat ++ List.replicate (N.length - ds.length) .no) := by
  have hlen := DpAll.len q
  refine ⟨by simp [L2.start, hlen], fun i d h => ?_, fun i es h => ?_, fun i j es es' a h => ?_, occ, Xt.refl H, t⟩
  · by_cases hi : i < ds.length
    · rw [List.getElem?_append_left (by simpa using hi), List.getElem?_map] at h
      obtain ⟨d', h1, h2⟩ := Option.map_eq_some_iff.mp h
      cases h2
      obtain ⟨v, h3, h4⟩ := DpAll.get' q h1
      refine ⟨v, ?_, h4⟩
      unfold L2.start
      rw [List.getElem?_append_left (by simp; omega), List.getElem?_map, h3]
      rfl
    · rw [List.getElem?_append_right (by simpa using hi), List.getElem?_replicate] at h
      split at h <;> cases h
  · by_cases hi : i < ds.length
    · rw [List.getElem?_append_left (by simpa using hi), List.getElem?_map] at h
      obtain ⟨d', h1, h2⟩ := Option.map_eq_some_iff.mp h
      cases h2
    · rw [List.getElem?_append_right (by simpa using hi), List.getElem?_replicate] at h
      split at h <;> cases h
  · by_cases hi : i < ds.length
    · rw [List.getElem?_append_left (by simpa using hi), List.getElem?_map] at h
      obtain ⟨d', h1, h2⟩ := Option.map_eq_some_iff.mp h
      cases h2
    · rw [List.getElem?_append_right (by simpa using hi), List.getElem?_replicate] at h
      split at h <;> cases h
abbrev rCx (P : Program) (w : World) (K : PySem.W.Frag) (mg : Str → Option Value) (base : Heap) (N : List Str) (qual : Str) (sc : Scope) (f : Addr) (cdv : Value) (A : Around) (outer : List Env) (s : Shared) (H : Hp) (E : XK) : Cx := cxOf (L2.CX P w) P w K mg base N qual sc f cdv A outer s H E
abbrev wOf (E : XK) : WX := fun cls d _ H => E cls d H
theorem tk_of {P : Program} {w : World} {K : PySem.W.Frag} {mg : Str → Option Value} {base : Heap} {N : List Str} {qual : Str} {sc : Scope} {f : Addr} {cdv : Value} {A : Around} {outer : List Env} {s : Shared} {H : Hp} {E : XK} : Takes (rCx P w K mg base N qual sc f cdv A outer s H E) (wOf E) := takes_of rfl rfl rfl rfl
section
variable {P : Program} {w : World} {K : PySem.W.Frag} {mg : Str → Option Value} {base : Heap} {Ts : TsT}
theorem DF.okR {x qual : Str} {st : Stmt} {f : Addr} {fd : FuncData} {cdv : Value} {N ps : List Str} {k : Nat} {C : Value} {R : En → Bool} (D : DF K x qual st f fd cdv) (S : FnScope N ps (defScope st))
    (hbody : ∀ (A : Around) (outer : List Env) (s : Shared) (H : Hp) (E : XK), Room k (A.deeper (envOfC qual (defScope st) s.heap.objs.size f cdv)) → XSs (rCx P w K mg base N qual (defScope st) f cdv A outer s H E) Ts (wOf E) C (defBody st) R) :
    FnOk P w K mg base (L2.CX P w) (k + 1) f fd ps (spR K Ts ps.length C (runR N.length R)) := by
  obtain ⟨oc, od, dV, kV, doc, pm, an, ct, osl, rfl, lk, hcd⟩ := D.ex
  refine fn_of lk hcd S (fun vs H Q E h => h.1) fun A outer s H vs Q E hr hsp => ?_
  refine ⟨_, hbody A outer s H E hr, ?_⟩
  obtain ⟨hl, O, ds, q, t, occ, hR, kk⟩ := hsp
  exact ⟨H, O, fun _ => none, _, ⟨O, fun b hb => hb, fun b hb => (occ b hb).1, rep_start q t occ, fun b o e => nomatch e⟩, hR, fun σ' H' x t => kk H' x t⟩
theorem CR.of {k n : Nat} {x : Str} {C : Value} {R : List PyData → Bool} {f : Addr} {fd : FuncData} {ps : List Str} (h1 : mg x = some (.ref f)) (h2 : PySem.W.keepIn K (.ref f) = true) (h3 : Binds K fd ps []) (h4 : FnOk P w K mg base (L2.CX P w) k f fd ps (spR K Ts n C R)) : CR P w K mg base Ts k x n C R := ⟨f, fd, ps, h1, h2, h3, h4⟩
end
def isT (S : List PyData → Option PyData) : List PyData → Bool := fun ds => match S ds with
  | some (.bool true) => true
  | _ => false
def Lk (F : En → Option Fl) (R : En → Bool) : Prop := ∀ en, F en = some (.rt (.bool true)) → R en = true
def Nr (F : En → Option Fl) : Prop := ∀ en v, F en ≠ some (.rt v)
section
variable {F G : En → Option Fl} {R : En → Bool} {f g : En → Option PyData} {t : En → Option Bool} {b : PyData → En → Option En}
theorem nr_expr : Nr (sExpr f) := fun en v z => by
  unfold sExpr at z
  obtain ⟨_, _, z⟩ := Option.map_eq_some_iff.mp z
  cases z
theorem lk_later (h : Nr F) (k : Lk G R) : Lk (sSeq F G) (rLater F R) := fun en z => by
  unfold sSeq at z
  unfold rLater
  cases h1 : F en with
  | none => rw [h1] at z; cases z
  | some r =>
    rw [h1] at z
    cases r with
    | nx e1 => exact k e1 z
    | rt v => exact absurd h1 (h en v)
    | _ => cases z
theorem lk_if : Lk (sIf t (sRet (fLit (.bool true))) (sRet (fLit (.bool false)))) (rIf t rYes) := fun en z => by
  unfold sIf at z
  unfold rIf
  split at z
  · rename_i h
    rw [h]
    rfl
  · cases z
  · cases z
theorem lk_call {n : Nat} {S : List PyData → Option PyData} {a : En → Option (List PyData)} : Lk (sRet (fCall n S a)) (rCall n (isT S) a) := fun en z => by
  unfold sRet fCall at z
  unfold rCall isT
  cases h : a en with
  | none => rw [h] at z; cases z
  | some ds =>
    rw [h, Option.bind_some] at z
    by_cases hl : ds.length = n
    · rw [if_pos hl] at z
      obtain ⟨w, hw, z⟩ := Option.map_eq_some_iff.mp z
      cases z
      show (decide (ds.length = n) && (match S ds with
        | some (.bool true) => true
        | _ => false)) = true
      rw [hw, decide_eq_true hl]
      rfl
    · rw [if_neg hl] at z
      cases z
theorem lk_run {n : Nat} (h : Lk F R) : ∀ ds, isT (runD n F) ds = true → runR n R ds = true := fun ds z => by
  unfold isT runD at z
  unfold runR
  cases e : F (ds.map .dat ++ List.replicate (n - ds.length) .no) with
  | none => rw [e] at z; cases z
  | some r =>
    rw [e] at z
    cases r with
    | rt d =>
      cases d with
      | bool k =>
        cases k with
        | true => exact h _ e
        | false => cases z
      | _ => cases z
    | _ => cases z
end
theorem spR.imp {K : PySem.W.Frag} {Ts : TsT} {n : Nat} {C : Value} {R S : List PyData → Bool} (h : ∀ ds, S ds = true → R ds = true) : ∀ vs H Q E, spR K Ts n C S vs H Q E → spR K Ts n C R vs H Q E := fun vs H Q E ⟨a, O, ds, b, c, d, e, k⟩ => ⟨a, O, ds, b, c, d, h ds e, k⟩
structure ExcT (K : PySem.W.Frag) (mg : Str → Option Value) (x : Str) (C : Addr) : Prop where
  m : mg x = some (.ref C)
  q : PySem.W.excIn K C [.type "ValueError", .type "Exception", .type "BaseException", .type "object"] "ValueError.__new__" = true
  k : PySem.W.keepIn K (.ref C) = true
  s : PySem.W.subIn K (.ref C) (.type "BaseException") = some true
  t : PySem.W.typeIn K (.ref C) = some (.type "type")
theorem x_raiseE {X : Cx} {Ts : TsT} {W : WX} {x m : Str} {C : Addr} {j : Nat} {p p2 pos pos' : Pos} (E : ExcT X.K X.mg x C) (hg : Gl X x) (hc : X.calm = true) (tk : Takes X W) (hdb : (x == ("__debug__" : Str)) = false := by decide) :
    XS X Ts W (.ref C) (.Raise (some (.Call (.Name x p) [.Constant (.str m) j p2] [] pos')) none pos) rYes := x_raise hc tk (pmk_own PySem.F.excBase_ValueError E.q E.m E.k (raises_own E.s E.t) hg hdb)
end DN
namespace DN
open PySem PySem.Spec PyProof.Rows L2 LamX
def KeepP (P : Addr) (H H' : Hp) : Prop := ∀ b o, b ≠ P → H b = some o → H' b = some o
section
variable {X : Cx} {pins : List (Addr × Obj)} {σ : L2.St} {H : Hp} {s : Shared}
theorem lam_make3 {c P : Addr} {params : Arguments} {body : Expr} {scope : Scope} {pos : Pos} {E : Value → Shared → Prop} {Q : Value → Shared → Prop} (I : Inv X pins σ H s) (TB : TabB X.base X.mg c P) (hcode : X.env.code = .ref c)
    (hT : TabS H P (X.env.qual ++ "<lambda>")) (hdef : defaultsOf params X.env = ([], [])) (hfree : ∀ y ∈ scope.names, y.2 = .free → ∃ c, X.env.cells.lookup y.1 = some c)
    (h : ∀ (f c' : Addr) (pm ctv : Value) (H1 : Hp) (s' : Shared), Inv X pins σ H1 s' → KeepP P H H1 → TabS H1 P (X.env.qual ++ "<lambda>") →
      s'.heap.get? f = some (PySem.W.kla_obj "<lambda>" (X.env.qual ++ "<lambda>") params body scope (cloFrom X.env.cells scope.names []) pm c' ctv) → H1 f = none → f ∉ frs X.stack → H1 c' = some (CodeO c' (X.env.qual ++ "<lambda>")) → Q (.ref f) s') :
    wpAny (model X.prog X.w) X.A (eval (.Lambda params body scope pos) X.env) Q E s := by
  obtain ⟨ps, hP, ht, ha⟩ := hT
  have atP : s.heap.get? P = some { cls := .none, data := .fields ps } := I.hok P _ hP
  have bP : s.heap.BuiltinsAt X.mg P := TB.bm.keeps I.bk
  have out : ∀ f, s.heap.objs.size ≤ f → f ∉ frs X.stack := fun f hf z => (List.mem_cons.mp (I.stkSub _ z)).elim
    (fun e => by have h1 := I.lt; rw [← e] at h1; exact Nat.lt_irrefl _ (Nat.lt_of_lt_of_le h1 hf)) fun e => I.nofs hf e
  refine PySem.W.kla_eval hdef ?_
  cases hc : codeAmong pos ps.toList with
  | some cv =>
    obtain ⟨c', e, hco⟩ := ha pos cv hc
    subst e
    refine PySem.W.kla_makeFunctionHit (mg := X.mg) (c := c) (P := P) (ps := ps) (closure_ok hfree) I.ok.glob (I.mod.glob.keeps I.bk) hcode (TB.code.keeps I.bk) atP ht hc bP fun ctv h' tk hx hsz => ?_
    exact h h'.objs.size c' ((X.mg "__name__").getD .none) ctv H _ (I.kept (t' := tk) fun b o e => Heap.get?_push_of_some _ (hx b o e)) (fun b o _ e => e) ⟨ps, hP, ht, ha⟩ (Heap.get?_push_size _ rfl) (I.hok.fresh hsz) (out _ hsz) hco
  | none =>
    refine PySem.W.kla_makeFunction (mg := X.mg) (c := c) (P := P) (ps := ps) (closure_ok hfree) I.ok.glob (I.mod.glob.keeps I.bk) hcode (TB.code.keeps I.bk) atP ht hc TB.gP bP fun c' ctv h' tk hx hge hlt hrec htb => ?_
    obtain ⟨c2, oc, vs, t, e2, hoc, hd, hv⟩ := hrec
    cases e2
    have hsz : s.heap.objs.size ≤ h'.objs.size := Nat.le_trans hge (Nat.le_of_lt hlt)
    have nC : H c' = none := I.hok.fresh hge
    have kp : KeepP P H (upd (upd H P (.tbl (ps ++ #[rawInt pos.line, rawInt pos.col, .ref c']))) c' (CodeO c' (X.env.qual ++ "<lambda>"))) := fun b o n e => by
      rw [upd_ne (ne_of_none e nC), upd_ne n]
      exact e
    have ncP : ∀ c0, H c0 = some (CodeO c0 (X.env.qual ++ "<lambda>")) → c0 ≠ P := fun c0 e z => by
      rw [z, hP] at e
      exact codeO_ne ps (Option.some.inj e).symm
    refine h h'.objs.size c' ((X.mg "__name__").getD .none) ctv _ _ (inv_table (t' := tk) (more := #[rawInt pos.line, rawInt pos.col, .ref c']) (h' := h'.push (PySem.W.kla_obj "<lambda>" (X.env.qual ++ "<lambda>") params body scope (cloFrom X.env.cells scope.names []) ((X.mg "__name__").getD .none) c' ctv)) I hP
      (fun b o hb e => Heap.get?_push_of_some _ (hx b o hb e)) (Heap.get?_push_of_some _ htb) hge ⟨oc, vs, t, Heap.get?_push_of_some _ hoc, hd, hv⟩) kp ?_ (Heap.get?_push_size _ rfl) ?_ (out _ hsz) upd_same
    · have eL : (ps ++ #[rawInt pos.line, rawInt pos.col, .ref c']).toList = ps.toList ++ [rawInt pos.line, rawInt pos.col, .ref c'] := by simp
      refine ⟨_, by rw [upd_ne (ne_of_none hP nC), upd_same], by rw [eL]; exact PySem.TriplesOk_snoc _ _ _ _ ht, fun p' cv hcv => ?_⟩
      rw [eL] at hcv
      rcases among_app _ ht hcv with z | z
      · obtain ⟨c0, e1, e2⟩ := ha p' cv z
        exact ⟨c0, e1, kp _ _ (ncP c0 e2) e2⟩
      · exact ⟨c', z, upd_same⟩
    · rw [upd_ne (Nat.ne_of_gt hlt), upd_ne (Nat.ne_of_gt (Nat.lt_of_lt_of_le (Heap.lt_size atP) hsz))]
      exact I.hok.fresh hsz
end
def tLam3 (P : Addr) (q : Str) (TT : (XK → Hp → VK → Prop) → Hp → VK → Prop) (t : XK → TE) : TE := fun σ H Q => TabS H P q ∧ ∀ H1, KeepP P H H1 → TabS H1 P q → TT (fun E H' Q' => t E σ H' Q') H1 Q
section
variable {X : Cx}
theorem pe_lamcall3 {TT : (XK → Hp → VK → Prop) → Hp → VK → Prop} {x a : Str} {g c P : Addr} {k : Nat} {pg : Arguments} {bg : List Stmt} {sg : Scope} {dV kV doc pm cdv ct oc : Value} {an od : Option Addr} {osl : Array (Option Value)} {Ng : List Str}
    {params : Arguments} {body : Expr} {scope : Scope} {t : XK → TE} {p lpos pos : Pos} (hg : Gl X x) (hm : X.mg x = some (.ref g)) (hk : PySem.W.keepIn X.K (.ref g) = true)
    (lk : X.K.lookup g = some ⟨oc, od, .func (PySem.W.fnOf x x pg bg sg dV kV doc pm an cdv ct), osl⟩) (hcg : PySem.W.codeIn X.K cdv x = true) (hb : L2.Binds X.K (PySem.W.fnOf x x pg bg sg dV kV doc pm an cdv ct) [a] []) (Sg : FnScope Ng [a] sg) (hNg : Ng[0]? = some a) (hva : Vis sg a)
    (hG : GivesTo X Ng x sg g cdv bg a (X.env.qual ++ "<lambda>") TT)
    (TB : TabB X.base X.mg c P) (hcode : X.env.code = .ref c) (hr : Room (k + 2) X.A) (L : LamS X.env.scope scope) (hdef : defaultsOf params X.env = ([], []))
    (hbind : ∀ (q : Str) (cl : List (Str × Addr)) (pm cv ctv : Value), bindArgs (PySem.W.kla_fn "<lambda>" q params body scope cl pm cv ctv) ⟨[], []⟩ = pure [])
    (hbody : ∀ (A : Around) (outer : List Env) (s : Shared) (H : Hp) (E : XK) (f c' : Addr), Room k (A.deeper (lamEnv X scope s.heap.objs.size f c')) → PE (lamCx X A outer s H E scope f c') body (t E))
    (hdb : (x == ("__debug__" : Str)) = false := by decide) (hd : (a == ("__debug__" : Str)) = false := by decide) (hcd : (a == ("__classdict__" : Str)) = false := by decide) :
    PE X (.Call (.Name x p) [.Lambda params body scope lpos] [] pos) (tLam3 P (X.env.qual ++ "<lambda>") TT t) := by
  refine ⟨fun pins s σ H Q I ⟨hT, h⟩ => ?_⟩
  refine wpAny_Call_Name_kw (ld_glob I hg hm ?_ hdb)
  refine PySem.W.callWith_K (h₀ := X.base) I.ok.mod.kin hk ?_ (by rfl) (by rfl)
  show wpAny _ _ (spliced ((false, eval (.Lambda params body scope lpos) X.env) :: backTo pos (starEach [] X.env))) _ _ s
  refine Calls.spliced_cons (lam_make3 I TB hcode hT hdef (L.has I.ok) fun f c' pm' ctv H1 s' I1 eN T1 hf hfn hfr hco => ?_)
  refine Calls.spliced_nil ⟨I1.kIn, ?_⟩
  have rc : codeAny (model X.prog X.w) X.A (.call (.ref g) ⟨[.ref f], []⟩) (L2.CR C8.CX0 X.stack X.prog X.w H1 s' Q C8.E0) s' :=
    run_ofS (N := Ng) (ps := [a]) (us := [.ref f]) (vs := [.ref f]) lk hcg Sg hr I1.env0 (hb s' [.ref f] I1.kIn rfl) (.cons rfl .nil) rfl fun hr' => by
      obtain ⟨t', ht', hq'⟩ := hG f c' s' H1 Q (fun E H' Q' => t E σ H' Q') (fun W pn xe E p1 p2 tk hW => pe_act (i := 0) I1 L hf hfn hfr (hbind _ _ _ _ _) tk hW hr' (fun A outer s H hr2 => hbody A outer s H E f c' hr2) hNg hva hd hcd) hco (h H1 eN T1)
      exact ⟨t', ht'.nox, hq'⟩
  refine wpAny_call (codeAny_mono rc fun r s2 hq => ?_)
  cases r with
  | error e => exact (show False from hq).elim
  | ok fl =>
    cases fl with
    | ret u => exact I1.after hq
    | next => exact False.elim hq
    | brk => exact False.elim hq
    | cont => exact False.elim hq
end
theorem takes_len {X : Cx} {W : WX} (tk : Takes X W) : Takes X (fun cls d σ H => σ.length = X.N.length → W cls d σ H) := fun u s' ⟨a, B, sI, pins, σ, H, cls, d, e, I, nb, up, sky, na, os, ag, w⟩ =>
  tk u s' ⟨a, B, sI, pins, σ, H, cls, d, e, I, nb, up, sky, na, os, ag, w I.len⟩
def TT2 (C : Addr) (ret : Str) : (XK → Hp → VK → Prop) → Hp → VK → Prop := fun tl H Q => tl (fun cls d H' => cls = .ref C ∧ d = none ∧ Q (.str ret) H') H Q
section
variable {X : Cx}
theorem told2 {Ng : List Str} {x a n dn cn q ret oth : Str} {sg : Scope} {g C CD : Addr} {cdg : Value} {j j2 : Nat} {p1 p2 p3 p4 p5 p6 p7 p8 p9 q1 q2 q3 q4 q5 : Pos} (hN : Ng.Nodup) (h1 : Ng[1]? = some n) (hln : sg.names.lookup n = some .local)
    (hgd : sg.names.lookup dn = some .globalImplicit) (hgc : sg.names.lookup cn = some .globalImplicit) (hgi : sg.names.lookup ("isinstance" : Str) = some .globalImplicit) (hdd : (dn == ("__debug__" : Str)) = false) (hdc : (cn == ("__debug__" : Str)) = false)
    (hdn : (n == ("__debug__" : Str)) = false) (hcn : (n == ("__classdict__" : Str)) = false)
    (md : X.mg dn = some (.ref CD)) (mc : X.mg cn = some (.ref C)) (mi : X.mg ("isinstance" : Str) = none) (hv : bootBuiltins ("isinstance" : Str) = some (.builtin "isinstance")) (hx : PySem.W.exmOne X.K (.ref C) (.ref CD) = some true) (EC : ExcC X.K C) (hk : PySem.W.kitOne X.K (.ref C) (.ref C) = some true)
    (h0 : ∀ f : Addr, (L2.start Ng [V.ref f])[0]? = some (some (V.ref f))) :
    GivesTo X Ng x sg g cdg [.Try [.Return (some (.Call (.Name a p1) [] [] p2)) p3] [.ExceptHandler (some (.Name dn p4)) (some n) [.Return (some (.IfExp (.Call (.Name "isinstance" q1) [.Name n q2, .Name cn q3] [] q4) (.Constant (.str ret) j p5) (.Constant (.str oth) j2 q5) p6)) p7] p8] [] [] p9] a q (TT2 C ret) := by
  intro f c' s H Q tl act hc h
  have gd : Gl (cxOf C8.CX0 X.prog X.w X.K X.mg X.base Ng x sg g cdg X.A X.stack s H C8.E0).nox dn := hgd
  refine ⟨_, pss_one (ps_try_as (X := (cxOf C8.CX0 X.prog X.w X.K X.mg X.base Ng x sg g cdg X.A X.stack s H C8.E0).nox) (i := 1) (c := .ref CD)
      (tb := fun W D σ H => ∃ Ech : XK, (∀ cls d σ' H', Ech cls d H' → σ'.length = Ng.length → W cls d σ' H') ∧ σ[0]? = some (some (.ref f)) ∧ H c' = some (CodeO c' q) ∧ tl Ech H D.rt)
      (ts := fun a cls d D σ H => cls = .ref C ∧ d = none ∧ σ[1]? = some (some (.ref a)) ∧ D.rt (.str ret) H)
      rfl rfl hN h1 hln ⟨gd, hdd, .inl md⟩ LamX.takes0 (fun W pn xe tk _ => ?_) (fun a oe cls d pn hz hf => ?_)), ?_⟩
  · refine ⟨fun pins s' σ H' D I h' => ?_⟩
    obtain ⟨Ech, hW, e1, e2, e3⟩ := h'
    exact (pss_one (ps_ret (pos := p3) (act _ pn xe Ech p1 p2 (takes_len tk) hW))).run pins s' σ H' D I ⟨e1, e2, e3⟩
  · refine ⟨fun pins s' σ H' D I h' => ?_⟩
    obtain ⟨rfl, rfl, e1, e2⟩ := h'
    have vn : Vis ((cxOf C8.CX0 X.prog X.w X.K X.mg X.base Ng x sg g cdg X.A X.stack s H C8.E0).nox.suite a ((a, oe) :: pn)).env.scope n := .inl hln
    have gi : Gl ((cxOf C8.CX0 X.prog X.w X.K X.mg X.base Ng x sg g cdg X.A X.stack s H C8.E0).nox.suite a ((a, oe) :: pn)) "isinstance" := hgi
    have gc : Gl ((cxOf C8.CX0 X.prog X.w X.K X.mg X.base Ng x sg g cdg X.A X.stack s H C8.E0).nox.suite a ((a, oe) :: pn)) cn := hgc
    have test := pe_callB (p := q1) (pos := q4) (call_isE (X := (cxOf C8.CX0 X.prog X.w X.K X.mg X.base Ng x sg g cdg X.A X.stack s H C8.E0).nox) (pn := pn) EC hz hf) gi mi hv (pa_cons (pe_var (pos := q2) (i := 1) h1 vn hdn hcn) (pa_cons (pe_glob (pos := q3) (v := .ref C) gc mc rfl hdc) pa_nil))
    refine (pss_one (ps_ret (pos := p7) (pe_ifExp (pos := p6) (pt_truth test (by intro _; rfl)) pe_str pe_str))).run pins s' σ H' D I ?_
    exact ⟨.ref a, e1, .ref C, .ref C, true, rfl, fun u r => r, hk, true, rfl, e2⟩
  · refine ⟨fun cls d H' => cls = .ref C ∧ d = none ∧ Q (.str ret) H', fun cls d σ' H' ⟨z1, z2, z3⟩ hlen => ⟨true, by rw [z1]; exact hx, fun _ a' na => ⟨z1, z2, ?_, z3⟩, fun z => nomatch z⟩, h0 f, hc, h⟩
    exact List.getElem?_set_self (by rw [hlen]; exact (List.getElem?_eq_some_iff.mp h1).1)
end
structure Told (K : PySem.W.Frag) (mg : Str → Option Value) (x : Str) (C : Addr) (ret : Str) : Prop where
  ex : ∃ (g : Addr) (pg : Arguments) (bg : List Stmt) (sg : Scope) (dV kV doc pm cdv ct oc : Value) (an od : Option Addr) (osl : Array (Option Value)) (a : Str) (Ng : List Str), mg x = some (.ref g) ∧ PySem.W.keepIn K (.ref g) = true ∧
    K.lookup g = some ⟨oc, od, .func (PySem.W.fnOf x x pg bg sg dV kV doc pm an cdv ct), osl⟩ ∧ PySem.W.codeIn K cdv x = true ∧ L2.Binds K (PySem.W.fnOf x x pg bg sg dV kV doc pm an cdv ct) [a] [] ∧ FnScope Ng [a] sg ∧ Ng[0]? = some a ∧ Vis sg a ∧
    (a == ("__debug__" : Str)) = false ∧ (a == ("__classdict__" : Str)) = false ∧ ∀ (X : Cx) (q : Str), X.K = K → X.mg = mg → GivesTo X Ng x sg g cdv bg a q (TT2 C ret)
def fTold (n : Nat) (F : List PyData → Option PyData) (R : List PyData → Bool) (ret : Str) (g : En → Option (List PyData)) : En → Option PyData := fun en => (g en).bind fun ds => if ds.length = n then (match F ds with
  | some d => some d
  | none => if R ds = true then some (.str ret) else none) else none
theorem pe_or {X : Cx} {e : Expr} {t u : TE} (h : PE X e t) (k : PE X e u) : PE X e (fun σ H Q => t σ H Q ∨ u σ H Q) := ⟨fun pins s σ H Q I q => q.elim (h.run pins s σ H Q I) (k.run pins s σ H Q I)⟩
theorem d_told {X : Cx} {Ts : TsT} {x fx ret : Str} {C c P : Addr} {k j j2 n : Nat} {F : List PyData → Option PyData} {R : List PyData → Bool} {g : En → Option (List PyData)} {params : Arguments} {e : Expr} {es : List Expr} {scope : Scope} {p px cpos lpos pos : Pos}
    (hT : Told X.K X.mg x C ret) (hF : DFn X Ts j fx n F) (hR : CR X.prog X.w X.K X.mg X.base Ts j2 fx n (.ref C) R) (hj : j ≤ k) (hj2 : j2 ≤ k) (hr : Room (k + 2) X.A) (hg : Gl X x) (TB : TabB X.base X.mg c P) (hP : (P, lamQ) ∈ Ts.ls) (hcode : X.env.code = .ref c) (hq : X.env.qual ++ "<lambda>" = lamQ)
    (L : LamS X.env.scope scope) (hgf : scope.names.lookup fx = some .globalImplicit)
    (ha : ∀ (A : Around) (outer : List Env) (s : Shared) (H : Hp) (E : XK) (f c' : Addr), DA (lamCx X A outer s H E scope f c') Ts (e :: es) g)
    (hdef : defaultsOf params X.env = ([], []) := by rfl)
    (hbind : ∀ (q : Str) (cl : List (Str × Addr)) (pm cv ctv : Value), bindArgs (PySem.W.kla_fn "<lambda>" q params (.Call (.Name fx px) (e :: es) [] cpos) scope cl pm cv ctv) ⟨[], []⟩ = pure [] := by intros; rfl)
    (hdb : (x == ("__debug__" : Str)) = false := by decide) (hdf : (fx == ("__debug__" : Str)) = false := by decide)
    (he : ∀ env : Env, starEach (e :: es) env = (false, eval e env) :: starEach es env := by intro _; rfl) (hpl : ∀ env : Env, (backTo cpos (starEach es env)).any (·.1) = false := by intro _; rfl) :
    DE X Ts (.Call (.Name x p) [.Lambda params (.Call (.Name fx px) (e :: es) [] cpos) scope lpos] [] pos) (fTold n F R ret g) := by
  obtain ⟨gg, pg, bg, sg, dV, kV, doc, pm, cdv, ct, oc, an, od, osl, a, Ng, m1, m2, m3, m4, m5, m6, m7, m8, m9, m10, m11⟩ := hT.ex
  refine PE.imp (pe_lamcall3 (k := k) (t := fun E σ H Q => tD X.K Ts (fCall n F g) σ H Q ∨ tXE X.K Ts (wOf E) (.ref C) (rCall n R g) σ H Q) hg m1 m2 m3 m4 m5 m6 m7 m8 (m11 X _ rfl rfl) TB hcode hr L hdef hbind (fun A outer s H E f c' hr' => ?_) hdb m9 m10) fun σ H Q ⟨He, O, en, d, rp, hf, kk⟩ => ?_
  · have gl : Gl (lamCx X A outer s H E scope f c') fx := hgf
    refine pe_or (d_call (X := lamCx X A outer s H E scope f c') hr' ⟨hF.ex⟩ hj gl (ha A outer s H E f c') hdf (he _) (hpl _)) ?_
    exact x_call (X := lamCx X A outer s H E scope f c') hr' ⟨hR.ex⟩ hj2 gl (takes_of rfl rfl rfl rfl) (ha A outer s H E f c') hdf (he _) (hpl _)
  · rw [hq]
    have tP := rp.tabs.2.1 _ hP
    refine ⟨tP, fun H1 kp t1 => ?_⟩
    obtain ⟨ps, e1, _⟩ := id tP
    obtain ⟨qs, e2, _⟩ := id t1
    have x1 : Xt H H1 := fun b o e => by
      by_cases z : b = P
      · rw [z, e1] at e
        cases e
        exact .inr ⟨ps, qs, rfl, by rw [z]; exact e2⟩
      · exact .inl (kp b o z e)
    have tb1 : Tb Ts H1 := by
      refine ⟨fun P' hP' => ?_, fun P' hP' => ?_, rp.tabs.2.2⟩
      · have z : P' ≠ P := fun z => (rp.tabs.2.2 _ hP).1 (by rw [← z]; exact hP')
        obtain ⟨ps', a1, a2⟩ := rp.tabs.1 P' hP'
        exact ⟨ps', kp _ _ z a1, a2⟩
      · by_cases z : P'.1 = P
        · rw [(rp.tabs.2.2 _ hP).2 P' hP' z]; exact t1
        · obtain ⟨ps', a1, a2, a3⟩ := rp.tabs.2.1 P' hP'
          refine ⟨ps', kp _ _ z a1, a2, fun pos cv hc => ?_⟩
          obtain ⟨c0, c1, c2⟩ := a3 pos cv hc
          exact ⟨c0, c1, kp _ _ (fun y => by rw [y, e1] at c2; exact codeO_ne ps (Option.some.inj c2).symm) c2⟩
    have r1 := rp.go x1 tb1
    unfold fTold at hf
    obtain ⟨ds, q1, hf⟩ := Option.bind_eq_some_iff.mp hf
    split at hf
    · rename_i hl
      split at hf
      · rename_i d' hd
        cases hf
        refine .inl ⟨He, O, en, d, r1, ?_, fun v H' x t q => kk v H' (x1.trans x) t q⟩
        unfold fCall
        rw [q1, Option.bind_some, if_pos hl, hd]
      · split at hf
        · rename_i hRd
          cases hf
          refine .inr ⟨He, O, en, r1, ?_, fun H' x t => ⟨rfl, rfl, kk (.str ret) H' (x1.trans x) t (.str ret)⟩⟩
          unfold rCall
          rw [q1]
          show (decide (ds.length = n) && R ds) = true
          rw [decide_eq_true hl, hRd]
          rfl
        · cases hf
    · cases hf
structure ToldF (K : PySem.W.Frag) (mg : Str → Option Value) (dn cn : Str) (C CD : Addr) : Prop where
  md : mg dn = some (.ref CD)
  mi : mg ("isinstance" : Str) = none
  hx : PySem.W.exmOne K (.ref C) (.ref CD) = some true
  ec : ExcC K C
theorem kit_self {K : PySem.W.Frag} {C : Addr} : PySem.W.kitOne K (.ref C) (.ref C) = some true := by
  unfold PySem.W.kitOne
  rw [if_pos (by simp)]
theorem told_mk {K : PySem.W.Frag} {mg : Str → Option Value} {x a n dn cn ret oth : Str} {st : Stmt} {f : Addr} {fd : FuncData} {cdv : Value} {C CD : Addr} {Ng : List Str} {j j2 : Nat} {p1 p2 p3 p4 p5 p6 p7 p8 p9 q1 q2 q3 q4 q5 : Pos} (D : DF K x x st f fd cdv) (m : mg x = some (.ref f)) (hb : L2.Binds K fd [a] []) (E : ExcT K mg cn C) (T : ToldF K mg dn cn C CD)
    (S : FnScope Ng [a] (defScope st)) (hbd : defBody st = [.Try [.Return (some (.Call (.Name a p1) [] [] p2)) p3] [.ExceptHandler (some (.Name dn p4)) (some n) [.Return (some (.IfExp (.Call (.Name "isinstance" q1) [.Name n q2, .Name cn q3] [] q4) (.Constant (.str ret) j p5) (.Constant (.str oth) j2 q5) p6)) p7] p8] [] [] p9])
    (h0 : Ng[0]? = some a) (h1 : Ng[1]? = some n) (hla : (defScope st).names.lookup a = some .local) (hln : (defScope st).names.lookup n = some .local) (hgd : (defScope st).names.lookup dn = some .globalImplicit) (hgc : (defScope st).names.lookup cn = some .globalImplicit) (hgi : (defScope st).names.lookup ("isinstance" : Str) = some .globalImplicit)
    (hs : ∀ v : V, (L2.start Ng [v])[0]? = some (some v)) (ha1 : (a == ("__debug__" : Str)) = false := by decide) (ha2 : (a == ("__classdict__" : Str)) = false := by decide) (hn1 : (n == ("__debug__" : Str)) = false := by decide) (hn2 : (n == ("__classdict__" : Str)) = false := by decide) (hd1 : (dn == ("__debug__" : Str)) = false := by decide) (hc1 : (cn == ("__debug__" : Str)) = false := by decide)
    (hv : bootBuiltins ("isinstance" : Str) = some (.builtin "isinstance") := by decide +kernel) : Told K mg x C ret := by
  obtain ⟨oc, od, dV, kV, doc, pm, an, ct, osl, rfl, lk, hcd⟩ := D.ex
  refine ⟨f, _, _, _, dV, kV, doc, pm, cdv, ct, oc, an, od, osl, a, Ng, m, D.kp, lk, hcd, hb, S, h0, .inl hla, ha1, ha2, fun X q hK hm => ?_⟩
  subst hK hm
  rw [hbd]
  exact told2 (X := X) S.nd h1 hln hgd hgc hgi hd1 hc1 hn1 hn2 T.md E.m T.mi hv T.hx T.ec kit_self (fun f => hs _)
def ecB (K : PySem.W.Frag) (D : Addr) : Bool :=
  decide (PySem.W.findIn K (.ref D) "__getattribute__" = some (some (.builtin "BaseException.__getattribute__"))) && (decide (PySem.W.findIn K (.ref D) "__getattr__" = some none) && (decide (PySem.W.subIn K (.ref D) (.type "BaseException") = some true) && (PySem.W.hasDictIn K D && (decide (PySem.W.findIn K (.ref D) "__class__" = some (some (.builtin "object.__class__"))) &&
    (decide (PySem.W.specialIn K (.builtin "object.__class__") "__get__" = some (some (.builtin "getset_descriptor.__get__"))) && (decide (PySem.W.takesIn K (.builtin "object.__class__") = some true) && decide (PySem.W.mroIn K D (.type "object") = some true)))))))
theorem ec_of {K : PySem.W.Frag} {D : Addr} (h : ecB K D = true) : ExcC K D := by
  unfold ecB at h
  simp only [Bool.and_eq_true, decide_eq_true_eq] at h
  obtain ⟨h1, h2, h3, h4, h5, h6, h7, h8⟩ := h
  exact ⟨h1, h2, h3, h4, h5, h6, h7, h8⟩
end DN
set_option maxHeartbeats 0
namespace L26
open PySem PySem.Spec PyProof.Rows L2 DN
def top (i : Nat) : Stmt := PySem.Challenge.pw_damworks_k26_whole_waits.main.body.getD i (.Pass ⟨0, 0, 0, 0⟩)
def tgs : List He.Defn := [("is_row_of_ratios", none)]
def tls : List He.Defn := [("law", none)]
def exs : PySem.W.Frag → Bool := fun K => (fun K => He.eqO (PySem.W.nsIn K mainGlobals "gcd") (some (some (.builtin "math.gcd")))) K && (decide (∀ P ∈ lsOf K tls, P.1 ∉ (tgs.map (He.cT K)).map (·.2) ∧ ∀ Q ∈ lsOf K tls, Q.1 = P.1 → Q = P) && ecB K (He.ga K "Unsettled"))
def dd (x : Str) (i : Nat) : He.DefD := ⟨(x, none), x, x, defArgs (top i), defBody (top i), defScope (top i), [], []⟩
def de (x : Str) (i : Nat) (v : Int) : He.DefD := ⟨(x, none), x, x, defArgs (top i), defBody (top i), defScope (top i), [.int v], []⟩
def fns : List He.DefD := [dd "is_whole" 8, dd "is_between" 9, dd "is_ratio" 10, dd "is_row_of_ratios" 11, dd "ratio" 12, dd "plus" 13, dd "minus" 14, dd "times" 15, dd "divided" 16, dd "sum_of_ratios" 17, dd "equation_of" 18, dd "without_unknown" 19, dd "solutions" 20, dd "is_pond" 26, dd "is_chances" 27, dd "check_chances" 28, dd "check_pond" 29, dd "check_pond_and_chances" 30, dd "count_of_levels" 31, dd "check_level" 32, dd "check_settles" 33, dd "months_from" 34, dd "does_not_fail" 35, dd "only_gives" 36, dd "count_of_month" 37, dd "chance_of_spill" 38, dd "sums_of_levels" 39, dd "mean_wait" 40, dd "spill_first" 41, dd "_law_alike" 45, dd "_law_ratio" 46, dd "_law_plus" 47, dd "_law_by" 48, dd "_law_less" 50, dd "_law_is_ratio" 51, dd "_law_month" 54, dd "_law_settles" 57, dd "_law_told" 52, dd "_law_taken" 43, dd "_law_pick" 44, dd "_law_pond" 53, dd "law" 58]
def fas : List He.Fa := [.glo "is_whole", .glo "is_between", .glo "is_ratio", .glo "is_row_of_ratios", .glo "ratio", .glo "plus", .glo "minus", .glo "times", .glo "divided", .glo "sum_of_ratios", .glo "equation_of", .glo "without_unknown", .glo "solutions", .glo "is_pond", .glo "is_chances", .glo "check_chances", .glo "check_pond", .glo "check_pond_and_chances", .glo "count_of_levels", .glo "check_level", .glo "check_settles", .glo "months_from", .glo "does_not_fail", .glo "only_gives", .glo "count_of_month", .glo "chance_of_spill", .glo "sums_of_levels", .glo "mean_wait", .glo "spill_first", .glo "_law_alike", .glo "_law_ratio", .glo "_law_plus", .glo "_law_by", .glo "_law_less", .glo "_law_is_ratio", .glo "_law_month", .glo "_law_settles", .glo "_law_told", .glo "_law_taken", .glo "_law_pick", .glo "_law_pond", .glo "law", .free "abs", .free "all", .free "any", .free "bool", .free "enumerate", .free "int", .free "isinstance", .free "len", .free "list", .free "min", .free "range", .free "str", .free "sum", .free "tuple", .free "zip", .int "LEAST_INFLOWS" 2, .int "MOST_CAPACITY" 8, .int "MOST_INFLOWS" 6, .int "MOST_OF_CHANCE" 100, .glo "Unsettled", .glo "DamError", .exc "Unsettled", .exm "Unsettled" "DamError" true]
def tfs : List He.Defn := tgs ++ tls
def others : List PySem.Str := (["DamError", "BadChances", "BadPond", "BadLevel", "Unsettled", "is_whole", "is_between", "is_ratio", "is_row_of_ratios", "ratio"] : List PySem.Str) ++ (["plus", "minus", "times", "divided", "sum_of_ratios", "equation_of", "without_unknown", "solutions", "MOST_CAPACITY", "LEAST_INFLOWS"] : List PySem.Str) ++ (["MOST_INFLOWS", "MOST_OF_CHANCE", "is_pond", "is_chances", "check_chances", "check_pond", "check_pond_and_chances", "count_of_levels", "check_level", "check_settles"] : List PySem.Str) ++ (["months_from", "does_not_fail", "only_gives", "count_of_month", "chance_of_spill", "sums_of_levels", "mean_wait", "spill_first", "_law_taken", "_law_pick"] : List PySem.Str) ++ (["_law_alike", "_law_ratio", "_law_plus", "_law_by", "_law_sum", "_law_less", "_law_is_ratio", "_law_told", "_law_pond", "_law_month"] : List PySem.Str) ++ (["_law_step", "_law_are_shares", "_law_settles"] : List PySem.Str)
abbrev TheRow : PySem.W.OpenRow := PySem.W.OpenLaw.row PySem.Challenge.rw_damworks_k26_whole_waits
abbrev hk : PySem.W.Hook := He.hookX 2 fas fns [] tfs exs
def ob (s : PySem.W.SharedT) : He.AlX := He.obsX 2 fas fns [] tfs exs (HandSHeadRun.getT s)
theorem ob_eq (s : PySem.W.SharedT) : ob s = hk.obs s.abs := He.obsX_eq (HandSHeadRun.getT_eq s)
theorem run (w : World) : HandSHeadRun.RunEqI TheRow (PySem.W.view TheRow.prog [0, 58]) hk ob 9000 others w := by
  unfold HandSHeadRun.RunEqI
  kernel_rfl
end L26
set_option maxHeartbeats 4000000
namespace DN
open PySem PySem.Spec PyProof.Rows L2
section
variable {K : PySem.W.Frag} {x qual : Str} {st : Stmt} {f : Addr} {fd : FuncData}
theorem df_of {dvs : List V} (F : FunD K x qual (defArgs st) (defBody st) (defScope st) dvs [] f fd) : ∃ cdv, DF K x qual st f fd cdv := by
  obtain ⟨oc, od, dV, kV, doc, pm, an, cdv, ct, osl, rfl, lk, hcd, hD, _⟩ := F.ex
  exact ⟨cdv, df_mk lk hcd F.kp⟩
theorem df_gen {dvs : List V} (F : FunD K x qual (defArgs st) (defBody st) (defScope st) dvs [] (He.ga K x) fd) : DF K x qual st (He.ga K x) fd (.ref (He.codeOf K (x, none))) := by
  obtain ⟨oc, od, dV, kV, doc, pm, an, cdv, ct, osl, rfl, lk, hcd, hD, _⟩ := F.ex
  obtain ⟨c, rfl⟩ := He.codeIn_ref hcd
  have e1 : He.codeOf K (x, none) = c := He.codeOf_eq (p := (x, none)) lk rfl
  rw [e1]
  exact df_mk lk hcd F.kp
end
structure TfOk (h : Heap) (K : PySem.W.Frag) (cs : List (Addr × Addr)) : Prop where
  empty : ∀ p ∈ cs, h.get? p.2 = some { cls := .none, data := .fields #[] }
  out : ∀ p ∈ cs, K.lookup p.2 = none
  hd : ∀ p ∈ cs, PySem.W.CodeHd h p.1 p.2
theorem tf_ok {fa : List He.Fa} {fn : List He.DefD} {ts : List He.Tab} {tf : List He.Defn} {ex : PySem.W.Frag → Bool} {w : World} {h : Heap} {K : PySem.W.Frag} (X : K.In h) (c : He.SaysX fa fn ts tf ex w h K) : TfOk h K (tf.map (He.cT K)) :=
  ⟨fun p hp => by obtain ⟨a, ha, rfl⟩ := List.mem_map.mp hp; exact c.empty a ha, fun p hp => by obtain ⟨a, ha, rfl⟩ := List.mem_map.mp hp; exact c.out a ha, fun p hp => by obtain ⟨a, ha, rfl⟩ := List.mem_map.mp hp; exact PySem.W.codeHd_of_K X (c.hd a ha)⟩
theorem end_atL {l : PySem.W.OpenLaw} {w : World} {K : PySem.W.Frag} {h : Heap} {mg : Str → Option Value} {fa : Addr} {k : Nat} {x : Str} {fd : FuncData} {cs : List (Addr × Addr)} (gs : List Addr) (ls : List (Addr × Str)) (hg : ∀ P ∈ gs, ∃ p ∈ cs, p.2 = P) (hl : ∀ P ∈ ls, ∃ p ∈ cs, p.2 = P.1) (hd : ∀ P ∈ ls, P.1 ∉ gs ∧ ∀ Q ∈ ls, Q.1 = P.1 → Q = P) (T : TfOk h K cs)
    (hb : ∀ (s : Shared) (us : List Value), us.length = [x].length → BindsTo s fd ⟨us, []⟩ ([x].zip us))
    (hF : ∀ base : Heap, K.In base → base.Ns mainGlobals mg → (∀ p ∈ cs, LamX.TabB base mg p.1 p.2) → FnOk l.prog w K mg base CX0 k fa fd [x] (spLaw K ⟨gs, ls⟩)) : LamX.LawAtS l w K CX0 k 63 x mg fa h :=
  ⟨fd, cs, spLaw K ⟨gs, ls⟩, T.empty, T.out, T.hd, fun s u => hb s [u] rfl, fun H a ns hl' _ hT hS => ⟨a, ns, rfl, hS, hl', ⟨fun P hP => by
    obtain ⟨p, hp, rfl⟩ := hg P hP
    exact ⟨#[], hT p hp, by simp [TriplesOk]⟩, fun P hP => by
    obtain ⟨p, hp, e⟩ := hl P hP
    exact LamX.TabS.nil (by rw [← e]; exact hT p hp), hd⟩, fun _ => rfl⟩, hF⟩
theorem end_at2 {l : PySem.W.OpenLaw} {w : World} {K : PySem.W.Frag} {h : Heap} {mg : Str → Option Value} {fa : Addr} {k : Nat} {x : Str} {fd : FuncData} {tg tl : List He.Defn} (hd : ∀ P ∈ lsOf K tl, P.1 ∉ (tg.map (He.cT K)).map (·.2) ∧ ∀ Q ∈ lsOf K tl, Q.1 = P.1 → Q = P) (T : TfOk h K ((tg ++ tl).map (He.cT K)))
    (hb : ∀ (s : Shared) (us : List Value), us.length = [x].length → BindsTo s fd ⟨us, []⟩ ([x].zip us))
    (hF : ∀ base : Heap, K.In base → base.Ns mainGlobals mg → (∀ p ∈ (tg ++ tl).map (He.cT K), LamX.TabB base mg p.1 p.2) → FnOk l.prog w K mg base CX0 k fa fd [x] (spLaw K ⟨(tg.map (He.cT K)).map (·.2), lsOf K tl⟩)) : LamX.LawAtS l w K CX0 k 63 x mg fa h :=
  end_atL _ _ (fun P hP => by
    obtain ⟨p, hp, rfl⟩ := List.mem_map.mp hP
    exact ⟨p, by rw [List.map_append]; exact List.mem_append_left _ hp, rfl⟩) (fun P hP => by
    obtain ⟨d, hd, rfl⟩ := List.mem_map.mp hP
    exact ⟨He.cT K d, List.mem_map_of_mem (List.mem_append_right _ hd), rfl⟩) hd T hb hF
end DN
namespace PySem
set_option maxHeartbeats 4000000 in
theorem meets_enumerate_newB1 {v : Value} {o : Obj} {H : Heap → Prop} (B : Begins v o H) :
    Meets (Builtin.«enumerate.__new__» ⟨[.type "enumerate", v], []⟩) (fun _ R s => H s.heap ∧
      R (.ok (.ret (.ref (s.heap.push o).objs.size))) { s with heap := (s.heap.push o).push { cls := .type "enumerate", data := .fields #[.none, .bool false, .ref s.heap.objs.size, rawInt 0, .none, .none] } }) :=
  .of_wp fun prog w A R s h => by
    obtain ⟨hp, g, d, tk, os⟩ := s; obtain ⟨h1, h⟩ := h
    have hsub := sub_enumerate
    have q1 : ∀ {A' : Around} {E : Value → Shared → Prop} {Q : Value → Shared → Prop}, Q (.ref hp.objs.size) ⟨hp.push o, g, d, tk, os⟩ → wpAny (model prog w) A' (pyIter v) Q E ⟨hp, g, d, tk, os⟩ :=
      fun q => B.iter prog w _ _ ⟨hp, g, d, tk, os⟩ _ h1 q
    wp_walk using q1
    refine wpAny_stack_any fun st => wpAny_pure ?_
    split
    · rename_i c _ _ _ _ _
      cases (c == Value.type "enumerate")
      · wp_walk using q1
        exact ⟨_, rfl, h⟩
      · wp_walk using q1
        exact ⟨_, rfl, h⟩
    · wp_walk using q1
      exact ⟨_, rfl, h⟩
section
variable {prog : Program} {w : World} {A : Around} {E : Value → Shared → Prop} {s : Shared}
theorem enum_begins1 {v : Value} {o : Obj} {H : Heap → Prop} {Q : Value → Shared → Prop} (B : Begins v o H) (h1 : H s.heap)
    (h : ∀ h', IsEnum h' (s.heap.objs.size + 1) s.heap.objs.size 0 .none → h'.get? s.heap.objs.size = some o → h'.objs.size = s.heap.objs.size + 2 →
      (∀ b o, s.heap.get? b = some o → h'.get? b = some o) → Q (.ref (s.heap.objs.size + 1)) { s with heap := h' }) :
    wpAny (model prog w) A (call (.type "enumerate") [v]) Q E s := by
  refine callType_new F.called_enumerate (by decide) (F.typeCall_enumerate_1 _) (F.newCall_enumerate_1 _) (fun obj => F.args_object_init_2 obj _) F.entry_enumerate_new
    (meets_enumerate_newB1 B) ⟨h1, ?_⟩
  have hz : (s.heap.push o).objs.size = s.heap.objs.size + 1 := Heap.size_push ..
  show _ ∧ _
  rw [hz]
  have he : IsEnum ((s.heap.push o).push { cls := .type "enumerate", data := .fields #[.none, .bool false, .ref s.heap.objs.size, rawInt 0, .none, .none] }) (s.heap.objs.size + 1) s.heap.objs.size 0 .none := by
    have := Heap.get?_push_size (s.heap.push o) (o := { cls := .type "enumerate", data := .fields #[.none, .bool false, .ref s.heap.objs.size, rawInt 0, .none, .none] }) rfl
    rw [hz] at this; exact this
  refine ⟨⟨_, he, rfl⟩, h _ he (Heap.get?_push_of_some _ (Heap.get?_push_size _ B.free)) (by rw [Heap.size_push, hz]) fun b o x => Heap.get?_push_of_some _ (Heap.get?_push_of_some _ x)⟩
end
end PySem
namespace DN
open PySem PySem.Spec PyProof.Rows L2
def IteT (K : PySem.W.Frag) (a : Addr) : It :=
  ⟨fun i H => ∃ (xs : List V) (x : V), SqT K H a xs ∧ xs[i]? = some x, fun i H v H' => ∃ T x, v = .ref T ∧ H T = none ∧ H' = upd H T (.tup [.int (i : Nat), x]) ∧ ∀ xs, SqT K H a xs → xs[i]? = some x, fun i H => ∃ xs : List V, SqT K H a xs ∧ xs.length = i⟩
theorem turn_enumT {P : Program} {w : World} {K : PySem.W.Frag} {elts : List Expr} {kk : Nat} {tpos : Pos} (a e it : Addr) :
    Turn P w K (.Tuple elts kk tpos) (IteT K a) [e, it] e (fun i h => (∃ old, IsEnum h e it ((i : Nat) : Int) old) ∧ h.IsTupleIter it a i ∧ e ≠ it ∧ e ≠ a ∧ a ≠ it) where
  mem := by simp
  obj := fun i h st b hb => by
    obtain ⟨⟨old, he⟩, ⟨o, ho, hc, hd⟩, _⟩ := st
    have e' : b = e ∨ b = it := by simpa using hb
    rcases e' with z | z
    · rw [z]; exact ⟨_, he, fun v q => nomatch q⟩
    · rw [z]; exact ⟨o, ho, fun v q => by rw [hd] at q; cases q⟩
  keep := fun i h h' st k => let ⟨⟨old, he⟩, hi, hne⟩ := st; ⟨⟨old, k e (by simp) _ he⟩, hi.at fun o q => k it (by simp) o q, hne⟩
  item := by
    intro X hP hw hK hc i pins s σ H E I hf st hg
    subst hP hw hK
    obtain ⟨⟨old, he⟩, hit, hne, hea, hai⟩ := st
    obtain ⟨xs, x, hq, hx⟩ := hg
    obtain ⟨its, rv, p, hz⟩ := I.tuple hq
    obtain ⟨u, hu, ru⟩ := rv.get hx
    have hel : e < s.heap.objs.size := Heap.lt_size he
    have hil : it < s.heap.objs.size := by obtain ⟨_, q, _⟩ := hit; exact Heap.lt_size q
    have hlt : i < its.toArray.size := by
      rcases Nat.lt_or_ge i its.toArray.size with q | q
      · exact q
      · have : its[i]? = none := List.getElem?_eq_none (by simpa using q)
        rw [this] at hu
        cases hu
    have hh : X.A.in1.handled = none := I.ok.hd hc
    have D : Draws X.prog X.w X.A.in1 it [it, a] its.toArray.size (fun i v => its.toArray[i]? = some v) (fun i h => h.IsTupleIter it a i ∧ h.IsTuple a its.toArray) := Draws.tuple hh it a hai its.toArray
    refine wpAny_pyNext_enum_itemD D he ⟨hit, p⟩ hlt hne (by simp [hne, hea]) fun x' h' tk hP' ho hs' hT hsz hk => ?_
    have hx' : x' = u := by
      have h1 : its.toArray[i]? = some u := by simpa using hu
      rw [h1] at hP'
      exact (Option.some.inj hP').symm
    subst hx'
    refine ⟨_, rfl, wpAny_letOwnedTupleGo_enum (s := { s with heap := h', toks := tk + 1 }) ho fun h'' he' sb => ?_⟩
    have hT2 : h''.get? s.heap.objs.size = some { cls := .type "tuple", data := .seq #[.int i tk, x'] } := (sb.2 _ (Nat.ne_of_gt hel)).trans hT
    have new : ObjOk X.prog X.w (upd H s.heap.objs.size (.tup [.int (i : Nat), x])) h'' s.heap.objs.size (.tup [.int (i : Nat), x]) :=
      ⟨by show 2 ≤ sizeLine; decide, [.int i tk, x'], .cons ⟨_, rfl⟩ (.cons ru .nil), ⟨_, hT2, rfl, _, rfl⟩⟩
    have I1 : Inv X pins σ (upd H s.heap.objs.size (.tup [.int (i : Nat), x])) { s with heap := h'', toks := tk + 1 } :=
      I.turnedNew (t' := tk + 1) (ch := [e, it]) (fun b ob hb q => (sb.2 b (fun z => hb (by simp [z]))).trans (hk b ob (fun z => hb (by simp [z])) (fun z => hb (by simp [z])) q)) hf (Nat.le_refl _) new
    refine ⟨.ref s.heap.objs.size, _, I1, rfl, ⟨_, x, rfl, I.hok.fresh (Nat.le_refl _), rfl, fun ys hy => by rw [I.tuple_inj hy hq]; exact hx⟩, ⟨⟨x', ?_⟩, hs'.1.at fun o q => (sb.2 it (Ne.symm hne)).trans q, hne, hea, hai⟩, fun b hb => ?_⟩
    · have e1 : ((i + 1 : Nat) : Int) = (i : Int) + 1 := by omega
      rw [e1]; exact he'
    · have hb' : b < s.heap.objs.size := by
        have e' : b = e ∨ b = it := by simpa using hb
        rcases e' with z | z
        · rw [z]; exact hel
        · rw [z]; exact hil
      rw [upd_ne (Nat.ne_of_lt hb')]
      exact (hf b hb).1
  done := by
    intro X hP hw hK hc i pins s σ H E I hf st hg
    subst hP hw hK
    obtain ⟨⟨old, he⟩, hit, hne, hea, hai⟩ := st
    obtain ⟨xs, hq, hx⟩ := hg
    obtain ⟨its, rv, p, hz⟩ := I.tuple hq
    obtain ⟨f0, f1, f2, f3, f4, f5⟩ := hf it (by simp)
    have hl := rv.length
    have hh : X.A.in1.handled = none := I.ok.hd hc
    have D : Draws X.prog X.w X.A.in1 it [it, a] its.toArray.size (fun i v => its.toArray[i]? = some v) (fun i h => h.IsTupleIter it a i ∧ h.IsTuple a its.toArray) := Draws.tuple hh it a hai its.toArray
    have hn : i = its.toArray.size := by rw [List.size_toArray]; omega
    exact wpAny_pyNext_enum_endD D he (by rw [← hn]; exact ⟨hit, p⟩) fun h' eb => ⟨rfl, I.turned (t' := s.toks) (fun b o hb q => eb b o hb q) f0 f1 f3 f4 f5⟩
  self := fun A i s Q E st h => let ⟨⟨_, he⟩, _⟩ := st; wpAny_pyIter_enum he h
def iEnumA (K : PySem.W.Frag) (ta : TA) : TI := fun σ H R => ta σ H fun vs H1 => ∃ (a : Addr) (xs : List V), vs = [.ref a] ∧ ((SqL K H1 a xs ∧ R (Ite K a) H1) ∨ (SqT K H1 a xs ∧ R (IteT K a) H1))
theorem pi_enumA {X : Cx} {e : Expr} {ta : TA} {p pos tpos : Pos} {elts : List Expr} {kk : Nat} (hg : Gl X "enumerate") (hm : X.mg "enumerate" = none) (ha : PA X [e] ta) (hs : starEach [e] X.env = [(false, eval e X.env)] := by rfl) :
    PI X (.Tuple elts kk tpos) (.Call (.Name "enumerate" p) [e] [] pos) (iEnumA X.K ta) := by
  refine ⟨fun pins s σ H R I h => ?_⟩
  refine Call_ (ld_blt I hg hm boot_enumerate (PyProof.Rows.callWith_type1 (thn (ha.run pos pins s σ H _ I h) fun us s1 ⟨vs, H1, I1, r1, q1⟩ => ?_) hs rfl))
  obtain ⟨a, xs, ex, q1⟩ := q1
  subst ex
  cases r1 with
  | cons r rr =>
    cases rr
    cases r
    have fresh2 : ∀ b, b ∈ [s1.heap.objs.size + 1, s1.heap.objs.size] → FpOk X pins H1 b := fun b hb => by
      have e' : b = s1.heap.objs.size + 1 ∨ b = s1.heap.objs.size := by simpa using hb
      have hle : s1.heap.objs.size ≤ b := by
        rcases e' with z | z
        · rw [z]; exact Nat.le_add_right _ _
        · rw [z]; exact Nat.le_refl _
      exact I1.fpOk hle (I1.hok.fresh hle)
    rcases q1 with ⟨hq, q⟩ | ⟨hq, q⟩
    · obtain ⟨its, rv, p', hz⟩ := I1.list hq
      refine call_enumerate_list p'.isList fun h' he hit hsz hk => wpAny_pyIter_enum he ?_
      have I2 : Inv X pins σ H1 { s1 with heap := h' } := I1.kept (t' := s1.toks) hk
      exact ⟨s1.heap.objs.size + 1, [s1.heap.objs.size + 1, s1.heap.objs.size], _, _, H1, rfl, I2, turn_enum a (s1.heap.objs.size + 1) s1.heap.objs.size, ⟨⟨.none, he⟩, hit, Nat.succ_ne_self _⟩, fresh2, q⟩
    · obtain ⟨its, rv, p', hz⟩ := I1.tuple hq
      have hla : a < s1.heap.objs.size := by obtain ⟨o, ho, _⟩ := id p'; exact Heap.lt_size ho
      refine enum_begins1 (begins_tuple a its.toArray) (show s1.heap.IsTuple a its.toArray from p') fun h' he hit hsz hk => wpAny_pyIter_enum he ?_
      have I2 : Inv X pins σ H1 { s1 with heap := h' } := I1.kept (t' := s1.toks) hk
      exact ⟨s1.heap.objs.size + 1, [s1.heap.objs.size + 1, s1.heap.objs.size], _, _, H1, rfl, I2, turn_enumT a (s1.heap.objs.size + 1) s1.heap.objs.size, ⟨⟨.none, he⟩, ⟨_, hit, rfl, rfl⟩, Nat.succ_ne_self _, (fun z => by rw [← z] at hla; exact Nat.lt_irrefl _ (Nat.lt_of_succ_lt hla)), Nat.ne_of_lt hla⟩, fresh2, q⟩
def enumD : Nat → List PyData → List PyData
  | _, [] => []
  | k, d :: r => .tuple [.int (k : Nat), d] :: enumD (k + 1) r
theorem enumD_len : ∀ (k : Nat) (ds : List PyData), (enumD k ds).length = ds.length
  | _, [] => rfl
  | k, d :: r => by
    show (enumD (k + 1) r).length + 1 = r.length + 1
    rw [enumD_len]
theorem enumD_get : ∀ {k : Nat} {ds : List PyData} {i : Nat} {d : PyData}, ds[i]? = some d → (enumD k ds)[i]? = some (.tuple [.int ((k + i : Nat) : Int), d])
  | _, [], _, _, h => by simp at h
  | k, a :: r, 0, d, h => by
    simp at h
    subst h
    rfl
  | k, a :: r, i + 1, d, h => by
    rw [List.getElem?_cons_succ] at h
    show (enumD (k + 1) r)[i]? = _
    rw [enumD_get h, show k + 1 + i = k + (i + 1) by omega]
def iEnumF (f : En → Option PyData) : En → Option (List PyData) := fun en => ((f en).bind items).map (enumD 0)
section
variable {X : Cx} {Ts : TsT} {pos p tpos : Pos} {e : Expr} {f : En → Option PyData} {elts : List Expr} {kk : Nat}
theorem gives_enum {K : PySem.W.Frag} {H1 : Hp} {O : List Addr} {J : It} {xs : List V} {ds : List PyData} (go : ∀ O' H2, Xt (hide H1 O) (hide H2 O') → Xt (hide H1 O) H2 → (∀ i x, xs[i]? = some x → J.go i H2) ∧ J.stop xs.length H2 ∧
      ∀ i v H3, J.yld i H2 v H3 → ∃ T x, v = .ref T ∧ H2 T = none ∧ H3 = upd H2 T (.tup [.int (i : Nat), x]) ∧ xs[i]? = some x)
    (a : DpAll K (hide H1 O) xs ds) : Gives K Ts J (enumD 0 ds) H1 O := fun O' H2 h1 h2 occ => by
  obtain ⟨g1, g2, g3⟩ := go O' H2 h1 h2
  have la := DpAll.len a
  have a2 := DpAll.mono h1 a
  refine ⟨fun i hi => ?_, ?_, fun i v H3 hi hy => ?_⟩
  · rw [enumD_len] at hi
    exact g1 i (xs[i]'(by omega)) (List.getElem?_eq_getElem _)
  · rw [enumD_len, ← la]
    exact g2
  · obtain ⟨T, x, rfl, nT, rfl, ex⟩ := g3 i v H3 hy
    obtain ⟨d1, hd1, q1⟩ := DpAll.get a2 ex
    have hg := enumD_get (k := 0) hd1
    rw [Nat.zero_add] at hg
    exact ⟨.tuple [.int (i : Nat), d1], hg, Xt.upd nT, fun t => t.new nT, tup_new nT (fun z => (occ T z).1 nT) (.cons (.int _) (.cons q1 .nil))⟩
theorem di_enum (hg : Gl X "enumerate") (hm : X.mg "enumerate" = none) (ha : DE X Ts e f) (hs : starEach [e] X.env = [(false, eval e X.env)] := by rfl) :
    DI X Ts (.Tuple elts kk tpos) (.Call (.Name "enumerate" p) [e] [] pos) (iEnumF f) :=
  PI.imp (pi_enumA (ta := tCons (tD X.K Ts f) tNil) hg hm (pa_cons ha pa_nil hs) hs) fun σ H R ⟨He, O, en, ds, rp, hf, kk⟩ => by
    unfold iEnumF at hf
    obtain ⟨es, h0, rfl⟩ := Option.map_eq_some_iff.mp hf
    obtain ⟨d, h1, h2⟩ := Option.bind_eq_some_iff.mp h0
    refine tD.of rp h1 fun v H1 x1 r1 q1 => ?_
    cases d <;> simp only [items] at h2 <;> cases h2
    · cases q1 with
      | lst s a =>
        have t1 := sqL_mono (fun o n e => (hide_some e).2) s
        refine ⟨_, _, rfl, .inl ⟨t1, kk _ H1 x1 r1.tabs (gives_enum (fun O' H2 y1 y2 => ?_) a)⟩⟩
        have u1 := sqL_mono (fun o n e => y2.get _ o e n) s
        exact ⟨fun i x ex => ⟨_, x, u1, ex⟩, ⟨_, u1, Nat.le_refl _⟩, fun i v H3 ⟨T, x, h1, h2, h3, h4⟩ => ⟨T, x, h1, h2, h3, h4 _ u1⟩⟩
    · cases q1 with
      | tup s a =>
        have t1 := sqT_mono (fun o n e => (hide_some e).2) s
        refine ⟨_, _, rfl, .inr ⟨t1, kk _ H1 x1 r1.tabs (gives_enum (fun O' H2 y1 y2 => ?_) a)⟩⟩
        have u1 := sqT_mono (fun o n e => y2.get _ o e n) s
        exact ⟨fun i x ex => ⟨_, x, u1, ex⟩, ⟨_, u1, rfl⟩, fun i v H3 ⟨T, x, h1, h2, h3, h4⟩ => ⟨T, x, h1, h2, h3, h4 _ u1⟩⟩
end
theorem DpB.toDp {K : PySem.W.Frag} {H : Hp} {O : List Addr} {v : V} {d : PyData} (q : DpB K H O v d) : Dp K H v d := by
  rcases q with q | ⟨a, vs, ds, rfl, rfl, h1, h2⟩
  · exact Dp.mono hide_out q
  · exact .lst (.inl (.inl h1)) (DpAll.mono hide_out h2)
section
variable {X : Cx} {Ts : TsT} {a b c d : Expr} {pos : Pos} {fa fb fc fd : En → Option PyData}
theorem w_eqB {K : PySem.W.Frag} : ∀ σ H Q, tD K Ts (fEq fa fb) σ H Q → tOp (rEqD K) (tB K Ts fa) (tD K Ts fb) σ H Q := fun σ H Q ⟨He, O, en, z, rp, hf, kk⟩ => by
  obtain ⟨x, h1, hf1⟩ := Option.bind_eq_some_iff.mp hf
  obtain ⟨y, h2, hg⟩ := Option.bind_eq_some_iff.mp hf1
  refine tB.of rp h1 fun v H1 x1 r1 q1 => tD.of r1 h2 fun w H2 x2 r2 q2 => ?_
  unfold gEq at hg
  split at hg
  · rename_i hs
    rw [Bool.and_eq_true] at hs
    cases hg
    exact ⟨x, y, (Dp.mono x2 q1.toDp).toL hs.1, (Dp.mono hide_out q2).toL hs.2, hs.1, hs.2, kk _ H2 (x1.trans x2) r2.tabs (.bl _)⟩
  · cases hg
theorem b_eq {k : Nat} (hr : Room k X.A) (ha : DB X Ts a fa) (hb : DE X Ts b fb) : DE X Ts (.Compare a [.Eq] [b] pos) (fEq fa fb) := PE.imp (pe_cmpR (op_eqD hr.units) ha hb (nomark _)) w_eqB
end
end DN
namespace DN
open PySem PySem.Spec PyProof.Rows L2
end DN
namespace DN
open PySem PySem.Spec PyProof.Rows L2
end DN
set_option maxHeartbeats 400000
namespace DN
open PySem PySem.Spec PyProof.Rows L2
end DN
set_option maxHeartbeats 4000000
namespace DN
open PySem PySem.Spec PyProof.Rows L2
theorem Rep.put {K : PySem.W.Frag} {Ts : TsT} {He : Hp} {O : List Addr} {σ : St} {H : Hp} {en : En} {i : Nat} {ds : List PyData} {a : Addr} {vs : List V} (rp : Rep K Ts He O σ H en) (hd : en[i]? = some (.own ds)) (p1 : σ[i]? = some (some (.ref a))) (p2 : a ∈ O) (p3 : He a = none) (p4 : H a = some (.lst vs)) {ws : List V} {es : List PyData} (q : DpAll K (hide H O) ws es) :
    Rep K Ts He O σ (upd H a (.lst ws)) (en.set i (.own es)) := by
  have hi : i < en.length := (List.getElem?_eq_some_iff.mp hd).1
  have hu : Xt (hide H O) (hide (upd H a (.lst ws)) O) := hide_upd p2
  refine ⟨by simp [rp.len], fun j d' h => ?_, fun j fs h => ?_, fun j kk e1 e2 aa h1 h2 h3 h4 => ?_, fun b hb => ?_, fun b o e => ?_, rp.tabs.upd fun u z => by rw [p4] at z; cases z; exact lst_noc⟩
  · have hj : i ≠ j := fun z => by subst z; rw [List.getElem?_set_self hi] at h; cases h
    rw [List.getElem?_set_ne hj] at h
    obtain ⟨u, q1, q2⟩ := rp.dat j d' h
    exact ⟨u, q1, Dp.mono hu q2⟩
  · by_cases hj : i = j
    · subst hj
      rw [List.getElem?_set_self hi] at h
      cases h
      exact ⟨a, ws, p1, p2, p3, upd_same, DpAll.mono hu q⟩
    · rw [List.getElem?_set_ne hj] at h
      obtain ⟨a', vs'', q1, q2, q3, q4, q5⟩ := rp.own j fs h
      have hne : a' ≠ a := fun z => hj (by subst z; exact rp.inj i j ds fs a' hd h p1 q1)
      exact ⟨a', vs'', q1, q2, q3, by rw [upd_ne hne]; exact q4, DpAll.mono hu q5⟩
  · have toOwn : ∀ (j : Nat) (fs : List PyData), (en.set i (Slot.own es))[j]? = some (Slot.own fs) → ∃ e0, en[j]? = some (Slot.own e0) := fun j fs h => by
      by_cases hj : i = j
      · subst hj; exact ⟨ds, hd⟩
      · rw [List.getElem?_set_ne hj] at h; exact ⟨fs, h⟩
    obtain ⟨e3, g1⟩ := toOwn j e1 h1
    obtain ⟨e4, g2⟩ := toOwn kk e2 h2
    exact rp.inj j kk e3 e4 aa g1 g2 h3 h4
  · by_cases z : b = a
    · rw [z, upd_same]
      exact ⟨by simp, fun ps z => nomatch z⟩
    · rw [upd_ne z]
      exact rp.occ b hb
  · have hne : b ≠ a := fun z => by rw [z, p3] at e; cases e
    rw [upd_ne hne]
    exact rp.ext b o e
def sPut (i : Nat) (g f : En → Option PyData) : En → Option Fl := fun en => (f en).bind fun d => (g en).bind fun k => match k, en[i]? with
  | .int k, some (.own ds) => (ixN ds.length k).map fun j => .nx (en.set i (.own (ds.set j d)))
  | _, _ => none
theorem DpAll.put {K : PySem.W.Frag} {H : Hp} : ∀ {vs : List V} {ds : List PyData} {v : V} {d : PyData} (j : Nat), DpAll K H vs ds → Dp K H v d → DpAll K H (vs.set j v) (ds.set j d)
  | [], [], v, d, j, .nil, _ => by rw [List.set_nil, List.set_nil]; exact .nil
  | x :: vs, y :: ds, v, d, 0, .cons a t, q => .cons q t
  | x :: vs, y :: ds, v, d, j + 1, .cons a t, q => .cons a (DpAll.put j t q)
section
variable {X : Cx} {Ts : TsT} {pos p : Pos} {e e1 e2 e3 tg : Expr} {f g f1 f2 f3 : En → Option PyData}
theorem s_put {i : Nat} {x : Str} {px pos' : Pos} {ie : Expr} (he : DE X Ts e f) (hi : DE X Ts ie g) (hN : X.N[i]? = some x := by rfl) (hv : Vis X.env.scope x := by first | exact Or.inl rfl | exact Or.inr (Or.inl rfl) | exact Or.inr (Or.inr rfl)) (hd : (x == ("__debug__" : Str)) = false := by decide) (hcd : (x == ("__classdict__" : Str)) = false := by decide)
    (hs : swapsWithSole [.Subscript (.Name x px) ie pos'] e pos.line X.env = pure false := by rfl) (hw : swappedStores [.Subscript (.Name x px) ie pos'] e X.env = pure none := by rfl)
    (h1 : (assignEach [.Subscript (.Name x px) ie pos'] X.env).map (·.2) = [assign (.Subscript (.Name x px) ie pos') X.env] := by rfl)
    (ha : ∀ v, assign (.Subscript (.Name x px) ie pos') X.env v = (do
      let ov ← holding [v] (eval (.Name x px) X.env)
      let iv ← holding [v, ov] (eval ie X.env)
      standAt pos'
      holding [v, ov, iv] (setItem ov iv v)
      release [v, ov, iv] []) := by intro _; rfl) : DS X Ts (.Assign [.Subscript (.Name x px) ie pos'] e pos) (sPut i g f) :=
  PS.imp (ps_asg he (pg_sub (pe_var hN hv hd hcd) hi set_list ha) hs hw h1) fun D σ H ⟨He, O₀, Vz, en, r, rp, hf, k⟩ => by
    unfold sPut at hf
    obtain ⟨d, g1, hf1⟩ := Option.bind_eq_some_iff.mp hf
    obtain ⟨kd, g2, hf2⟩ := Option.bind_eq_some_iff.mp hf1
    clear hf hf1
    split at hf2
    · rename_i kk ds hk
      obtain ⟨j, g3, rfl⟩ := Option.map_eq_some_iff.mp hf2
      obtain ⟨O, a1, a2, rp, xv⟩ := rp
      refine tD.of rp g1 fun v H1 x1 r1 q1 => ?_
      obtain ⟨a, vs, p1, p2, p3, p4, p5⟩ := r1.own i ds hk
      refine ⟨.ref a, p1, tD.of r1 g2 fun w H2 x2 r2 q2 => ?_⟩
      cases q2
      have p4' := x2.get a _ p4 (fun _ z => nomatch z)
      have q1' := Dp.mono (hide_mono (O := O) x2) q1
      have p5' := DpAll.mono (hide_mono (O := O) x2) p5
      refine ⟨a, vs, kk, j, rfl, rfl, p4', by rw [DpAll.len p5]; exact g3, k σ _ ⟨O, a1, a2, r2.put hk p1 p2 p3 p4' (DpAll.put j p5' q1'), xv.trans ((hide_mono (x1.trans x2)).trans (hide_upd p2))⟩⟩
    · cases hf2
def boolsOf : List PyData → Option (List Bool)
  | [] => some []
  | .bool b :: r => (boolsOf r).map (b :: ·)
  | _ :: _ => none
theorem boolsOf_some : ∀ {ds : List PyData} {bs : List Bool}, boolsOf ds = some bs → ds = bs.map .bool
  | [], bs, h => by cases h; rfl
  | .bool b :: r, bs, h => by
    obtain ⟨m, h1, rfl⟩ := Option.map_eq_some_iff.mp h
    rw [boolsOf_some h1]
    rfl
theorem DpAll.bools {K : PySem.W.Frag} {H : Hp} : ∀ {vs : List V} {bs : List Bool}, DpAll K H vs (bs.map .bool) → vs = bs.map V.bl
  | _, [], .nil => rfl
  | _, b :: bs, .cons h t => by
    cases h
    rw [DpAll.bools t]
    rfl
def gAny : PyData → Option PyData
  | .list ds => (boolsOf ds).map fun bs => .bool (bs.any id)
  | _ => none
def fAnyL := DN.f1 gAny
theorem d_anyL (hc : X.calm = true) (hg : Gl X "any") (hm : X.mg "any" = none) (hb : bootBuiltins "any" = some (.builtin "any")) (ha : DB X Ts e f) (he : starEach [e] X.env = (false, eval e X.env) :: starEach [] X.env := by rfl) : DE X Ts (.Call (.Name "any" p) [e] [] pos) (fAnyL f) :=
  b_arg1 (cr_any hc) hg hm hb ha (he := he) fun d z v H O Q hz q t occ kk => by
    cases d <;> simp only [gAny] at hz <;> try cases hz
    rename_i ds
    obtain ⟨bs, h1, rfl⟩ := Option.map_eq_some_iff.mp hz
    have e := boolsOf_some h1
    subst e
    obtain ⟨a, vs, rfl, h2, h3⟩ := q.lst
    obtain rfl := DpAll.bools h3
    exact ⟨a, bs, rfl, h2, kk _ H (Xt.refl H) t (.bl _)⟩
end
section
variable {α β γ δ σ : Type}
abbrev eI : Int → PyData := .int
abbrev eB : Bool → PyData := .bool
abbrev eS : Str → PyData := .str
abbrev eA : PyData → PyData := fun d => d
def eU : Unit → PyData := fun _ => .none
def eR (e : α → PyData) (l : List α) : PyData := .tuple (l.map e)
def eL (e : α → PyData) (l : List α) : PyData := .list (l.map e)
def e0 : Unit → PyData := fun _ => .tuple []
def e1 (a : α → PyData) (p : α) : PyData := .tuple [a p]
def e2 (a : α → PyData) (b : β → PyData) (p : α × β) : PyData := .tuple [a p.1, b p.2]
def e3 (a : α → PyData) (b : β → PyData) (c : γ → PyData) (p : α × β × γ) : PyData := .tuple [a p.1, b p.2.1, c p.2.2]
def e4 (a : α → PyData) (b : β → PyData) (c : γ → PyData) (d : δ → PyData) (p : α × β × γ × δ) : PyData := .tuple [a p.1, b p.2.1, c p.2.2.1, d p.2.2.2]
def mulO (x y : Int) : Option Int := if cMul x y = true then some (x * y) else none
def divO (x y : Int) : Option Int := if cDiv x y = true then some (x / y) else none
def modO (x y : Int) : Option Int := if cMod x y = true then some (x.fmod y) else none
def catO (x y : List α) : Option (List α) := if x.length + y.length ≤ 1000000 then some (x ++ y) else none
def eqO (x y : PyData) : Option Bool := if (SeqAt.shaped x && SeqAt.shaped y) = true then some (PyData.eqv x y) else none
def max2 (x y : Int) : Int := if y > x then y else x
def min2 (x y : Int) : Int := if y < x then y else x
def abs1 (x : Int) : Int := if x < 0 then -x else x
def cutT (l : List α) (lo hi : Option Int) : List α := (l.drop (HT.sIx l.length 0 lo)).take (HT.sIx l.length l.length hi - HT.sIx l.length 0 lo)
def dispO (l : List α) : Option (List α) := if l.length ≤ 64 then some l else none
def iteO (c : Option Bool) (a b : Option α) : Option α := c.bind fun k => match k with
  | true => a
  | false => b
def andO (c d : Option Bool) : Option Bool := iteO c d (some false)
def orO (c d : Option Bool) : Option Bool := iteO c (some true) d
def range1O (n : Int) : Option (List Int) := if -1000000 ≤ n ∧ n ≤ 1000000 then some ((List.range n.toNat).map fun (i : Nat) => (0 + (i : Int))) else none
def range2O (m n : Int) : Option (List Int) := if -1000000 ≤ m ∧ m ≤ 1000000 ∧ -1000000 ≤ n ∧ n ≤ 1000000 then some ((List.range (n - m).toNat).map fun (i : Nat) => (m + (i : Int))) else none
def compO (T : α → Option Bool) (B : α → Option β) : List α → Option (List β)
  | [] => some []
  | x :: r => (T x).bind fun k => match k with
    | true => (B x).bind fun y => (compO T B r).bind fun ys => some (y :: ys)
    | false => compO T B r
theorem compO_cons (T : α → Option Bool) (B : α → Option β) (x : α) (r : List α) : compO T B (x :: r) = (T x).bind fun k => match k with
    | true => (B x).bind fun y => (compO T B r).bind fun ys => some (y :: ys)
    | false => compO T B r := rfl
def compL (T : α → Option Bool) (B : α → Option β) (l : List α) : Option (List β) := if l.length ≤ 1000000 then compO T B l else none
def comp2O (T : α → Option Bool) (M : α → Option (List β)) (T2 : α → β → Option Bool) (B : α → β → Option γ) : List α → Option (List γ)
  | [] => some []
  | x :: r => (T x).bind fun k => match k with
    | true => (M x).bind fun l => (compO (T2 x) (B x) l).bind fun ys => (comp2O T M T2 B r).bind fun zs => some (ys ++ zs)
    | false => comp2O T M T2 B r
def comp2L (T : α → Option Bool) (M : α → Option (List β)) (T2 : α → β → Option Bool) (B : α → β → Option γ) (l : List α) : Option (List γ) :=
  (comp2O T M T2 B l).bind fun o => if o.length ≤ 1000000 then some o else none
def allO (ev : Bool) (B : α → Option Bool) : List α → Option Bool
  | [] => some ev
  | x :: r => (B x).bind fun k => if k = ev then allO ev B r else some k
theorem allO_cons (ev : Bool) (B : α → Option Bool) (x : α) (r : List α) : allO ev B (x :: r) = (B x).bind fun k => if k = ev then allO ev B r else some k := rfl
def appO (l : List α) (x : α) : Option (List α) := if l.length ≤ 1000000 then some (l ++ [x]) else none
def foldO (Bd : α → σ → Option σ) : List α → σ → Option σ
  | [], s => some s
  | x :: r, s => (Bd x s).bind (foldO Bd r)
def thenJ (K : σ → Option (β ⊕ γ)) (o : β ⊕ σ) : Option (β ⊕ γ) := match o with
  | .inl v => some (.inl v)
  | .inr s => K s
def foldJ (Bd : α → σ → Option (β ⊕ σ)) : List α → σ → Option (β ⊕ σ)
  | [], s => some (.inr s)
  | x :: r, s => (Bd x s).bind (thenJ (foldJ Bd r))
def whileO (T : σ → Option Bool) (Bd : σ → Option σ) : Nat → σ → Option σ
  | 0, _ => none
  | n + 1, s => (T s).bind fun k => match k with
    | true => (Bd s).bind (whileO T Bd n)
    | false => some s
def outJ (K : σ → Option β) (o : β ⊕ σ) : Option β := match o with
  | .inl v => some v
  | .inr s => K s
end
structure Enc {α : Type} [DecidableEq α] (k : Nat) (e : α → PyData) : Prop where
  lay : ∀ a, PyData.canLay0 (e a) = true
  dep : ∀ a, PyData.depth (e a) ≤ k
  eq : ∀ a b, PyData.eqv (e a) (e b) = decide (a = b)
theorem Enc.sh {α : Type} [DecidableEq α] {k : Nat} {e : α → PyData} (E : Enc k e) (hk : k ≤ 64) (a : α) : SeqAt.shaped (e a) = true := by
  unfold SeqAt.shaped
  rw [E.lay]
  have := E.dep a
  rw [decide_eq_true (by omega)]
  rfl
section
variable {α β γ δ σ : Type} {en : En} {f g h : En → Option PyData} {ea : α → PyData} {eb : β → PyData} {ec : γ → PyData} {ed : δ → PyData} {A : Option α} {B : Option β} {C : Option γ} {D : Option δ}
theorem t_var {i : Nat} {e : α → PyData} {v : α} (h : en[i]? = some (.dat (e v))) : fVar i en = (some v).map e := by
  unfold fVar
  rw [h]
  rfl
theorem t_own {i : Nat} {e : α → PyData} {v : List α} (h : en[i]? = some (.own (v.map e))) : fOwn i en = (some v).map (eL e) := by
  unfold fOwn
  rw [h]
  rfl
theorem t_int {i : Int} : fLit (.int i) en = (some i).map eI := rfl
theorem t_bl {b : Bool} : fLit (.bool b) en = (some b).map eB := rfl
theorem t_str {s : Str} : fLit (.str s) en = (some s).map eS := rfl
theorem t_non : fLit .none en = (some ()).map eU := rfl
theorem t_f2 {G : PyData → PyData → Option PyData} {h : α → β → Option γ} (hG : ∀ x y, G (ea x) (eb y) = (h x y).map ec) (pa : f en = A.map ea) (pb : g en = B.map eb) : f2 G f g en = (A.bind fun x => B.bind fun y => h x y).map ec := by
  unfold f2
  rw [pa, pb]
  cases A with
  | none => rfl
  | some a => cases B with
    | none => rfl
    | some b => exact hG a b
theorem t_f1 {G : PyData → Option PyData} {h : α → Option γ} (hG : ∀ x, G (ea x) = (h x).map ec) (pa : f en = A.map ea) : f1 G f en = (A.bind h).map ec := by
  unfold f1
  rw [pa]
  cases A with
  | none => rfl
  | some a => exact hG a
theorem g_add (x y : Int) : gPlus (eI x) (eI y) = (some (x + y)).map eI := rfl
theorem g_sub (x y : Int) : (gI fun i j => .int (i - j)) (eI x) (eI y) = (some (x - y)).map eI := rfl
theorem g_mul (x y : Int) : gTimes (eI x) (eI y) = (mulO x y).map eI := by
  show (if cMul x y = true then some (PyData.int (x * y)) else none) = _
  unfold mulO
  split <;> rfl
theorem g_div (x y : Int) : (gIc cDiv fun i j => .int (i / j)) (eI x) (eI y) = (divO x y).map eI := by
  show (if cDiv x y = true then some (PyData.int (x / y)) else none) = _
  unfold divO
  split <;> rfl
theorem g_mod (x y : Int) : (gIc cMod fun i j => .int (i.fmod j)) (eI x) (eI y) = (modO x y).map eI := by
  show (if cMod x y = true then some (PyData.int (x.fmod y)) else none) = _
  unfold modO
  split <;> rfl
theorem g_addL {e : α → PyData} (x y : List α) : gPlus (eL e x) (eL e y) = (catO x y).map (eL e) := by
  show (if (x.map e).length + (y.map e).length ≤ 1000000 then some (PyData.list (x.map e ++ y.map e)) else none) = _
  unfold catO eL
  rw [List.length_map, List.length_map]
  split
  · simp
  · rfl
theorem g_lt (x y : Int) : (gI fun i j => .bool (decide (i < j))) (eI x) (eI y) = (some (decide (x < y))).map eB := rfl
theorem g_gt (x y : Int) : (gI fun i j => .bool (decide (j < i))) (eI x) (eI y) = (some (decide (y < x))).map eB := rfl
theorem g_ge (x y : Int) : (gI fun i j => .bool (decide (j ≤ i))) (eI x) (eI y) = (some (decide (y ≤ x))).map eB := rfl
theorem g_min2 (x y : Int) : (gI fun i j => .int (if j < i then j else i)) (eI x) (eI y) = (some (min2 x y)).map eI := rfl
theorem g_gcd (x y : Int) : (gI fun i j => .int ((Nat.gcd i.natAbs j.natAbs : Nat) : Int)) (eI x) (eI y) = (some ((Nat.gcd x.natAbs y.natAbs : Nat) : Int)).map eI := rfl
theorem g_eq [DecidableEq α] {e : α → PyData} {n : Nat} (E : Enc n e) (hn : Nat.ble n 64 = true) (x y : α) : gEq (e x) (e y) = (some (decide (x = y))).map eB := by
  unfold gEq
  rw [if_pos (by rw [E.sh (Nat.le_of_ble_eq_true hn), E.sh (Nat.le_of_ble_eq_true hn)]; rfl), E.eq]
  rfl
theorem g_ne [DecidableEq α] {e : α → PyData} {n : Nat} (E : Enc n e) (hn : Nat.ble n 64 = true) (x y : α) : gNe (e x) (e y) = (some (!decide (x = y))).map eB := by
  unfold gNe
  rw [if_pos (by rw [E.sh (Nat.le_of_ble_eq_true hn), E.sh (Nat.le_of_ble_eq_true hn)]; rfl), E.eq]
  rfl
theorem g_eqA (x : α) (y : β) : gEq (ea x) (eb y) = (eqO (ea x) (eb y)).map eB := by
  unfold gEq eqO
  split <;> rfl
theorem atI_map {e : α → PyData} (l : List α) (i : Int) : atI (l.map e) i = (atI l i).map e := by
  unfold atI
  rw [List.length_map]
  cases ixN l.length i with
  | none => rfl
  | some j => simp
theorem g_ixR {e : α → PyData} (l : List α) (i : Int) : gIx (eR e l) (eI i) = (atI l i).map e := atI_map l i
theorem g_ixL {e : α → PyData} (l : List α) (i : Int) : gIx (eL e l) (eI i) = (atI l i).map e := atI_map l i
theorem t_ixc {k : Int} {pr : α → β} (h : ∀ p, gIx (ea p) (.int k) = some (eb (pr p))) (pa : f en = A.map ea) : fIx f (fLit (.int k)) en = (A.bind fun p => some (pr p)).map eb := by
  unfold fIx f2
  rw [pa]
  cases A with
  | none => rfl
  | some a => exact h a
theorem t_part {o : Option Int} (p : f en = o.map eI) : fPart f en = o.bind fun i => some (some i) := by
  unfold fPart
  rw [p]
  cases o <;> rfl
theorem t_nopart : fNoPart en = some none := rfl
theorem cutD_map {e : α → PyData} (l : List α) (lo hi : Option Int) : cutD (l.map e) lo hi = (cutT l lo hi).map e := by
  unfold cutD cutT
  rw [List.length_map, List.map_take, List.map_drop]
theorem t_cut {fl fh : En → Option (Option Int)} {L H : Option (Option Int)} {e : List α → PyData} {A : Option (List α)} (hG : ∀ l lo hi, gCut (e l) lo hi = some (e (cutT l lo hi))) (pa : f en = A.map e) (pl : fl en = L) (ph : fh en = H) :
    fCut f fl fh en = (A.bind fun l => L.bind fun lo => H.bind fun hi => some (cutT l lo hi)).map e := by
  unfold fCut
  rw [pa, pl, ph]
  cases A with
  | none => rfl
  | some l => cases L with
    | none => rfl
    | some lo => cases H with
      | none => rfl
      | some hi => exact hG l lo hi
theorem g_cutR {e : α → PyData} (l : List α) (lo hi : Option Int) : gCut (eR e l) lo hi = some (eR e (cutT l lo hi)) := by
  show some (PyData.tuple (cutD (l.map e) lo hi)) = _
  rw [cutD_map]
  rfl
theorem t_tup2 (pa : f en = A.map ea) (pb : g en = B.map eb) : fTup (fCons f (fCons g fNil)) en = (A.bind fun x => B.bind fun y => some (x, y)).map (e2 ea eb) := by
  unfold fTup fCons fNil
  rw [pa, pb]
  cases A <;> cases B <;> rfl
theorem t_tup3 (pa : f en = A.map ea) (pb : g en = B.map eb) (pc : h en = C.map ec) : fTup (fCons f (fCons g (fCons h fNil))) en = (A.bind fun x => B.bind fun y => C.bind fun z => some (x, y, z)).map (e3 ea eb ec) := by
  unfold fTup fCons fNil
  rw [pa, pb, pc]
  cases A <;> cases B <;> cases C <;> rfl
theorem t_tup4 {k : En → Option PyData} (pa : f en = A.map ea) (pb : g en = B.map eb) (pc : h en = C.map ec) (pd : k en = D.map ed) : fTup (fCons f (fCons g (fCons h (fCons k fNil)))) en = (A.bind fun x => B.bind fun y => C.bind fun z => D.bind fun w => some (x, y, z, w)).map (e4 ea eb ec ed) := by
  unfold fTup fCons fNil
  rw [pa, pb, pc, pd]
  cases A <;> cases B <;> cases C <;> cases D <;> rfl
theorem t_nil {e : α → PyData} : fNil en = (some ([] : List α)).map (List.map e) := rfl
theorem t_cons {gs : En → Option (List PyData)} {L : Option (List α)} (pa : f en = A.map ea) (pr : gs en = L.map (List.map ea)) : fCons f gs en = (A.bind fun x => L.bind fun xs => some (x :: xs)).map (List.map ea) := by
  unfold fCons
  rw [pa, pr]
  cases A <;> cases L <;> rfl
theorem t_lstL {gs : En → Option (List PyData)} {L : Option (List α)} (pr : gs en = L.map (List.map ea)) : fLst gs en = (L.bind dispO).map (eL ea) := by
  unfold fLst
  rw [pr]
  cases L with
  | none => rfl
  | some l =>
    show (if (l.map ea).length ≤ 64 then some (PyData.list (l.map ea)) else none) = (dispO l).map _
    unfold dispO
    rw [List.length_map]
    split <;> rfl
theorem g_lenR {e : α → PyData} (l : List α) : gLen (eR e l) = (some (l.length : Int)).map eI := by
  show some (PyData.int ((l.map e).length : Nat)) = _
  rw [List.length_map]
  rfl
theorem g_lenL {e : α → PyData} (l : List α) : gLen (eL e l) = (some (l.length : Int)).map eI := by
  show some (PyData.int ((l.map e).length : Nat)) = _
  rw [List.length_map]
  rfl
theorem g_sumL (l : List Int) : gSum (eL eI l) = (some l.sum).map eI := by
  show Option.map _ (intsOf (l.map PyData.int)) = _
  rw [intsOf_map]
  rfl
theorem g_tupL {e : α → PyData} (l : List α) : gTuple (eL e l) = (some l).map (eR e) := rfl
theorem g_abs (x : Int) : gAbs (eI x) = (some (abs1 x)).map eI := rfl
theorem g_int (x : Int) : gInt (eI x) = (some x).map eI := rfl
theorem g_neg (x : Int) : gNeg (eI x) = (some (-x)).map eI := rfl
theorem t_isi {q : PyData → Bool} {b : α → Bool} (hq : ∀ x, q (ea x) = b x) (pa : f en = A.map ea) (hn : ∀ x, isFn (ea x) = false := by first | exact fun _ => rfl | (intro x; cases x <;> rfl)) : fIsi q f en = (A.bind fun x => some (b x)).map eB := by
  unfold fIsi f1
  rw [pa]
  cases A with
  | none => rfl
  | some a => show (if isFn (ea a) = true then none else some (PyData.bool (q (ea a)))) = _; rw [hn, hq]; rfl
def isiO (q : PyData → Bool) (x : PyData) : Option Bool := if isFn x = true then none else some (q x)
theorem t_isiA {q : PyData → Bool} {A : Option PyData} (pa : f en = A.map eA) : fIsi q f en = (A.bind fun x => isiO q x).map eB := by
  unfold fIsi f1
  rw [pa]
  cases A with
  | none => rfl
  | some a =>
    show (if isFn a = true then none else some (PyData.bool (q a))) = (isiO q a).map eB
    unfold isiO
    split <;> rfl
theorem t_and {P Q : Option Bool} (p : f en = P.map eB) (q : g en = Q.map eB) : fAnd f g en = (andO P Q).map eB := by
  unfold fAnd andO iteO
  rw [p]
  cases P with
  | none => rfl
  | some b => cases b with
    | true => exact q
    | false => rfl
theorem t_not {P : Option Bool} (p : f en = P.map eB) : fNot f en = (P.bind fun b => some (!b)).map eB := by
  unfold fNot
  rw [p]
  cases P <;> rfl
theorem t_T {P : Option Bool} (p : f en = P.map eB) : fT f en = P := by
  unfold fT
  rw [p]
  cases P <;> rfl
section
variable {k l : En → Option Bool} {P Q : Option Bool}
theorem t_kand (p : k en = P) (q : l en = Q) : kAnd k l en = andO P Q := by
  unfold kAnd andO iteO
  rw [p]
  cases P with
  | none => rfl
  | some b => cases b with
    | true => exact q
    | false => rfl
theorem t_kor (p : k en = P) (q : l en = Q) : kOr k l en = orO P Q := by
  unfold kOr orO iteO
  rw [p]
  cases P with
  | none => rfl
  | some b => cases b with
    | true => rfl
    | false => exact q
theorem t_knot (p : k en = P) : kNot k en = P.bind fun b => some (!b) := by
  unfold kNot
  rw [p]
  cases P <;> rfl
theorem t_yes : kYes en = some true := rfl
theorem t_if {A B : Option α} (p : k en = P) (pa : f en = A.map ea) (pb : g en = B.map ea) : fIf k f g en = (iteO P A B).map ea := by
  unfold fIf iteO
  rw [p]
  cases P with
  | none => rfl
  | some b => cases b with
    | true => exact pa
    | false => exact pb
end
theorem t_chain {A B C : Option Int} (pa : f en = A.map eI) (pb : g en = B.map eI) (pc : h en = C.map eI) : fChain gLe gLe f g h en = (A.bind fun x => B.bind fun y => iteO (some (decide (x ≤ y))) (C.bind fun z => some (decide (y ≤ z))) (some false)).map eB := by
  unfold fChain
  rw [pa, pb]
  cases A with
  | none => rfl
  | some x => cases B with
    | none => rfl
    | some y =>
      rw [pc]
      have e : gLe (eI x) (eI y) = some (PyData.bool (decide (x ≤ y))) := rfl
      simp only [Option.map_some, Option.bind_some, e]
      cases decide (x ≤ y) with
      | true => cases C <;> rfl
      | false => rfl
theorem i_range1 {A : Option Int} (pa : f en = A.map eI) : iRange1 f en = (A.bind range1O).map (List.map eI) := by
  unfold iRange1
  rw [pa]
  cases A with
  | none => rfl
  | some n =>
    show (if -1000000 ≤ n ∧ n ≤ 1000000 then some (rangeD 0 n.toNat) else none) = (range1O n).map _
    unfold range1O rangeD
    split
    · simp
    · rfl
theorem i_seq {e : α → PyData} {s : σ → PyData} {u : σ → List α} {A : Option σ} (h : ∀ x, items (s x) = some ((u x).map e)) (pa : f en = A.map s) : iSeq f en = (A.bind fun x => some (u x)).map (List.map e) := by
  unfold iSeq
  rw [pa]
  cases A with
  | none => rfl
  | some x => exact h x
theorem i_seqR {e : α → PyData} {A : Option (List α)} (pa : f en = A.map (eR e)) : iSeq f en = A.map (List.map e) := by
  unfold iSeq
  rw [pa]
  cases A <;> rfl
theorem i_seqL {e : α → PyData} {A : Option (List α)} (pa : f en = A.map (eL e)) : iSeq f en = A.map (List.map e) := by
  unfold iSeq
  rw [pa]
  cases A <;> rfl
theorem pairs_zip : ∀ (xs : List α) (ys : List β), pairs (xs.map ea) (ys.map eb) = (xs.zip ys).map (e2 ea eb)
  | [], _ => by simp [pairs]
  | _ :: _, [] => by simp [pairs]
  | x :: xs, y :: ys => by
    show PyData.tuple [ea x, eb y] :: pairs (xs.map ea) (ys.map eb) = _
    rw [pairs_zip xs ys]
    rfl
theorem i_zip {A : Option (List α)} {B : Option (List β)} {s : List α → PyData} {t : List β → PyData} (h : ∀ x y, iZip (fun _ => some (s x)) (fun _ => some (t y)) [] = some (pairs (x.map ea) (y.map eb))) (pa : f en = A.map s) (pb : g en = B.map t) : iZip f g en = (A.bind fun x => B.bind fun y => some (x.zip y)).map (List.map (e2 ea eb)) := by
  unfold iZip
  rw [pa, pb]
  cases A with
  | none => rfl
  | some x => cases B with
    | none => rfl
    | some y => exact (h x y).trans (congrArg some (pairs_zip x y))
section
variable {it : En → Option (List PyData)} {b b2 : PyData → En → Option En} {t t2 : En → Option Bool} {vs vs2 : List Nat} {T : α → Option Bool} {Bf : α → Option β} {L : Option (List α)}
theorem lcGo_eq (hb : ∀ x, ∃ e1, b (ea x) en = some e1 ∧ t e1 = T x ∧ f e1 = (Bf x).map eb) : ∀ l : List α, lcGo b t f en (l.map ea) = (compO T Bf l).map (List.map eb)
  | [] => rfl
  | x :: r => by
    obtain ⟨e1, h1, h2, h3⟩ := hb x
    have ih := lcGo_eq hb r
    show (b (ea x) en).bind _ = _
    rw [h1, Option.bind_some, h2, h3, ih, compO_cons]
    cases T x with
    | none => rfl
    | some k => cases k with
      | true =>
        show (Option.bind (Option.map eb (Bf x)) _) = _
        cases Bf x with
        | none => rfl
        | some y =>
          show Option.map _ (Option.map (List.map eb) (compO T Bf r)) = Option.map (List.map eb) ((compO T Bf r).bind _)
          cases compO T Bf r <;> rfl
      | false => rfl
theorem t_lc (hi : it en = L.map (List.map ea)) (hb : ∀ x, ∃ e1, b (ea x) (wipeE en vs) = some e1 ∧ t e1 = T x ∧ f e1 = (Bf x).map eb) : fLc it b t f vs en = (L.bind fun l => compL T Bf l).map (eL eb) := by
  unfold fLc
  rw [hi]
  cases L with
  | none => rfl
  | some l =>
    show (if (l.map ea).length ≤ 1000000 then (lcGo b t f (wipeE en vs) (l.map ea)).map PyData.list else none) = (compL T Bf l).map _
    unfold compL
    rw [List.length_map, lcGo_eq hb]
    split
    · cases compO T Bf l <;> rfl
    · rfl
theorem t_all {ev : Bool} {Bf : α → Option Bool} (hi : it en = L.map (List.map ea)) (hb : ∀ x, ∃ e1, b (ea x) (wipeE en vs) = some e1 ∧ f e1 = (Bf x).map eB) : fAll ev it b f vs en = (L.bind fun l => allO ev Bf l).map eB := by
  unfold fAll
  rw [hi]
  cases L with
  | none => rfl
  | some l =>
    show allGo ev b f (wipeE en vs) (l.map ea) = (allO ev Bf l).map eB
    clear hi
    induction l with
    | nil => rfl
    | cons x r ih =>
      obtain ⟨e1, h1, h2⟩ := hb x
      show (b (ea x) (wipeE en vs)).bind _ = _
      rw [h1, Option.bind_some, h2, allO_cons]
      cases Bf x with
      | none => rfl
      | some k =>
        show (if k = ev then allGo ev b f (wipeE en vs) (r.map ea) else some (PyData.bool k)) = Option.map eB (if k = ev then allO ev Bf r else some k)
        split
        · exact ih
        · rfl
end
section
variable {S : List PyData → Option PyData} {ζ ε : Type} {er : ζ → PyData} {k l : En → Option PyData} {ee : ε → PyData} {E : Option ε}
theorem t_call1 {N : α → Option ζ} (hS : ∀ x, S [ea x] = (N x).map er) (pa : f en = A.map ea) : fCall 1 S (fCons f fNil) en = (A.bind fun x => N x).map er := by
  unfold fCall fCons fNil
  rw [pa]
  cases A with
  | none => rfl
  | some a => exact hS a
theorem t_call2 {N : α → β → Option ζ} (hS : ∀ x y, S [ea x, eb y] = (N x y).map er) (pa : f en = A.map ea) (pb : g en = B.map eb) : fCall 2 S (fCons f (fCons g fNil)) en = (A.bind fun x => B.bind fun y => N x y).map er := by
  unfold fCall fCons fNil
  rw [pa, pb]
  cases A with
  | none => rfl
  | some a => cases B with
    | none => rfl
    | some b => exact hS a b
theorem t_call3 {N : α → β → γ → Option ζ} (hS : ∀ x y z, S [ea x, eb y, ec z] = (N x y z).map er) (pa : f en = A.map ea) (pb : g en = B.map eb) (pc : h en = C.map ec) : fCall 3 S (fCons f (fCons g (fCons h fNil))) en = (A.bind fun x => B.bind fun y => C.bind fun z => N x y z).map er := by
  unfold fCall fCons fNil
  rw [pa, pb, pc]
  cases A with
  | none => rfl
  | some a => cases B with
    | none => rfl
    | some b => cases C with
      | none => rfl
      | some c => exact hS a b c
theorem t_call4 {N : α → β → γ → δ → Option ζ} (hS : ∀ x y z u, S [ea x, eb y, ec z, ed u] = (N x y z u).map er) (pa : f en = A.map ea) (pb : g en = B.map eb) (pc : h en = C.map ec) (pd : k en = D.map ed) :
    fCall 4 S (fCons f (fCons g (fCons h (fCons k fNil)))) en = (A.bind fun x => B.bind fun y => C.bind fun z => D.bind fun u => N x y z u).map er := by
  unfold fCall fCons fNil
  rw [pa, pb, pc, pd]
  cases A with
  | none => rfl
  | some a => cases B with
    | none => rfl
    | some b => cases C with
      | none => rfl
      | some c => cases D with
        | none => rfl
        | some d => exact hS a b c d
end
end
section
variable {α β γ σ τ ζ ξ : Type}
def rtO (e : α → PyData) (A : Option α) : Option Fl := A.map fun v => .rt (e v)
def NX (r : Option Fl) (A : Option σ) (env : σ → ζ → En) : Prop := match A with
  | none => r = none
  | some s => ∃ z, r = some (.nx (env s z))
def JX (r : Option Fl) (A : Option (β ⊕ σ)) (e : β → PyData) (env : σ → ζ → En) : Prop := match A with
  | none => r = none
  | some (.inl v) => r = some (.rt (e v))
  | some (.inr s) => ∃ z, r = some (.nx (env s z))
variable {en : En} {f g h : En → Option PyData} {F G H : En → Option Fl} {ea : α → PyData} {eb : β → PyData} {ec : γ → PyData} {er : ξ → PyData} {A : Option α} {B : Option β} {C : Option γ} {k : En → Option Bool} {P : Option Bool} {i j l : Nat} {env : σ → ζ → En} {env2 : τ → ζ → En}
theorem r_ret (p : f en = A.map ea) : sRet f en = rtO ea A := by
  unfold sRet rtO
  rw [p]
  cases A <;> rfl
theorem r_if {A B : Option ξ} (p : k en = P) (ha : F en = rtO er A) (hb : G en = rtO er B) : sIf k F G en = rtO er (iteO P A B) := by
  unfold sIf iteO
  rw [p]
  cases P with
  | none => rfl
  | some b => cases b with
    | true => exact ha
    | false => exact hb
theorem r_never {e : ξ → PyData} : sNever en = rtO e none := rfl
theorem r_seq_set {K : α → Option ξ} (p : f en = A.map ea) (hi : i < en.length) (q : ∀ x, G (en.set i (.dat (ea x))) = rtO er (K x)) : sSeq (sSet i f) G en = rtO er (A.bind K) := by
  unfold sSeq sSet bName
  rw [p]
  cases A with
  | none => rfl
  | some a =>
    show (match (if i < en.length then some (en.set i (.dat (ea a))) else none).map Fl.nx with
      | some (.nx e) => G e
      | r => r) = _
    rw [if_pos hi]
    exact q a
theorem r_seq_bind {b : PyData → En → Option En} {envb : α → En} {K : α → Option ξ} (p : f en = A.map ea) (hb : ∀ x, b (ea x) en = some (envb x)) (q : ∀ x, G (envb x) = rtO er (K x)) : sSeq (sBind b f) G en = rtO er (A.bind K) := by
  unfold sSeq sBind
  rw [p]
  cases A with
  | none => rfl
  | some a =>
    show (match (b (ea a) en).map Fl.nx with
      | some (.nx e) => G e
      | r => r) = _
    rw [hb]
    exact q a
theorem r_seq_par {K : α → β → Option ξ} (p : f en = A.map ea) (p2 : g en = B.map eb) (hi : i < en.length) (hj : j < en.length) (q : ∀ x y, G ((en.set i (.dat (ea x))).set j (.dat (eb y))) = rtO er (K x y)) : sSeq (sPar i j f g) G en = rtO er (A.bind fun x => B.bind fun y => K x y) := by
  unfold sSeq sPar bName
  rw [p, p2]
  cases A with
  | none => rfl
  | some a => cases B with
    | none => rfl
    | some b =>
      simp only [Option.map_some, Option.bind_some, hi, hj, if_true, List.length_set]
      exact q a b
theorem r_seq_own {A : Option (List α)} {K : List α → Option ξ} (p : f en = A.map (eL ea)) (hi : i < en.length) (q : ∀ x : List α, G (en.set i (.own (x.map ea))) = rtO er (K x)) : sSeq (sOwn i f) G en = rtO er (A.bind K) := by
  unfold sSeq sOwn
  rw [p]
  cases A with
  | none => rfl
  | some a =>
    show (match (if i < en.length then some (Fl.nx (en.set i (.own (a.map ea)))) else none) with
      | some (.nx e) => G e
      | r => r) = _
    rw [if_pos hi]
    exact q a
theorem r_seq_rel {a : List α} {K : Option ξ} (ho : en[i]? = some (.own (a.map ea))) (q : G (en.set i (.dat (eL ea a))) = rtO er K) : sSeq (sRel i) G en = rtO er K := by
  unfold sSeq sRel
  rw [ho]
  exact q
theorem r_seq_expr {K : Option ξ} (p : f en = A.map ea) (q : G en = rtO er K) : sSeq (sExpr f) G en = rtO er (A.bind fun _ => K) := by
  unfold sSeq sExpr
  rw [p]
  cases A with
  | none => rfl
  | some a => exact q
theorem r_seq_ifret {A K : Option ξ} (p : k en = P) (ha : F en = rtO er A) (q : G en = rtO er K) : sSeq (sIf k F sNil) G en = rtO er (iteO P A K) := by
  unfold sSeq sIf iteO
  rw [p]
  cases P with
  | none => rfl
  | some b => cases b with
    | true =>
      show (match F en with
        | some (.nx e) => G e
        | r => r) = _
      rw [ha]
      cases A <;> rfl
    | false => exact q
theorem r_seq_nx {A : Option σ} {K : σ → Option ξ} (p : NX (F en) A env) (q : ∀ s z, G (env s z) = rtO er (K s)) : sSeq F G en = rtO er (A.bind K) := by
  unfold sSeq
  cases A with
  | none =>
    have e : F en = none := p
    rw [e]
    rfl
  | some s =>
    obtain ⟨z, e⟩ := p
    rw [e]
    exact q s z
theorem r_seq_j {A : Option (ξ ⊕ σ)} {K : σ → Option ξ} (p : JX (F en) A er env) (q : ∀ s z, G (env s z) = rtO er (K s)) : sSeq F G en = rtO er (A.bind (outJ K)) := by
  unfold sSeq
  cases A with
  | none =>
    have e : F en = none := p
    rw [e]
    rfl
  | some o => cases o with
    | inl v =>
      have e : F en = some (.rt (er v)) := p
      rw [e]
      rfl
    | inr s =>
      obtain ⟨z, e⟩ := p
      rw [e]
      exact q s z
theorem n_nil {s : σ} {z : ζ} (h : en = env s z) : NX (sNil en) (some s) env := ⟨z, by rw [h]; rfl⟩
theorem n_never : NX (sNever en) (none : Option σ) env := rfl
theorem n_set {K : α → σ} (p : f en = A.map ea) (hi : i < en.length) (q : ∀ x, ∃ z, en.set i (.dat (ea x)) = env (K x) z) : NX (sSet i f en) (A.bind fun x => some (K x)) env := by
  unfold sSet bName
  rw [p]
  cases A with
  | none => exact rfl
  | some a =>
    obtain ⟨z, e⟩ := q a
    refine ⟨z, ?_⟩
    show (if i < en.length then some (en.set i (.dat (ea a))) else none).map Fl.nx = _
    rw [if_pos hi, e]
    rfl
theorem n_seq_set {K : α → Option σ} (p : f en = A.map ea) (hi : i < en.length) (q : ∀ x, NX (G (en.set i (.dat (ea x)))) (K x) env) : NX (sSeq (sSet i f) G en) (A.bind K) env := by
  unfold sSeq sSet bName
  rw [p]
  cases A with
  | none => exact rfl
  | some a =>
    show NX (match (if i < en.length then some (en.set i (.dat (ea a))) else none).map Fl.nx with
      | some (.nx e) => G e
      | r => r) (K a) env
    rw [if_pos hi]
    exact q a
theorem n_seq_bind {b : PyData → En → Option En} {envb : α → En} {K : α → Option σ} (p : f en = A.map ea) (hb : ∀ x, b (ea x) en = some (envb x)) (q : ∀ x, NX (G (envb x)) (K x) env) : NX (sSeq (sBind b f) G en) (A.bind K) env := by
  unfold sSeq sBind
  rw [p]
  cases A with
  | none => exact rfl
  | some a =>
    show NX (match (b (ea a) en).map Fl.nx with
      | some (.nx e) => G e
      | r => r) (K a) env
    rw [hb]
    exact q a
theorem n_par {K : α → β → σ} (p : f en = A.map ea) (p2 : g en = B.map eb) (hi : i < en.length) (hj : j < en.length) (q : ∀ x y, ∃ z, (en.set i (.dat (ea x))).set j (.dat (eb y)) = env (K x y) z) : NX (sPar i j f g en) (A.bind fun x => B.bind fun y => some (K x y)) env := by
  unfold sPar bName
  rw [p, p2]
  cases A with
  | none => exact rfl
  | some a => cases B with
    | none => exact rfl
    | some b =>
      obtain ⟨z, e⟩ := q a b
      refine ⟨z, ?_⟩
      simp only [Option.map_some, Option.bind_some, hi, hj, if_true, List.length_set, e]
theorem n_seq_own {A : Option (List α)} {K : List α → Option σ} (p : f en = A.map (eL ea)) (hi : i < en.length) (q : ∀ x : List α, NX (G (en.set i (.own (x.map ea)))) (K x) env) : NX (sSeq (sOwn i f) G en) (A.bind K) env := by
  unfold sSeq sOwn
  rw [p]
  cases A with
  | none => exact rfl
  | some a =>
    show NX (match (if i < en.length then some (Fl.nx (en.set i (.own (a.map ea)))) else none) with
      | some (.nx e) => G e
      | r => r) (K a) env
    rw [if_pos hi]
    exact q a
theorem n_app {v : List α} {K : List α → σ} (p : f en = A.map ea) (ho : en[i]? = some (.own (v.map ea))) (q : ∀ w : List α, ∃ z, en.set i (.own (w.map ea)) = env (K w) z) : NX (sApp i f en) (A.bind fun x => (appO v x).bind fun w => some (K w)) env := by
  unfold sApp
  rw [p]
  cases A with
  | none => exact rfl
  | some a =>
    show NX (match en[i]? with
      | some (.own ds) => if ds.length ≤ 1000000 then some (.nx (en.set i (.own (ds ++ [ea a])))) else none
      | _ => none) ((appO v a).bind fun w => some (K w)) env
    rw [ho]
    show NX (if (v.map ea).length ≤ 1000000 then some (.nx (en.set i (.own (v.map ea ++ [ea a])))) else none) _ env
    unfold appO
    rw [List.length_map]
    split
    · obtain ⟨z, e⟩ := q (v ++ [a])
      refine ⟨z, ?_⟩
      rw [← e, List.map_append]
      rfl
    · exact rfl
theorem n_expr {s : σ} {z : ζ} (p : f en = A.map ea) (q : en = env s z) : NX (sExpr f en) (A.bind fun _ => some s) env := by
  unfold sExpr
  rw [p]
  cases A with
  | none => exact rfl
  | some a => exact ⟨z, by rw [← q]; rfl⟩
theorem n_seq_expr {K : Option σ} (p : f en = A.map ea) (q : NX (G en) K env) : NX (sSeq (sExpr f) G en) (A.bind fun _ => K) env := by
  unfold sSeq sExpr
  rw [p]
  cases A with
  | none => exact rfl
  | some a => exact q
theorem n_if {A B : Option σ} (p : k en = P) (ha : NX (F en) A env) (hb : NX (G en) B env) : NX (sIf k F G en) (iteO P A B) env := by
  unfold sIf iteO
  rw [p]
  cases P with
  | none => exact rfl
  | some b => cases b with
    | true => exact ha
    | false => exact hb
theorem n_seq {A : Option τ} {K : τ → Option σ} {ζ' : Type} {env2 : τ → ζ' → En} (p : NX (F en) A env2) (q : ∀ s z, NX (G (env2 s z)) (K s) env) : NX (sSeq F G en) (A.bind K) env := by
  unfold sSeq
  cases A with
  | none =>
    have e : F en = none := p
    rw [e]
    exact rfl
  | some s =>
    obtain ⟨z, e⟩ := p
    rw [e]
    exact q s z
theorem n_for {it : En → Option (List PyData)} {b : PyData → En → Option En} {L : Option (List α)} {Bd : α → σ → Option σ} {s : σ} {z : ζ} (he : en = env s z) (hi : it en = L.map (List.map ea)) (hb : ∀ x s z, ∃ e1, b (ea x) (env s z) = some e1 ∧ NX (F e1) (Bd x s) env) : NX (sFor it b F en) (L.bind fun l => foldO Bd l s) env := by
  subst he
  unfold sFor
  rw [hi]
  cases L with
  | none => exact rfl
  | some l =>
    show NX (forGo b F (l.map ea) (env s z)) (foldO Bd l s) env
    clear hi
    induction l generalizing s z with
    | nil => exact ⟨z, rfl⟩
    | cons x r ih =>
      obtain ⟨e1, h1, h2⟩ := hb x s z
      have ef : foldO Bd (x :: r) s = (Bd x s).bind (foldO Bd r) := rfl
      show NX ((b (ea x) (env s z)).bind _) _ env
      rw [h1, Option.bind_some, ef]
      cases hB : Bd x s with
      | none =>
        rw [hB] at h2
        have e : F e1 = none := h2
        rw [e]
        exact rfl
      | some s' =>
        rw [hB] at h2
        obtain ⟨z', e⟩ := h2
        rw [e]
        exact ih
theorem n_while {N : Nat} {T : σ → Option Bool} {Bd : σ → Option σ} {s : σ} {z : ζ} (he : en = env s z) (ht : ∀ s z, k (env s z) = T s) (hb : ∀ s z, NX (F (env s z)) (Bd s) env) : NX (sWhile (fun _ => N) k F en) (whileO T Bd N s) env := by
  subst he
  show NX (whGo k F N (env s z)) _ env
  induction N generalizing s z with
  | zero => exact rfl
  | succ n ih =>
    have ew : whileO T Bd (n + 1) s = (T s).bind fun k => match k with
      | true => (Bd s).bind (whileO T Bd n)
      | false => some s := rfl
    show NX (match k (env s z) with
      | some true => match F (env s z) with
        | some (.nx e2) => whGo k F n e2
        | some (.ct e2) => whGo k F n e2
        | some (.bk e2) => some (.nx e2)
        | some (.rt v) => some (.rt v)
        | none => none
      | some false => some (.nx (env s z))
      | none => none) _ env
    rw [ht, ew]
    cases T s with
    | none => exact rfl
    | some c => cases c with
      | false => exact ⟨z, rfl⟩
      | true =>
        have h2 := hb s z
        show NX (match F (env s z) with
          | some (.nx e2) => whGo k F n e2
          | some (.ct e2) => whGo k F n e2
          | some (.bk e2) => some (.nx e2)
          | some (.rt v) => some (.rt v)
          | none => none) ((Bd s).bind (whileO T Bd n)) env
        cases hB : Bd s with
        | none =>
          rw [hB] at h2
          have e : F (env s z) = none := h2
          rw [e]
          exact rfl
        | some s' =>
          rw [hB] at h2
          obtain ⟨z', e⟩ := h2
          rw [e]
          exact ih
theorem j_of_n {A : Option σ} {e : ξ → PyData} {r : Option Fl} (h : NX r A env) : JX r (A.bind fun s => some (.inr s)) e env := by
  cases A with
  | none => exact h
  | some s => exact h
theorem j_of_r {A : Option ξ} {e : ξ → PyData} {r : Option Fl} (h : r = rtO e A) : JX r (A.bind fun v => some (.inl v)) e env := by
  subst h
  cases A <;> exact rfl
theorem j_if {A B : Option (ξ ⊕ σ)} {e : ξ → PyData} (p : k en = P) (ha : JX (F en) A e env) (hb : JX (G en) B e env) : JX (sIf k F G en) (iteO P A B) e env := by
  unfold sIf iteO
  rw [p]
  cases P with
  | none => exact rfl
  | some b => cases b with
    | true => exact ha
    | false => exact hb
theorem j_seq_n {A : Option τ} {K : τ → Option (ξ ⊕ σ)} {e : ξ → PyData} {ζ' : Type} {env2 : τ → ζ' → En} (p : NX (F en) A env2) (q : ∀ s z, JX (G (env2 s z)) (K s) e env) : JX (sSeq F G en) (A.bind K) e env := by
  unfold sSeq
  cases A with
  | none =>
    have e : F en = none := p
    rw [e]
    exact rfl
  | some s =>
    obtain ⟨z, e⟩ := p
    rw [e]
    exact q s z
theorem j_seq_par {K : α → β → Option (ξ ⊕ σ)} {e : ξ → PyData} (p : f en = A.map ea) (p2 : g en = B.map eb) (hi : i < en.length) (hj : j < en.length) (q : ∀ x y, JX (G ((en.set i (.dat (ea x))).set j (.dat (eb y)))) (K x y) e env) : JX (sSeq (sPar i j f g) G en) (A.bind fun x => B.bind fun y => K x y) e env := by
  unfold sSeq sPar bName
  rw [p, p2]
  cases A with
  | none => exact rfl
  | some a => cases B with
    | none => exact rfl
    | some b =>
      simp only [Option.map_some, Option.bind_some, hi, hj, if_true, List.length_set]
      exact q a b
theorem j_for {it : En → Option (List PyData)} {b : PyData → En → Option En} {L : Option (List α)} {Bd : α → σ → Option (ξ ⊕ σ)} {e : ξ → PyData} {s : σ} {z : ζ} (he : en = env s z) (hi : it en = L.map (List.map ea)) (hb : ∀ x s z, ∃ e1, b (ea x) (env s z) = some e1 ∧ JX (F e1) (Bd x s) e env) :
    JX (sFor it b F en) (L.bind fun l => foldJ Bd l s) e env := by
  subst he
  unfold sFor
  rw [hi]
  cases L with
  | none => exact rfl
  | some l =>
    show JX (forGo b F (l.map ea) (env s z)) (foldJ Bd l s) e env
    clear hi
    induction l generalizing s z with
    | nil => exact ⟨z, rfl⟩
    | cons x r ih =>
      obtain ⟨e1, h1, h2⟩ := hb x s z
      have ef : foldJ Bd (x :: r) s = (Bd x s).bind (thenJ (foldJ Bd r)) := rfl
      show JX ((b (ea x) (env s z)).bind _) _ e env
      rw [h1, Option.bind_some, ef]
      cases hB : Bd x s with
      | none =>
        rw [hB] at h2
        have e : F e1 = none := h2
        rw [e]
        exact rfl
      | some o => cases o with
        | inl v =>
          rw [hB] at h2
          have e : F e1 = some (.rt (e v)) := h2
          rw [e]
          exact rfl
        | inr s' =>
          rw [hB] at h2
          obtain ⟨z', e⟩ := h2
          rw [e]
          exact ih
theorem d_run {N : Nat} {ds : List PyData} {A : Option ξ} (h : F (ds.map .dat ++ List.replicate (N - ds.length) .no) = rtO er A) : runD N F ds = A.map er := by
  unfold runD
  rw [h]
  cases A <;> rfl
theorem d_runN {N : Nat} {ds : List PyData} {A : Option σ} (h : NX (F (ds.map .dat ++ List.replicate (N - ds.length) .no)) A env) : runD N F ds = (A.bind fun _ => some ()).map eU := by
  unfold runD
  cases A with
  | none =>
    have e : F (ds.map .dat ++ List.replicate (N - ds.length) .no) = none := h
    rw [e]
    rfl
  | some s =>
    obtain ⟨z, e⟩ := h
    rw [e]
    rfl
end
theorem lt_of {i : Nat} {en : En} (h : Nat.ble (i + 1) en.length = true) : i < en.length := Nat.le_of_ble_eq_true h
section
variable {α β γ σ ζ ξ : Type} {en : En} {f g h : En → Option PyData} {F G : En → Option Fl} {ea : α → PyData} {eb : β → PyData} {k l : En → Option Bool}
theorem t_andP {b c : Bool} (p : f en = (some b).map eB) (q : g en = (some c).map eB) : fAnd f g en = (some (b && c)).map eB := by
  rw [t_and p q]
  cases b <;> rfl
theorem t_kandP {b c : Bool} (p : k en = some b) (q : l en = some c) : kAnd k l en = some (b && c) := by
  rw [t_kand p q]
  cases b <;> rfl
theorem t_korP {b c : Bool} (p : k en = some b) (q : l en = some c) : kOr k l en = some (b || c) := by
  rw [t_kor p q]
  cases b <;> rfl
theorem t_chainP {x y z : Int} (pa : f en = (some x).map eI) (pb : g en = (some y).map eI) (pc : h en = (some z).map eI) : fChain gLe gLe f g h en = (some (decide (x ≤ y) && decide (y ≤ z))).map eB := by
  rw [t_chain pa pb pc]
  show Option.map eB (iteO (some (decide (x ≤ y))) (some (decide (y ≤ z))) (some false)) = _
  cases decide (x ≤ y) <;> rfl
theorem j_seq_ifret {A : Option ξ} {K : Option (ξ ⊕ σ)} {P : Option Bool} {e : ξ → PyData} {env : σ → ζ → En} (p : k en = P) (ha : F en = rtO e A) (q : JX (G en) K e env) : JX (sSeq (sIf k F sNil) G en) (iteO P (A.bind fun v => some (.inl v)) K) e env := by
  unfold sSeq sIf iteO
  rw [p]
  cases P with
  | none => exact rfl
  | some b => cases b with
    | true =>
      show JX (match F en with
        | some (.nx e) => G e
        | r => r) (A.bind fun v => some (.inl v)) e env
      rw [ha]
      cases A <;> exact rfl
    | false => exact q
end
theorem enc_I : Enc 0 eI := ⟨fun _ => rfl, fun _ => Nat.le_refl _, fun _ _ => rfl⟩
theorem enc_B : Enc 0 eB := ⟨fun _ => rfl, fun _ => Nat.le_refl _, fun a b => by cases a <;> cases b <;> rfl⟩
section
variable {α β γ δ : Type} [DecidableEq α] [DecidableEq β] [DecidableEq γ] [DecidableEq δ] {k l m n : Nat} {ea : α → PyData} {eb : β → PyData} {ec : γ → PyData} {ed : δ → PyData}
theorem Enc.lays (E : Enc k ea) : ∀ l : List α, PyData.canLayAll0 (l.map ea) = true
  | [] => by simp only [List.map_nil, PyData.canLayAll0]
  | a :: r => by
    simp only [List.map_cons, PyData.canLayAll0, E.lay a, E.lays r, Bool.and_self]
theorem Enc.deps (E : Enc k ea) : ∀ l : List α, PyData.depthAll (l.map ea) ≤ k
  | [] => by simp only [List.map_nil, PyData.depthAll]; exact Nat.zero_le _
  | a :: r => by
    simp only [List.map_cons, PyData.depthAll]
    exact Nat.max_le.mpr ⟨E.dep a, E.deps r⟩
theorem Enc.eqs (E : Enc k ea) : ∀ l m : List α, PyData.eqvAll (l.map ea) (m.map ea) = decide (l = m)
  | [], [] => by simp [PyData.eqvAll]
  | [], _ :: _ => by simp [PyData.eqvAll]
  | _ :: _, [] => by simp [PyData.eqvAll]
  | a :: r, b :: s => by
    simp only [List.map_cons, PyData.eqvAll, E.eq, E.eqs r s, List.cons.injEq, Bool.decide_and]
theorem enc_L (E : Enc k ea) : Enc (k + 1) (eL ea) := ⟨fun l => by simp only [eL, PyData.canLay0, E.lays l], fun l => by simp only [eL, PyData.depth]; exact Nat.succ_le_succ (E.deps l), fun a b => by simp only [eL, PyData.eqv, E.eqs a b]⟩
theorem enc_2 (E : Enc k ea) (F : Enc l eb) : Enc (max k l + 1) (e2 ea eb) := ⟨fun p => by simp only [e2, PyData.canLay0, PyData.canLayAll0, E.lay, F.lay, Bool.and_true], fun p => by
  simp only [e2, PyData.depth, PyData.depthAll]; have := E.dep p.1; have := F.dep p.2; omega, fun p q => by
  obtain ⟨a, b⟩ := p; obtain ⟨c, d⟩ := q
  simp only [e2, PyData.eqv, PyData.eqvAll, E.eq, F.eq, Bool.and_true, Prod.mk.injEq, Bool.decide_and]⟩
end
theorem pick_of {α : Type} {e : α → PyData} {l : List α} {Q : PyData → Prop} (h : ∀ x, x ∈ l → Q (e x)) : ∀ d ∈ l.map e, Q d := fun d hd => by
  obtain ⟨x, hx, rfl⟩ := List.mem_map.mp hd
  exact h x hx
theorem if_of {b : Bool} {P Q : Prop} (h1 : b = true → P) (h2 : b = false → Q) : if b = true then P else Q := by
  cases b with
  | true => exact h1 rfl
  | false => exact h2 rfl
def repL (l : List α) (k : Int) : Option (List α) := if -1000000 ≤ k ∧ k ≤ 1000 ∧ l.length ≤ 1000 then some (List.replicate k.toNat l).flatten else none
theorem g_repL {α : Type} {e : α → PyData} (x : List α) (k : Int) : gRepL (eL e x) (eI k) = (repL x k).map (eL e) := by
  show (if -1000000 ≤ k ∧ k ≤ 1000 ∧ (x.map e).length ≤ 1000 then some (PyData.list (List.replicate k.toNat (x.map e)).flatten) else none) = _
  unfold repL eL
  rw [List.length_map]
  split
  · simp [List.map_flatten, List.map_replicate]
  · rfl
def lenA : PyData → Option Int
  | .list ds => some ds.length
  | .tuple ds => some ds.length
  | _ => none
def ixA (d : PyData) (i : Int) : Option PyData := (items d).bind fun ds => atI ds i
theorem g_lenA (d : PyData) : gLen (eA d) = (lenA d).map eI := by cases d <;> rfl
theorem map_eA (o : Option PyData) : o.map eA = o := by cases o <;> rfl
theorem g_ixA (d : PyData) (i : Int) : gIx (eA d) (eI i) = (ixA d i).map eA := by
  rw [map_eA]
  rfl
theorem g_isNA (x : PyData) (y : Unit) : gIsN (eA x) (eU y) = (some (isNone x)).map eB := rfl
theorem noown1 {en : En} {i : Nat} (h : en[i]? = some .no) : ∀ j ∈ [i], ∀ es, en[j]? ≠ some (Slot.own es) := fun j hj es z => by
  rw [List.mem_singleton.mp hj, h] at z
  cases z
def rangeI (n : Int) : List Int := (List.range n.toNat).map fun (i : Nat) => (0 + (i : Int))
theorem rangeD_I (n : Int) : rangeD 0 n.toNat = (rangeI n).map eI := by
  unfold rangeD rangeI
  simp
theorem wlc_range {β : Type} {b : PyData → En → Option En} {F : WF} {en : En} {eb : β → PyData} {P : Int → β → Prop} {n : Int} {Q : List PyData → Prop} (hb : ∀ x, ∃ e1, b (eI x) en = some e1 ∧ ∀ Q : PyData → Prop, (∀ y, P x y → Q (eb y)) → F e1 Q) (h : ∀ ys : List β, All2 P (rangeI n) ys → Q (ys.map eb)) : wlcGo b wYes F en (rangeD 0 n.toNat) Q := by
  rw [rangeD_I]
  exact wlc_all hb _ _ h
theorem rangeD_len {n : Int} (h : n ≤ 1000000) : (rangeD 0 n.toNat).length ≤ 1000000 := by
  simp [rangeD]
  omega
end DN
namespace Ty
open PySem PySem.Spec PyProof.Rows L2 DN
section
variable {α β γ ξ σ : Type} {ea : α → PyData} {eb : β → PyData} {ec : γ → PyData} {en : En} {f g : En → Option PyData}
def enumN : Nat → List α → List (Int × α)
  | _, [] => []
  | k, x :: r => ((k : Int), x) :: enumN (k + 1) r
theorem enum_map (e : α → PyData) : ∀ (k : Nat) (l : List α), enumD k (l.map e) = (enumN k l).map (e2 eI e)
  | _, [] => rfl
  | k, x :: r => by
    show PyData.tuple [.int (k : Nat), e x] :: enumD (k + 1) (r.map e) = _
    rw [enum_map e (k + 1) r]
    rfl
theorem i_enumR {e : α → PyData} {A : Option (List α)} (pa : f en = A.map (eR e)) : iEnumF f en = (A.bind fun x => some (enumN 0 x)).map (List.map (e2 eI e)) := by
  unfold iEnumF
  rw [pa]
  cases A with
  | none => rfl
  | some l => exact congrArg some (enum_map e 0 l)
end
end Ty
namespace DN
open PySem PySem.Spec PyProof.Rows L2
theorem Rep.fresh {K : PySem.W.Frag} {Ts : TsT} {He : Hp} {O : List Addr} {σ : St} {H H1 : Hp} {en : En} {a : Addr} {vs : List V} (r : Rep K Ts He O σ H en) (x : Xt H H1) (t : Tb Ts H1) (na : H a = none) (ha : H1 a = some (.lst vs)) :
    Rep K Ts He (a :: O) σ H1 en ∧ Xt (hide H O) (hide H1 (a :: O)) := by
  have r1 := r.go x t
  have back : Xt (hide H O) (hide H1 (a :: O)) := fun b o e => by
    obtain ⟨e1, e2⟩ := hide_some e
    have nb : b ∉ a :: O := fun z => by
      rcases List.mem_cons.mp z with z | z
      · rw [z, na] at e2; cases e2
      · exact e1 z
    rcases x b o e2 with q | ⟨ps, qs, e3, q⟩
    · exact .inl (hide_of nb q)
    · exact .inr ⟨ps, qs, e3, hide_of nb q⟩
  refine ⟨⟨r.len, fun j d h => let ⟨v, q1, q2⟩ := r.dat j d h; ⟨v, q1, Dp.mono back q2⟩, fun j es h => let ⟨a', vs', q1, q2, q3, q4, q5⟩ := r.own j es h; ⟨a', vs', q1, List.mem_cons_of_mem _ q2, q3, x.get a' _ q4 (fun _ z => nomatch z), DpAll.mono back q5⟩, r.inj, fun b hb => ?_, r1.ext, t⟩, back⟩
  rcases List.mem_cons.mp hb with z | z
  · rw [z, ha]
    exact ⟨by simp, fun ps z => nomatch z⟩
  · exact r1.occ b z
def rListOf (K : PySem.W.Frag) : List V → Hp → VK → Prop := fun vs H Q => ∃ b a xs, vs = [V.ref a] ∧ SqB K b H a xs ∧ ∀ p, H p = none → Q (.ref p) (upd H p (.lst xs))
theorem call_list_of {X : Cx} : CallR X (.type "list") (rListOf X.K) := by
  intro pins s σ H vs us Q I r h
  obtain ⟨b, a, xs, rfl, hs, q⟩ := h
  rw [Vals.ref1 r]
  have fin : ∀ (its : List Value) (T : String) (o : Obj) (n : Nat), (T = "list" ∨ T = "tuple") → s.heap.get? a = some o → o.cls = .type T → o.data = .seq its.toArray n → Vals xs its → xs.length ≤ sizeLine → wpAny (model X.prog X.w) X.A (call (.type "list") [.ref a]) (EP X pins σ Q) X.xe s := by
    intro its T o n hT ho hc hd rv hz
    refine call_list_seq a hT ho hc hd (fun h' c' hk hD => ?_) (by rw [List.size_toArray, ← rv.length]; exact hz)
    have I1 : Inv X pins σ (upd H s.heap.objs.size (.lst xs)) { s with heap := h' } :=
      I.laid (t' := s.toks) hk (Nat.le_refl _) (show ObjOk X.prog X.w _ _ _ (.lst xs) from ⟨hz, its, c', rv, hD⟩)
    exact ⟨.ref s.heap.objs.size, _, I1, rfl, q _ (I.hok.fresh (Nat.le_refl _))⟩
  cases b with
  | true =>
    obtain ⟨its, rv, pl, hz⟩ := I.list hs
    obtain ⟨o, ho, hc, n, hd⟩ := pl.isList
    exact fin its "list" o n (.inl rfl) ho hc hd rv hz
  | false =>
    obtain ⟨its, rv, pl, hz⟩ := I.tuple hs
    obtain ⟨o, ho, hc, n, hd⟩ := pl
    exact fin its "tuple" o n (.inr rfl) ho hc hd rv hz
def gList : PyData → Option PyData := fun d => (items d).map .list
def fList := f1 gList
end DN
set_option maxHeartbeats 400000
namespace PySem
end PySem
namespace DN
open PySem PySem.Spec PyProof.Rows L2
end DN
set_option maxHeartbeats 4000000
namespace DN
open PySem PySem.Spec PyProof.Rows L2 PySem.SeqAt
open AutoSeq1 (wpAny_loadPart')
open MeetsSeq MeetsSeq2 MeetsSeq3 SeqRoads2
theorem remove_loopAt (l : Addr) (items : Array Value) (n : Nat) (x : Value) (e : Value → Bool) (j : Nat) (hj : j < items.size) (hit : e items[j] = true) (k : Nat) (hs1 : items.size ≤ sizeLine) :
    ∀ i : Nat, j - i = k → i ≤ j → (∀ m (hm : m < items.size), i ≤ m → m < j → e items[m] = false) → Meets (Builtin.«list.remove.loop» ⟨[.ref l, x, rawInt i], []⟩)
      (fun A R s => s.heap.get? l = some { cls := .type "list", dict := none, data := .seq items n, slots := #[] } ∧ (∀ y, y ∈ items → EqAt A.in1 s y x (e y)) ∧ R (.ok (.ret .none)) { s with heap := s.heap.update l (Obj.mapSeq fun xs => xs.eraseIdxIfInBounds j) }) := by
  induction k with
  | zero =>
    intro i hk hij hno prog w A R s h
    obtain ⟨hp, g, d, tk, os⟩ := s; obtain ⟨hl, he, h⟩ := h
    have hij' : i = j := by omega
    subst hij'
    wp_walk using wpAny_loadPart' hl
    have hi : items[((i : Nat) : Int).toNat]? = some items[i] := by simp [hj]
    rw [hi]
    refine wpAny_bind (he _ (Array.getElem_mem hj) prog w _ _ ?_)
    rw [hit]
    have hz' : (items.eraseIdxIfInBounds i).size ≤ sizeLine + 1 := Nat.le_trans (size_erased items _) (Nat.le_succ_of_le hs1)
    wp_walk using (wpAny_updateSeq hl rfl (hz := hs1) (_hz' := hz')), wpAny_loadPart' hl
    simpa using h
  | succ k ih =>
    intro i hk hij hno prog w A R s h
    obtain ⟨hp, g, d, tk, os⟩ := s; obtain ⟨hl, he, h⟩ := h
    have hlt : i < items.size := by omega
    wp_walk using wpAny_loadPart' hl
    have hi : items[((i : Nat) : Int).toNat]? = some items[i] := by simp [hlt]
    have hc : ((i : Int) + 1) = ((i + 1 : Nat) : Int) := by push_cast; rfl
    rw [hi]
    refine wpAny_bind (he _ (Array.getElem_mem hlt) prog w _ _ ?_)
    rw [hno i hlt (Nat.le_refl _) (by omega)]
    wp_walk
    rw [hc]
    exact ⟨plainId_quiet plain_remove_loop _, codeAny_builtin entry_remove_loop (by
      rw [Around.under_plainId plain_remove_loop _]
      exact ih (i + 1) (by omega) (by omega) (fun m hm h1 h2 => hno m hm (by omega) h2) prog w A R _ ⟨hl, he, h⟩)⟩
theorem list_removeAt (l : Addr) (items : Array Value) (n : Nat) (x : Value) (e : Value → Bool) (j : Nat) (hj : j < items.size)
    (hit : e items[j] = true) (hno : ∀ m (hm : m < items.size), m < j → e items[m] = false) (hs1 : items.size ≤ sizeLine) :
    Meets (Builtin.«list.remove» ⟨[.ref l, x], []⟩)
      (fun A R s => s.heap.get? l = some { cls := .type "list", dict := none, data := .seq items n, slots := #[] } ∧ (∀ y, y ∈ items → EqAt A.in1 s y x (e y)) ∧ R (.ok (.ret .none)) { s with heap := s.heap.update l (Obj.mapSeq fun xs => xs.eraseIdxIfInBounds j) }) := by
  intro prog w A R s h
  obtain ⟨hp, g, d, tk, os⟩ := s; obtain ⟨hl, he, h⟩ := h
  wp_walk using wpAny_loadPart' hl
  exact ⟨plainId_quiet plain_remove_loop _, codeAny_builtin entry_remove_loop (by
    rw [Around.under_plainId plain_remove_loop _]
    exact remove_loopAt l items n x e j hj hit _ hs1 0 rfl (Nat.zero_le _) (fun m hm _ h2 => hno m hm h2) prog w A R _ ⟨hl, he, h⟩)⟩
theorem allL {K : PySem.W.Frag} {H : Hp} : ∀ {vs : List V} {ds : List PyData}, DpAll K H vs ds → PyData.canLayAll0 ds = true → L2.DpAll K H vs ds
  | [], [], .nil, _ => .nil
  | v :: vs, d :: ds, .cons q r, h => by
    rw [PyData.canLayAll0, Bool.and_eq_true] at h
    exact .cons (q.toC h.1) (allL r h.2)
def rRemD (K : PySem.W.Frag) : V → List V → Hp → VK → Prop := fun x xs H Q => ∃ (l : Addr) (vs : List V) (y : V) (d : PyData) (ds : List PyData) (j : Nat) (z : PyData), x = V.ref l ∧ xs = [y] ∧ H l = some (.lst vs) ∧ L2.DpAll K H vs ds ∧ L2.Dp K H y d ∧
  SeqAt.shaped (.list ds) = true ∧ SeqAt.shaped d = true ∧ ds[j]? = some z ∧ PyData.eqv z d = true ∧ (∀ (m : Nat) (z' : PyData), m < j → ds[m]? = some z' → PyData.eqv z' d = false) ∧ Q .non (upd H l (.lst (vs.eraseIdx j)))
theorem eraseV {vs : List V} {us : List Value} (r : Vals vs us) (j : Nat) : Vals (vs.eraseIdx j) (us.eraseIdx j) := r.eraseIdx j
theorem mt_removeD {X : Cx} (hu : X.A.units + 65 < cLine) : MtM X "list.remove" (rRemD X.K) := by
  intro pins s σ H x xs v us Q I rx rxs h
  obtain ⟨l, vs, y, d, ds, j, z, rfl, rfl, hH, ha, hy, sl, sd, hz, hzj, hno, q⟩ := h
  cases rx
  cases rxs with
  | cons ry rt =>
    rename_i uy ut
    cases rt
    obtain ⟨bs, r1⟩ := L2.Dp.reads I d y uy hy ry
    have hxs : PyData.canLayAll0 ds = true := SeqAt.canLay_of_shaped sl
    have hroom : X.A.units + 1 + min (PyData.depthAll ds) d.depth < cLine := room_in_shaped sd hu
    obtain ⟨sz, its, n, rv, hlen, ho⟩ := I.lstM hH
    obtain ⟨as, h4⟩ := L2.Dp.readsAll I ds _ its ha rv
    have hn : its.length = ds.length := SeqAt.ReadsAll.length ds its as h4
    have hmap : its.map (SeqAt.readOf s.heap) = ds := SeqAt.readsAll_map ds its as hxs h4
    have hvl := rv.length
    have hsl := sizeLine_eq
    obtain ⟨hjd, _⟩ := List.getElem?_eq_some_iff.mp hz
    have hjl : j < its.length := by omega
    have hj : j < its.toArray.size := by simpa using hjl
    have at_ : ∀ (m : Nat) (hm : m < its.toArray.size) (z' : PyData), ds[m]? = some z' → SeqAt.readOf s.heap its.toArray[m] = z' := by
      intro m hm z' hz'
      have hml : m < its.length := by simpa using hm
      rw [← hmap, List.getElem?_map, List.getElem?_eq_getElem hml] at hz'
      have e1 : SeqAt.readOf s.heap its[m] = z' := Option.some.inj (show some (SeqAt.readOf s.heap its[m]) = some z' from hz')
      simpa using e1
    refine call_meets PySem.F.slot_list_remove ⟨_, ho, rfl⟩ PySem.F.entry_list_remove (PySem.F.args_list_remove_2 _ _)
      (list_removeAt l its.toArray n uy (fun u => PyData.eqv (SeqAt.readOf s.heap u) d) j hj ?_ ?_ (by rw [List.size_toArray]; omega)) ⟨ho, SeqAt.items_eqAt (vs := its.toArray) (show ReadsAll s.heap its.toArray.toList ds as from h4) r1 hxs (SeqAt.canLay_of_shaped sd) hroom, ?_⟩
    · show PyData.eqv (SeqAt.readOf s.heap its.toArray[j]) d = true
      rw [at_ j hj z hz]
      exact hzj
    · intro m hm hmj
      have hmd : m < ds.length := by omega
      have hz' : ds[m]? = some ds[m] := List.getElem?_eq_getElem hmd
      show PyData.eqv (SeqAt.readOf s.heap its.toArray[m]) d = false
      rw [at_ m hm _ hz']
      exact hno m _ hmj hz'
    · refine ⟨.non, _, I.lset (its' := its.eraseIdx j) (t' := s.toks) hH ho ?_ (eraseV rv j) ?_, rfl, q⟩
      · show its.toArray.eraseIdxIfInBounds j = (its.eraseIdx j).toArray
        rw [List.eraseIdxIfInBounds_toArray]
      · have := List.length_eraseIdx_le vs j
        omega
def fstEq (d : PyData) (ds : List PyData) : Option Nat := ds.findIdx? fun z => PyData.eqv z d
def sRem (i : Nat) (f : En → Option PyData) : En → Option Fl := fun en => (f en).bind fun d => match en[i]? with
  | some (.own ds) => if (SeqAt.shaped d && SeqAt.shaped (.list ds)) = true then (fstEq d ds).map fun j => .nx (en.set i (.own (ds.eraseIdx j))) else none
  | _ => none
theorem DpAll.erase {K : PySem.W.Frag} {H : Hp} : ∀ {vs : List V} {ds : List PyData} (j : Nat), DpAll K H vs ds → DpAll K H (vs.eraseIdx j) (ds.eraseIdx j)
  | [], [], j, .nil => .nil
  | x :: vs, y :: ds, 0, .cons a t => t
  | x :: vs, y :: ds, j + 1, .cons a t => .cons a (DpAll.erase j t)
section
variable {X : Cx} {Ts : TsT} {pos : Pos} {e : Expr} {f : En → Option PyData}
theorem s_rem {k : Nat} (hr : Room k X.A) {i : Nat} {x : Str} {px ap : Pos} (ha : DE X Ts e f) (hN : X.N[i]? = some x := by rfl) (hv : Vis X.env.scope x := by first | exact Or.inl rfl | exact Or.inr (Or.inl rfl) | exact Or.inr (Or.inr rfl)) (hd : (x == ("__debug__" : Str)) = false := by decide) (hcd : (x == ("__classdict__" : Str)) = false := by decide) {cpos : Pos}
    (hbase : attributeBase (.Name x px) "remove" X.env (eval (.Name x px) X.env) = eval (.Name x px) X.env := by rfl)
    (hfew : ((backTo cpos (starEach [e] X.env)).all (fun x => !x.1) && (backToKw cpos (keywordEach [] X.env)).all (fun x => x.1.isSome) && decide ([e].length + ([] : List Keyword).length + (if ([] : List Keyword).isEmpty then 0 else 1) < 30)) = true := by rfl)
    (hline : (ap.endLine == cpos.line) = true := by rfl) (hs : starEach [e] X.env = (false, eval e X.env) :: starEach [] X.env := by rfl) (hplain : (backTo cpos (starEach [] X.env)).any (·.1) = false := by rfl)
    (hsw : swapsWith (.Call (.Attribute (.Name x px) "remove" ap) [e] [] cpos) none pos.line X.env = pure false := by rfl) :
    DS X Ts (.Expr (.Call (.Attribute (.Name x px) "remove" ap) [e] [] cpos) pos) (sRem i f) :=
  PS.imp (ps_expr (pe_bm (t := tCons (tD X.K Ts f) tNil) PySem.F.plainAttrs_list PySem.F.slot_list_remove PySem.F.type_list_remove (mt_removeD (by have := hr.units; have := hr.un; omega)) (pe_var hN hv hd hcd) (pa_cons ha pa_nil hs) hbase hfew hline hs hplain) hsw) fun D σ H ⟨He, O₀, Vz, en, r, rp, hf, kk⟩ => by
    unfold sRem at hf
    obtain ⟨d, h1, h2⟩ := Option.bind_eq_some_iff.mp hf
    split at h2
    · rename_i ds hd
      split at h2
      · rename_i hsh
        rw [Bool.and_eq_true] at hsh
        obtain ⟨j, hj, rfl⟩ := Option.map_eq_some_iff.mp h2
        obtain ⟨O, a1, a2, rp, xv⟩ := rp
        obtain ⟨a, vs, p1, p2, p3, p4, p5⟩ := rp.own i ds hd
        refine ⟨.ref a, p1, .inl ⟨rfl, _, .inl (.inl p4)⟩, tD.of rp h1 fun v H1 x1 r1 q1 => ?_⟩
        have p4' := x1.get a _ p4 (fun _ z => nomatch z)
        have p5' := DpAll.mono (hide_mono (O := O) x1) p5
        have hlay : PyData.canLayAll0 ds = true := SeqAt.canLay_of_shaped hsh.2
        unfold fstEq at hj
        rw [List.findIdx?_eq_some_iff_getElem] at hj
        obtain ⟨j1, j2, j3⟩ := hj
        refine ⟨a, vs, v, d, ds, j, ds[j], rfl, rfl, p4', allL (DpAll.mono hide_out p5') hlay, (Dp.mono hide_out q1).toL hsh.1, hsh.2, hsh.1, List.getElem?_eq_getElem j1, j2, fun m z' hm hz' => ?_, kk σ _ ⟨O, a1, a2, r1.own_set hd p1 p2 p3 p4' (DpAll.erase j p5'), xv.trans ((hide_mono x1).trans (hide_upd p2))⟩⟩
        obtain ⟨m1, m2⟩ := List.getElem?_eq_some_iff.mp hz'
        have := j3 m hm
        rw [m2] at this
        exact Bool.eq_false_iff.mpr this
      · cases h2
    · cases h2
end
end DN
namespace DN
open PySem PySem.Spec PyProof.Rows L2
theorem n_plus {X : Cx} {Ts : TsT} {pos : Pos} {e e2 : Expr} {f g : En → Option PyData} (ha : DE X Ts e f) (hb : DE X Ts e2 g) : DNew X Ts (.BinOp e .Add e2 pos) (fPlus f g) := PE.imp (pe_op op_plus ha hb) fun σ H Q ⟨He, O, en, d, rp, hf, kk⟩ => by
  obtain ⟨x, y, h1, h2, h3⟩ := f2_some hf
  refine tD.of rp h1 fun v H1 x1 r1 q1 => tD.of r1 h2 fun w H2 x2 r2 q2 => ?_
  have q1 := Dp.mono (hide_mono x2) q1
  cases x <;> cases y <;> simp only [gPlus] at h3 <;> try cases h3
  · split at h3
    · rename_i hl
      cases h3
      cases q1 with
      | lst s1 a1 =>
        cases q2 with
        | lst s2 a2 =>
          have l1 := DpAll.len a1
          have l2 := DpAll.len a2
          exact .inr (.inr ⟨_, _, _, _, rfl, rfl, sqL_mono (fun o n e => (hide_some e).2) s1, sqL_mono (fun o n e => (hide_some e).2) s2, by rw [l1, l2, sizeLine_eq]; omega, fun p np => kk p _ _ (x1.trans (x2.trans (Xt.upd np))) (r2.tabs.new np) ((x1.trans x2).there np) upd_same (DpAll.mono (fun b o e => by
            obtain ⟨e1, e2⟩ := hide_some e
            have hne := ne_of_none e2 np
            exact .inl (hide_of (fun z => (List.mem_cons.mp z).elim hne e1) (by rw [upd_ne hne]; exact e2))) (DpAll.app a1 a2))⟩)
    · cases h3
  · split at h3 <;> cases h3
theorem Rep.setAt {K : PySem.W.Frag} {Ts : TsT} {He : Hp} {O : List Addr} {σ : St} {H : Hp} {en : En} {i : Nat} {a : Addr} {vs : List V} {ds : List PyData} (rp : Rep K Ts He O σ H en) (hi : i < en.length) (hm : a ∈ O) (nE : He a = none) (ha : H a = some (.lst vs)) (q : DpAll K (hide H O) vs ds)
    (no : ∀ (j : Nat) (es : List PyData) (aa : Addr), en[j]? = some (Slot.own es) → σ[j]? = some (some (V.ref aa)) → aa ≠ a) : Rep K Ts He O (σ.set i (some (.ref a))) H (en.set i (.own ds)) := by
  have hs : i < σ.length := by rw [← rp.len]; exact hi
  refine ⟨by simp [rp.len], fun j d h => ?_, fun j es h => ?_, fun j k es es' aa h1 h2 h3 h4 => ?_, rp.occ, rp.ext, rp.tabs⟩
  · have hj : i ≠ j := fun z => by subst z; rw [List.getElem?_set_self hi] at h; cases h
    rw [List.getElem?_set_ne hj] at h ⊢
    exact rp.dat j d h
  · by_cases hj : i = j
    · subst hj
      rw [List.getElem?_set_self hi] at h
      cases h
      exact ⟨a, vs, List.getElem?_set_self hs, hm, nE, ha, q⟩
    · rw [List.getElem?_set_ne hj] at h ⊢
      exact rp.own j es h
  · by_cases hj : i = j
    · by_cases hk : i = k
      · exact hj.symm.trans hk
      · subst hj
        rw [List.getElem?_set_ne hk] at h2 h4
        rw [List.getElem?_set_self hs] at h3
        cases h3
        exact absurd rfl (no k es' a h2 h4)
    · rw [List.getElem?_set_ne hj] at h1 h3
      by_cases hk : i = k
      · subst hk
        rw [List.getElem?_set_self hs] at h4
        cases h4
        exact absurd rfl (no j es a h1 h3)
      · rw [List.getElem?_set_ne hk] at h2 h4
        exact rp.inj j k es es' aa h1 h2 h3 h4
def tWNew2 (K : PySem.W.Frag) (Ts : TsT) (ρ : Nat) (F : WF) : TE := fun σ H Q => ∃ He O en Qd, WRep K Ts ρ He O σ H en ∧ F en Qd ∧ ∀ ds a vs H', Qd (.list ds) → WRep K Ts ρ He (a :: O) σ H' en → (∀ (j : Nat) (es : List PyData) (aa : Addr), (∃ rw, (en.set ρ (Slot.own rw))[j]? = some (Slot.own es)) → σ[j]? = some (some (V.ref aa)) → aa ≠ a) → He a = none → H a = none → H' a = some (.lst vs) → DpAll K (hide H' (a :: O)) vs ds → Xt (hide H O) (hide H' (a :: O)) → (∀ r, σ[ρ]? = some (some (V.ref r)) → XtB r H H') → Q (.ref a) H'
section
variable {K : PySem.W.Frag} {X : Cx} {Ts : TsT} {ρ : Nat} {pos p : Pos} {e e2 tg iter elt : Expr} {es : List Expr} {f : En → Option PyData} {F G : WF} {it : En → (List PyData → Prop) → Prop} {b : PyData → En → Option En} {t : En → (Bool → Prop) → Prop}
theorem wlc_w2 {vs : List Nat} {σ : St} {H : Hp} {Q : VK} (hρ : ρ ∉ vs) (hbo : BOk ρ b) (hbv : ∀ (d : PyData) (en e1 : En) (j : Nat), j ∉ vs → b d en = some e1 → e1[j]? = en[j]?) (h : tWNew2 K Ts ρ (wLc it b t F vs) σ H Q) :
    tLc (tWI K Ts ρ it) (gWD K Ts ρ vs b) (tWT K Ts ρ t) (tW K Ts ρ F) vs σ H Q := by
  obtain ⟨He, O, en, Qd, rp, ⟨hno, hF⟩, kk⟩ := h
  refine ⟨He, O, en, _, rp, hF, fun ds J H1 ⟨hlen, hgo0⟩ r1 x1 gv D nD => ?_⟩
  have noD := r1.free nD
  obtain ⟨aρ, rwρ, wsρ, s1, s2, s3, s4, s5, s6⟩ := r1.at
  have hneρ : D ≠ aρ := fun z => by rw [← z, nD] at s4; cases s4
  have rD := r1.hid nD (o := .lst []) (fun _ z => nomatch z)
  have hDm : D ∈ D :: O := List.mem_cons_self
  have x0 : Xt (hide H1 O) (hide (upd H1 D (.lst [])) (D :: O)) := fun bb o e => by
    obtain ⟨e1, e2⟩ := hide_some e
    have hne := ne_of_none e2 nD
    exact .inl (hide_of (fun z => (List.mem_cons.mp z).elim hne e1) (by rw [upd_ne hne]; exact e2))
  have nDH : H D = none := by
    cases e : H D with
    | none => rfl
    | some o =>
      rcases x1.2 aρ s1 D o hneρ e with q | ⟨_, _, _, q⟩ <;> rw [q] at nD <;> cases nD
  have nDHe : He D = none := by
    obtain ⟨_, _, _, rp1⟩ := r1
    exact rp1.ext.there nD
  refine ⟨fun i m H2 => m = ds.length - i ∧ i ≤ ds.length ∧ Xt (hide H1 O) (hide H2 (D :: O)) ∧ XtB aρ H1 H2 ∧ WRep K Ts ρ He (D :: O) σ H2 en ∧ ∃ acc done, H2 D = some (.lst acc) ∧ DpAll K (hide H2 (D :: O)) acc done ∧ acc.length ≤ i ∧ wlcGo b t F (wipeE en vs) (ds.drop i) fun o => Qd (.list (done ++ o)),
    ⟨ds.length, by simp, Nat.zero_le _, x0, .of (Xt.upd nD), rD, [], [], upd_same, .nil, Nat.zero_le _, by simpa using hgo0⟩, fun i m H2 hW => ?_⟩
  obtain ⟨rfl, hi, x12, xb, r2, acc, done, hD, ha, hal, hgo⟩ := hW
  have occ2 : ∀ b ∈ D :: O, H2 b ≠ none ∧ ∀ ps, H2 b ≠ some (.tbl ps) := r2.occ
  obtain ⟨g1, g2, g3⟩ := gv (D :: O) H2 x12 (x12.trans hide_out) occ2
  by_cases hlt : i < ds.length
  · refine .inr ⟨g1 i hlt, fun H' => Xt (hide H1 O) (hide H' (D :: O)) ∧ XtB aρ H1 H' ∧ WRep K Ts ρ He (D :: O) σ H' en ∧ ∃ acc done, H' D = some (.lst acc) ∧ DpAll K (hide H' (D :: O)) acc done ∧ acc.length ≤ i + 1 ∧ wlcGo b t F (wipeE en vs) (ds.drop (i + 1)) fun o => Qd (.list (done ++ o)),
      fun H' ⟨a, c⟩ => ⟨ds.length - (i + 1), by omega, rfl, hlt, a, c⟩, fun x H3 hy => ?_⟩
    obtain ⟨d, hd, x23, t23, qd⟩ := g3 i x H3 hlt hy
    have r3 := r2.go x23 (t23 r2.tabs')
    rw [List.drop_eq_getElem_cons hlt] at hgo
    have hd' : ds[i] = d := by rw [List.getElem?_eq_getElem hlt] at hd; exact Option.some.inj hd
    rw [hd'] at hgo
    obtain ⟨e1, hb, hgo1⟩ := hgo
    refine ⟨He, D :: O, _, d, e1, r3.wipe hρ, qd, hb, fun σ2 r4 hw => ⟨hw.trans (wipe_wipe _ _), ?_⟩⟩
    have hsame : ∀ j, j ∉ vs → σ2[j]? = σ[j]? := fun j hj => by rw [← wipe_out hj, hw, wipe_wipe, wipe_out hj]
    have hown : ∀ (j : Nat) (es : List PyData), j ≠ ρ → en[j]? = some (Slot.own es) → e1[j]? = some (Slot.own es) ∧ σ2[j]? = σ[j]? := fun j es hj h1 => by
      have hjv : j ∉ vs := fun z => hno j z es h1
      exact ⟨by rw [hbv d _ e1 j hjv hb, wipeE_out hjv]; exact h1, hsame j hjv⟩
    have s1' : σ2[ρ]? = some (some (V.ref aρ)) := by rw [hsame ρ hρ]; exact s1
    have hD3 : H3 D = some (.lst acc) := x23.get D _ hD (fun _ z => nomatch z)
    refine ⟨He, D :: O, e1, _, r4, hgo1, fun k H4 hk r5 x34 => ?_⟩
    have hD4 : H4 D = some (.lst acc) := by
      rcases x34.2 aρ s1' D _ hneρ hD3 with q | ⟨_, _, z, _⟩
      · exact q
      · cases z
    have xh24 : Xt (hide H2 (D :: O)) (hide H4 (D :: O)) := (hide_mono x23).trans x34.1
    have xb4 : XtB aρ H1 H4 := (xb.trans (.of x23)).trans (x34.2 aρ s1')
    cases k with
    | false =>
      simp only [Bool.false_eq_true, if_false] at hk ⊢
      exact ⟨x12.trans xh24, xb4, r3.join r5 x34.1 (hsame ρ hρ) hown, acc, done, hD4, DpAll.mono xh24 ha, by omega, hk⟩
    | true =>
      simp only [if_true] at hk ⊢
      refine ⟨He, D :: O, e1, _, r5, hk, fun y v H5 hy5 r6 q6 x45 => ?_⟩
      have hD5 : H5 D = some (.lst acc) := by
        rcases x45.2 aρ s1' D _ hneρ hD4 with q | ⟨_, _, z, _⟩
        · exact q
        · cases z
      have xh25 := xh24.trans x45.1
      have xb5 : XtB aρ H1 H5 := xb4.trans (x45.2 aρ s1')
      have hu : Xt (hide H5 (D :: O)) (hide (upd H5 D (.lst (acc ++ [v]))) (D :: O)) := hide_upd hDm
      have r7 := r3.join r6 (x34.trans x45).1 (hsame ρ hρ) hown
      refine ⟨acc, hD5, by rw [sizeLine_eq]; omega, x12.trans (xh25.trans hu), fun bb o hb2 e => ?_, r7.grow hDm hD5 nDHe noD, acc ++ [v], done ++ [y], upd_same, DpAll.app (DpAll.mono (xh25.trans hu) ha) (.cons (Dp.mono hu q6) .nil), by rw [List.length_append]; simp; omega, by simpa using hy5⟩
      have hne : bb ≠ D := ne_of_none e nD
      rw [upd_ne hne]
      exact xb5 bb o hb2 e
  · have hie : i = ds.length := by omega
    subst hie
    rw [List.drop_of_length_le (Nat.le_refl _)] at hgo
    have hq : Qd (.list done) := by simpa [wlcGo] using hgo
    refine .inl ⟨g2, kk done D acc H2 hq r2 noD nDHe nDH hD ha (x1.1.trans x12) fun r hr => ?_⟩
    have : r = aρ := by rw [s1] at hr; cases hr; rfl
    subst this
    exact (x1.2 r s1).trans xb
end
abbrev WNew (X : Cx) (Ts : TsT) (ρ : Nat) (e : Expr) (F : WF) : Prop := PE X e (tWNew2 X.K Ts ρ F)
def lOwnW (i : Nat) (F : WF) : LF := fun en Q => F en fun d => ∃ ds, d = .list ds ∧ i < en.length ∧ Q (.nx (en.set i (.own ds)))
def lPut (ρ i : Nat) (g f : En → Option PyData) : LF := fun en Q => ∃ d k ds j, (∀ rw, f (en.set ρ (.own rw)) = some d) ∧ (∀ rw, g (en.set ρ (.own rw)) = some (.int k)) ∧ en[i]? = some (.own ds) ∧ ixN ds.length k = some j ∧ Q (.nx (en.set i (.own (ds.set j d))))
def lRel (i : Nat) : LF := fun en Q => ∃ ds, en[i]? = some (.own ds) ∧ Q (.nx (en.set i (.dat (.list ds))))
section
variable {X : Cx} {Ts : TsT} {ρ : Nat} {fin : Bool} {pos p : Pos} {st : Stmt} {rest : List Stmt} {F G : LF} {e elt tg iter : Expr} {ifs : List Expr} {scope : Scope} {own : List (Str × Nat)} {it : En → (List PyData → Prop) → Prop} {b : PyData → En → Option En} {t : En → (Bool → Prop) → Prop} {f : WF}
theorem wn_lc (hc : X.calm = true) (hN : X.N.Nodup) (hi : WI X Ts ρ tg iter it) (ok : BlkOk X.N X.env.scope scope own) (hρ : ρ ∉ own.map (·.2)) (hbo : BOk ρ b) (hbv : ∀ (d : PyData) (en e1 : En) (j : Nat), j ∉ own.map (·.2) → b d en = some e1 → e1[j]? = en[j]?)
    (hg : ∀ s H C cl fp, DG (BX X scope s H C cl fp) Ts tg (own.map (·.2)) b) (ht : ∀ s H C cl fp, PTs (BX X scope s H C cl fp) ifs (tWT X.K Ts ρ t))
    (he : ∀ s H C cl fp, WE (BX X scope s H C cl fp) Ts ρ elt f) (mf : Mn f) (mt : MnT t) (mi : MnI it) (hs : ∀ x, foldedSetIterable iter X.env x = pure x := by intro _; rfl) : WNew X Ts ρ (.ListComp elt [⟨tg, iter, ifs, 0⟩] scope pos) (wLc it b t f (own.map (·.2))) :=
  PE.imp (pe_lc hc hN hi ok (fun s H C cl fp => wg_of (hg s H C cl fp) hbo) (fun s H C cl fp => ht s H C cl fp) (fun s H C cl fp => he s H C cl fp) hs) fun σ H Q h => wlc_w2 hρ hbo hbv h
theorem v_ownW {i : Nat} {x : Str} {pos' : Pos} (hN : X.N.Nodup) (hi : X.N[i]? = some x) (hx : Loc X.env.scope x) (hiρ : i ≠ ρ) (he : WNew X Ts ρ e f) (hs : swapsWith e (some (.Name x pos')) pos.line X.env = pure false := by rfl) (hf : X.fn x = true ∨ X.env.scope.names.lookup x = some .local := by first | exact .inl rfl | exact .inr rfl | assumption) :
    VS X Ts ρ fin (.Assign [.Name x pos'] e pos) (lOwnW i f) := PS.imp (ps_set hN hi hx he hs hf) fun D σ H ⟨aa, He, O₀, Vz, en, Q, ⟨O, s1, rp, hA, xv⟩, hF, k, _⟩ => by
    refine ⟨He, O, en, _, rp, hF, fun ds a vs H' hq r' no nE na ha q x xb => ?_⟩
    obtain ⟨ds', h1, h2, h3⟩ := hq
    cases h1
    obtain ⟨hl, rw, hr, rp1⟩ := r'
    have r2 := rp1.setAt (i := i) (by simpa using h2) List.mem_cons_self nE ha q (fun j es aa g1 g2 => no j es aa ⟨rw, g1⟩ g2)
    rw [List.set_comm _ _ (Ne.symm hiρ)] at r2
    exact k _ _ H' h3 ⟨a :: O, fun b hb => ⟨List.mem_cons_of_mem _ (s1 b hb).1, (s1 b hb).2⟩, ⟨by simpa using hl, rw, hr, r2⟩, by rw [List.getElem?_set_ne hiρ]; exact hA, xv.trans x⟩
theorem v_put {i : Nat} {x : Str} {px pos' : Pos} {ie : Expr} {g f : En → Option PyData} (hiρ : i ≠ ρ) (he : DE X Ts e f) (hi : DE X Ts ie g) (hN : X.N[i]? = some x := by rfl) (hv : Vis X.env.scope x := by first | exact Or.inl rfl | exact Or.inr (Or.inl rfl) | exact Or.inr (Or.inr rfl)) (hd : (x == ("__debug__" : Str)) = false := by decide) (hcd : (x == ("__classdict__" : Str)) = false := by decide)
    (hs : swapsWithSole [.Subscript (.Name x px) ie pos'] e pos.line X.env = pure false := by rfl) (hw : swappedStores [.Subscript (.Name x px) ie pos'] e X.env = pure none := by rfl)
    (h1 : (assignEach [.Subscript (.Name x px) ie pos'] X.env).map (·.2) = [assign (.Subscript (.Name x px) ie pos') X.env] := by rfl)
    (ha : ∀ v, assign (.Subscript (.Name x px) ie pos') X.env v = (do
      let ov ← holding [v] (eval (.Name x px) X.env)
      let iv ← holding [v, ov] (eval ie X.env)
      standAt pos'
      holding [v, ov, iv] (setItem ov iv v)
      release [v, ov, iv] []) := by intro _; rfl) : VS X Ts ρ fin (.Assign [.Subscript (.Name x px) ie pos'] e pos) (lPut ρ i g f) :=
  PS.imp (ps_asg he (pg_sub (pe_var hN hv hd hcd) hi set_list ha) hs hw h1) fun D σ H ⟨aa, He, O₀, Vz, en, Q, ⟨O, s1, ⟨hl, rw, hr, rp⟩, hA, xv⟩, ⟨d, kk, ds, j, g1, g2, g3, g4, hq⟩, k, _⟩ => by
    have hk : (en.set ρ (.own rw))[i]? = some (.own ds) := by rw [List.getElem?_set_ne (Ne.symm hiρ)]; exact g3
    refine tD.of rp (g1 rw) fun v H1 x1 r1 q1 => ?_
    obtain ⟨a, vs, p1, p2, p3, p4, p5⟩ := r1.own i ds hk
    refine ⟨.ref a, p1, tD.of r1 (g2 rw) fun w H2 x2 r2 q2 => ?_⟩
    cases q2
    have p4' := x2.get a _ p4 (fun _ z => nomatch z)
    have q1' := Dp.mono (hide_mono (O := O) x2) q1
    have p5' := DpAll.mono (hide_mono (O := O) x2) p5
    have r3 := r2.put hk p1 p2 p3 p4' (DpAll.put j p5' q1')
    rw [List.set_comm _ _ (Ne.symm hiρ)] at r3
    exact ⟨a, vs, kk, j, rfl, rfl, p4', by rw [DpAll.len p5]; exact g4, k _ σ _ hq ⟨O, s1, ⟨by simpa using hl, rw, hr, r3⟩, hA, xv.trans ((hide_mono (x1.trans x2)).trans (hide_upd p2))⟩⟩
theorem Rep.rel {K : PySem.W.Frag} {Ts : TsT} {He : Hp} {O : List Addr} {σ : St} {H : Hp} {en : En} {i : Nat} {ds : List PyData} (rp : Rep K Ts He O σ H en) (hd : en[i]? = some (.own ds)) : ∃ O', (∀ b ∈ O', b ∈ O) ∧ (∀ b ∈ O, He b ≠ none → b ∈ O') ∧ Rep K Ts He O' σ H (en.set i (.dat (.list ds))) := by
  obtain ⟨a, vs, p1, p2, p3, p4, p5⟩ := rp.own i ds hd
  have hi : i < en.length := (List.getElem?_eq_some_iff.mp hd).1
  have hsub : ∀ b ∈ O.filter (fun b => decide (b ≠ a)), b ∈ O := fun b hb => (List.mem_filter.mp hb).1
  have nA : a ∉ O.filter (fun b => decide (b ≠ a)) := fun z => by simpa using (List.mem_filter.mp z).2
  have hs : Xt (hide H O) (hide H (O.filter (fun b => decide (b ≠ a)))) := hide_sub hsub
  refine ⟨O.filter (fun b => decide (b ≠ a)), hsub, fun b hb nb => List.mem_filter.mpr ⟨hb, decide_eq_true fun z => nb (by rw [z]; exact p3)⟩, ⟨by simp [rp.len], fun j d h => ?_, fun j es h => ?_, fun j k es es' aa h1 h2 h3 h4 => ?_, fun b hb => rp.occ b (hsub b hb), rp.ext, rp.tabs⟩⟩
  · by_cases hj : i = j
    · subst hj
      rw [List.getElem?_set_self hi] at h
      cases h
      exact ⟨.ref a, p1, .lst (.inl (.inl (hide_of nA p4))) (DpAll.mono hs p5)⟩
    · rw [List.getElem?_set_ne hj] at h
      obtain ⟨v, q1, q2⟩ := rp.dat j d h
      exact ⟨v, q1, Dp.mono hs q2⟩
  · have hj : i ≠ j := fun z => by subst z; rw [List.getElem?_set_self hi] at h; cases h
    rw [List.getElem?_set_ne hj] at h
    obtain ⟨a', vs', q1, q2, q3, q4, q5⟩ := rp.own j es h
    refine ⟨a', vs', q1, List.mem_filter.mpr ⟨q2, decide_eq_true fun z => hj ?_⟩, q3, q4, DpAll.mono hs q5⟩
    subst z
    exact rp.inj i j ds es a' hd h p1 q1
  · have hj : i ≠ j := fun z => by subst z; rw [List.getElem?_set_self hi] at h1; cases h1
    have hk : i ≠ k := fun z => by subst z; rw [List.getElem?_set_self hi] at h2; cases h2
    rw [List.getElem?_set_ne hj] at h1
    rw [List.getElem?_set_ne hk] at h2
    exact rp.inj j k es es' aa h1 h2 h3 h4
theorem v_rel (i : Nat) (hiρ : i ≠ ρ) (h : VSs X Ts ρ fin rest G) : VSs X Ts ρ fin rest (lSeq (lRel i) G) := PSs.imp h fun D σ H ⟨aa, He, O₀, Vz, en, Q, ⟨O, s1, ⟨hl, rw, hr, rp⟩, hA, xv⟩, hF, k, l⟩ => by
  obtain ⟨ds, hd, hQ⟩ := hF
  have hk : (en.set ρ (.own rw))[i]? = some (.own ds) := by rw [List.getElem?_set_ne (Ne.symm hiρ)]; exact hd
  obtain ⟨a, vs, p1, p2, p3, p4, p5⟩ := rp.own i ds hk
  have hne : a ≠ aa := fun z => by
    subst z
    exact hiρ (rp.inj i ρ ds rw a hk (by rw [List.getElem?_set_self hl]) p1 hA)
  obtain ⟨O', o1, o2, r2⟩ := rp.rel hk
  rw [List.set_comm _ _ (Ne.symm hiρ)] at r2
  refine ⟨aa, He, O₀, Vz, _, Q, ⟨O', fun b hb => ⟨?_, (s1 b hb).2⟩, ⟨by simpa using hl, rw, hr, r2⟩, hA, xv.trans (hide_sub o1)⟩, hQ, k, l⟩
  rcases (s1 b hb).2 with q | q
  · obtain ⟨aρ, vρ, w1, w2, _⟩ := r2.own ρ rw (by rw [List.getElem?_set_self (by simpa using hl)])
    rw [hA] at w1
    cases w1
    rw [q]
    exact w2
  · exact o2 b (s1 b hb).1 q
end
end DN
set_option maxHeartbeats 400000
namespace DN
open PySem PySem.Spec PyProof.Rows L2
theorem n_list {X : Cx} {Ts : TsT} {pos p : Pos} {e : Expr} {f : En → Option PyData} (hg : Gl X "list") (hm : X.mg "list" = none) (hv : bootBuiltins "list" = some (.type "list")) (ha : DB X Ts e f) (he : starEach [e] X.env = (false, eval e X.env) :: starEach [] X.env := by rfl) : DNew X Ts (.Call (.Name "list" p) [e] [] pos) (fList f) :=
  PE.imp (pe_callTy (t := tCons (tB X.K Ts f) tNil) call_list_of hg hm hv (pa_cons ha pa_nil he) (by decide) (by decide) he (by rfl)) fun σ H Q ⟨He, O, en, zs, rp, hf, kk⟩ => by
    obtain ⟨d, h1, h2⟩ := f1_some hf
    refine tB.of rp h1 fun v H1 x1 r1 q => ?_
    have fin : ∀ (p : Addr) (vs : List V), DpAll X.K (hide H1 O) vs zs → H1 p = none → Q (V.ref p) (upd H1 p (.lst vs)) := fun p vs q1 np =>
      kk p vs _ (x1.trans (Xt.upd np)) (r1.tabs.new np) (x1.there np) upd_same (DpAll.mono (fun b o e => by
        obtain ⟨e1, e2⟩ := hide_some e
        have hne := ne_of_none e2 np
        exact .inl (hide_of (fun z => (List.mem_cons.mp z).elim hne e1) (by rw [upd_ne hne]; exact e2))) q1)
    cases d <;> simp only [gList, items, Option.map_some, Option.map_none] at h2 <;> try cases h2
    · obtain ⟨a, vs, rfl, s1, qs⟩ := q.lst
      exact ⟨true, a, vs, rfl, s1, fun l nl => fin l vs qs nl⟩
    · rcases q with q | ⟨_, _, _, _, e, _⟩
      · cases q with
        | tup s a => exact ⟨false, _, _, rfl, sqT_mono (fun o n e => (hide_some e).2) s, fun l nl => fin l _ a nl⟩
      · cases e
end DN
set_option maxHeartbeats 4000000
namespace DN
open PySem PySem.Spec PyProof.Rows L2
def GivesX (K : PySem.W.Frag) (Ts : TsT) (J : It) (ds : List PyData) (H1 : Hp) (O : List Addr) : Prop :=
  ∀ O' H2, Xt H1 H2 → Xt (hide H1 O) (hide H2 O') → (∀ b ∈ O', H2 b ≠ none ∧ ∀ ps, H2 b ≠ some (.tbl ps)) → (∀ i, i < ds.length → J.go i H2) ∧ J.stop ds.length H2 ∧
    ∀ i x H3, i < ds.length → J.yld i H2 x H3 → ∃ d, ds[i]? = some d ∧ Xt H2 H3 ∧ (Tb Ts H2 → Tb Ts H3) ∧ Dp K (hide H3 O') x d
def tIX (K : PySem.W.Frag) (Ts : TsT) (f : En → Option (List PyData)) : TI := fun σ H R => ∃ He O en ds, Rep K Ts He O σ H en ∧ f en = some ds ∧ ∀ J H1, Xt H H1 → Tb Ts H1 → GivesX K Ts J ds H1 O → R J H1
abbrev DIX (X : Cx) (Ts : TsT) (tg iter : Expr) (f : En → Option (List PyData)) : Prop := PI X tg iter (tIX X.K Ts f)
theorem gives_listX {K : PySem.W.Frag} {Ts : TsT} {H1 : Hp} {O : List Addr} {l : Addr} {vs : List V} {ds : List PyData} (s : SqL K H1 l vs) (a : DpAll K (hide H1 O) vs ds) : GivesX K Ts (Itl K l) ds H1 O := fun O' H2 h2 h1 occ => by
  have s2 : SqL K H2 l vs := sqL_mono (fun o n e => h2.get _ o e n) s
  have a2 := DpAll.mono h1 a
  have hl := DpAll.len a
  refine ⟨fun i hi => ⟨vs, vs[i]'(by omega), s2, by simp [hl, hi]⟩, ⟨vs, s2, by omega⟩, fun i x H3 hi hy => ?_⟩
  obtain ⟨rfl, hx⟩ := hy
  obtain ⟨d, hd1, hd2⟩ := DpAll.get a2 (hx vs s2)
  exact ⟨d, hd1, Xt.refl _, id, hd2⟩
theorem gives_tupX {K : PySem.W.Frag} {Ts : TsT} {H1 : Hp} {O : List Addr} {l : Addr} {vs : List V} {ds : List PyData} (s : SqT K H1 l vs) (a : DpAll K (hide H1 O) vs ds) : GivesX K Ts (Itt K l) ds H1 O := fun O' H2 h2 h1 occ => by
  have s2 : SqT K H2 l vs := sqT_mono (fun o n e => h2.get _ o e n) s
  have a2 := DpAll.mono h1 a
  have hl := DpAll.len a
  refine ⟨fun i hi => ⟨vs, vs[i]'(by omega), s2, by simp [hl, hi]⟩, ⟨vs, s2, by omega⟩, fun i x H3 hi hy => ?_⟩
  obtain ⟨rfl, hx⟩ := hy
  obtain ⟨d, hd1, hd2⟩ := DpAll.get a2 (hx vs s2)
  exact ⟨d, hd1, Xt.refl _, id, hd2⟩
theorem di_ownX {X : Cx} {Ts : TsT} {tg e : Expr} {f : En → Option PyData} (h : DB X Ts e f) : DIX X Ts tg e (iSeq f) := PI.imp (pi_sq h) fun σ H R ⟨He, O, en, ds, rp, hf, kk⟩ => by
  unfold iSeq at hf
  obtain ⟨d, h1, h2⟩ := Option.bind_eq_some_iff.mp hf
  refine tB.of rp h1 fun v H1 x1 r1 q => ?_
  cases d <;> simp only [items] at h2 <;> cases h2
  · obtain ⟨a, vs, rfl, s, qs⟩ := q.lst
    exact .inl ⟨_, rfl, ⟨_, s⟩, kk _ H1 x1 r1.tabs (gives_listX s qs)⟩
  · obtain ⟨a, vs, rfl, s, qs⟩ := q.tup
    exact .inr ⟨_, rfl, ⟨_, s⟩, kk _ H1 x1 r1.tabs (gives_tupX s qs)⟩
section
variable {Ts : TsT}
theorem lc_wX {K : PySem.W.Frag} {it : En → Option (List PyData)} {b : PyData → En → Option En} {t : En → Option Bool} {f : En → Option PyData} {vs : List Nat} {σ : St} {H : Hp} {Q : VK} (h : tNew K Ts (fLc it b t f vs) σ H Q) :
    tLc (tIX K Ts it) (gD K Ts vs b) (tT K Ts t) (tD K Ts f) vs σ H Q := by
  obtain ⟨He, O, en, out, rp, hf, kk⟩ := h
  unfold fLc at hf
  obtain ⟨ds, h1, hf1⟩ := Option.bind_eq_some_iff.mp hf
  clear hf
  split at hf1
  · rename_i hlen
    obtain ⟨out', h2, h3⟩ := Option.map_eq_some_iff.mp hf1
    cases h3
    refine ⟨He, O, en, ds, rp, h1, fun J H1 x1 t1 gv D nD => ?_⟩
    have nDH : H D = none := x1.there nD
    have r1 := rp.go x1 t1
    have rD : Rep K Ts He (D :: O) σ (upd H1 D (.lst [])) en := r1.hid nD (fun _ z => nomatch z)
    refine ⟨fun i m H2 => m = ds.length - i ∧ i ≤ ds.length ∧ Xt H1 H2 ∧ Rep K Ts He (D :: O) (L2.wipe σ vs) H2 (wipeE en vs) ∧ ∃ acc done rest, H2 D = some (.lst acc) ∧ DpAll K (hide H2 (D :: O)) acc done ∧ acc.length ≤ i ∧ lcGo b t f (wipeE en vs) (ds.drop i) = some rest ∧ out = done ++ rest,
      ⟨ds.length, by simp, Nat.zero_le _, Xt.upd nD, rD.wipe vs, [], [], out, upd_same, .nil, Nat.zero_le _, by simpa using h2, rfl⟩, fun i m H2 hW => ?_⟩
    obtain ⟨rfl, hi, x12, r2, acc, done, rest, hD, ha, hal, hgo, hout⟩ := hW
    have xh : Xt (hide H1 O) (hide H2 (D :: O)) := fun b o e => by
      obtain ⟨e1, e2⟩ := hide_some e
      have nb : b ∉ D :: O := fun z => by
        rcases List.mem_cons.mp z with z | z
        · rw [z, nD] at e2; cases e2
        · exact e1 z
      rcases x12 b o e2 with q | ⟨ps, qs, e3, q⟩
      · exact .inl (hide_of nb q)
      · exact .inr ⟨ps, qs, e3, hide_of nb q⟩
    obtain ⟨g1, g2, g3⟩ := gv (D :: O) H2 x12 xh r2.occ
    by_cases hlt : i < ds.length
    · refine .inr ⟨g1 i hlt, fun H' => Xt H1 H' ∧ Rep K Ts He (D :: O) (L2.wipe σ vs) H' (wipeE en vs) ∧ ∃ acc done rest, H' D = some (.lst acc) ∧ DpAll K (hide H' (D :: O)) acc done ∧ acc.length ≤ i + 1 ∧ lcGo b t f (wipeE en vs) (ds.drop (i + 1)) = some rest ∧ out = done ++ rest,
        fun H' ⟨a, c⟩ => ⟨ds.length - (i + 1), by omega, rfl, hlt, a, c⟩, fun x H3 hy => ?_⟩
      obtain ⟨d, hd, x23, t23, qd⟩ := g3 i x H3 hlt hy
      have r3 := r2.go x23 (t23 r2.tabs)
      rw [List.drop_eq_getElem_cons hlt] at hgo
      have hd' : ds[i] = d := by rw [List.getElem?_eq_getElem hlt] at hd; exact Option.some.inj hd
      rw [hd'] at hgo
      unfold lcGo at hgo
      obtain ⟨e1, hb, hgo1⟩ := Option.bind_eq_some_iff.mp hgo
      obtain ⟨k, ht, hgo2⟩ := Option.bind_eq_some_iff.mp hgo1
      clear hgo hgo1
      refine ⟨He, D :: O, _, d, e1, r3, qd, hb, fun σ2 r4 hw => ⟨hw.trans (wipe_wipe _ _), ?_⟩⟩
      refine tT.of r4 ht fun H4 x34 r5 => ?_
      have x14 : Xt H2 H4 := x23.trans x34
      have hD4 : H4 D = some (.lst acc) := x14.get D _ hD (fun _ z => nomatch z)
      have ha4 := DpAll.mono (hide_mono (O := D :: O) x14) ha
      have rw4 : Rep K Ts He (D :: O) (L2.wipe σ vs) H4 (wipeE en vs) := r2.go x14 r5.tabs
      cases k with
      | false =>
        simp only [Bool.false_eq_true, if_false] at hgo2 ⊢
        exact ⟨x12.trans x14, rw4, acc, done, rest, hD4, ha4, by omega, hgo2, hout⟩
      | true =>
        simp only [if_true] at hgo2 ⊢
        obtain ⟨y, hy1, hgo3⟩ := Option.bind_eq_some_iff.mp hgo2
        obtain ⟨rest', hr1, hr2⟩ := Option.map_eq_some_iff.mp hgo3
        subst hr2
        refine tD.of r5 hy1 fun v H5 x45 r6 q6 => ?_
        have x25 : Xt H2 H5 := x14.trans x45
        have hD5 : H5 D = some (.lst acc) := x25.get D _ hD (fun _ z => nomatch z)
        have ha5 := DpAll.mono (hide_mono (O := D :: O) x25) ha
        have hDm : D ∈ D :: O := List.mem_cons_self
        have hu : Xt (hide H5 (D :: O)) (hide (upd H5 D (.lst (acc ++ [v]))) (D :: O)) := hide_upd hDm
        refine ⟨acc, hD5, by rw [sizeLine_eq]; omega, ?_, ?_, acc ++ [v], done ++ [y], rest', upd_same, DpAll.app (DpAll.mono hu ha5) (.cons (Dp.mono hu q6) .nil), by rw [List.length_append]; simp; omega, hr1, by rw [hout]; simp⟩
        · intro b o e
          have hne : b ≠ D := ne_of_none e nD
          rw [upd_ne hne]
          exact (x12.trans x25) b o e
        · have rw5 : Rep K Ts He (D :: O) (L2.wipe σ vs) H5 (wipeE en vs) := r2.go x25 r6.tabs
          have nown : ∀ j es a, (wipeE en vs)[j]? = some (Slot.own es) → (L2.wipe σ vs)[j]? = some (some (V.ref a)) → a ≠ D := fun j es a h1 h2 z => by
            obtain ⟨a', vs', g1, g2, g3, g4, _⟩ := (r1.wipe vs).own j es h1
            rw [h2] at g1
            cases g1
            rw [z, nD] at g4
            cases g4
          refine ⟨rw5.len, fun j dd h => let ⟨u, p, q⟩ := rw5.dat j dd h; ⟨u, p, Dp.mono hu q⟩, fun j es h => ?_, rw5.inj, fun bb hb => ?_, ?_, rw5.tabs.upd fun u z => by rw [hD5] at z; cases z; exact lst_noc⟩
          · obtain ⟨a, ws, p1, p2, p3, p4, p5⟩ := rw5.own j es h
            exact ⟨a, ws, p1, p2, p3, by rw [upd_ne (nown j es a h p1)]; exact p4, DpAll.mono hu p5⟩
          · by_cases z : bb = D
            · rw [z, upd_same]
              exact ⟨by simp, fun ps q => nomatch q⟩
            · rw [upd_ne z]
              exact rw5.occ bb hb
          · intro bb o e
            have e1 := rw5.ext bb o e
            have hne : bb ≠ D := fun z => by
              have := (rp.ext.trans x1).there (b := bb) (by rw [z]; exact nD)
              rw [this] at e
              cases e
            rw [upd_ne hne]
            exact e1
    · have hie : i = ds.length := by omega
      subst hie
      rw [List.drop_of_length_le (Nat.le_refl _)] at hgo
      cases hgo
      rw [List.append_nil] at hout
      subst hout
      exact .inl ⟨g2, kk D acc H2 (x1.trans x12) r2.tabs nDH hD ha⟩
  · cases hf1
end
section
variable {X : Cx} {Ts : TsT} {pos : Pos} {elt tg iter : Expr} {ifs : List Expr} {scope : Scope} {own : List (Str × Nat)} {it : En → Option (List PyData)} {b : PyData → En → Option En} {t : En → Option Bool} {f : En → Option PyData}
theorem n_lcX (hc : X.calm = true) (hN : X.N.Nodup) (hi : DIX X Ts tg iter it) (ok : BlkOk X.N X.env.scope scope own)
    (hg : ∀ s H C cl fp, DG (BX X scope s H C cl fp) Ts tg (own.map (·.2)) b) (ht : ∀ s H C cl fp, PTs (BX X scope s H C cl fp) ifs (tT X.K Ts t))
    (he : ∀ s H C cl fp, DE (BX X scope s H C cl fp) Ts elt f) (hs : ∀ x, foldedSetIterable iter X.env x = pure x := by intro _; rfl) : DNew X Ts (.ListComp elt [⟨tg, iter, ifs, 0⟩] scope pos) (fLc it b t f (own.map (·.2))) :=
  PE.imp (pe_lc hc hN hi ok (fun s H C cl fp => hg s H C cl fp) (fun s H C cl fp => ht s H C cl fp) (fun s H C cl fp => he s H C cl fp) hs) fun σ H Q h => lc_wX h
theorem d_lcX (hc : X.calm = true) (hN : X.N.Nodup) (hi : DIX X Ts tg iter it) (ok : BlkOk X.N X.env.scope scope own)
    (hg : ∀ s H C cl fp, DG (BX X scope s H C cl fp) Ts tg (own.map (·.2)) b) (ht : ∀ s H C cl fp, PTs (BX X scope s H C cl fp) ifs (tT X.K Ts t))
    (he : ∀ s H C cl fp, DE (BX X scope s H C cl fp) Ts elt f) (hs : ∀ x, foldedSetIterable iter X.env x = pure x := by intro _; rfl) : DE X Ts (.ListComp elt [⟨tg, iter, ifs, 0⟩] scope pos) (fLc it b t f (own.map (·.2))) :=
  PE.imp (n_lcX hc hN hi ok hg ht he hs) fun σ H Q h => new_w h fLc_list
theorem s_ownLcX {i : Nat} {y : Str} {py : Pos} {spos : Pos} (hc : X.calm = true) (hN : X.N.Nodup) (hy : X.N[i]? = some y) (hyl : X.env.scope.names.lookup y = some .local)
    (hsw : swapsWith (.ListComp elt [⟨tg, iter, ifs, 0⟩] scope pos) (some (.Name y py)) spos.line X.env = pure true) (hi : DIX X Ts tg iter it) (ok : BlkOk X.N X.env.scope scope own)
    (hg : ∀ s H C cl fp, DG (BX X scope s H C cl fp) Ts tg (own.map (·.2)) b) (ht : ∀ s H C cl fp, PTs (BX X scope s H C cl fp) ifs (tT X.K Ts t))
    (he : ∀ s H C cl fp, DE (BX X scope s H C cl fp) Ts elt f) (hs : ∀ x, foldedSetIterable iter X.env x = pure x := by intro _; rfl) :
    DS X Ts (.Assign [.Name y py] (.ListComp elt [⟨tg, iter, ifs, 0⟩] scope pos) spos) (sOwn i (fLc it b t f (own.map (·.2)))) :=
  PS.imp (ps_setLc hc hN hy hyl hsw hi ok (fun s H C cl fp => hg s H C cl fp) (fun s H C cl fp => ht s H C cl fp) (fun s H C cl fp => he s H C cl fp) hs) fun D σ H h => lc_wX (own_w D σ H h)
end
def fFn (f i : Nat) : En → Option PyData := fun _ => some (.dict [(.int f, .int i)])
abbrev FnT := List (Str × Nat × (List PyData → Option PyData))
def fCallV (n : Nat) (tb : FnT) (i : Nat) (g : En → Option (List PyData)) : En → Option PyData := fun en => match en[i]? with
  | some (.dat (.dict [(.int a, .int j)])) => match tb[j.toNat]? with
    | some e => if a = (e.2.1 : Int) then fCall n e.2.2 g en else none
    | none => none
  | _ => none
def adM (mg : Str → Option Value) (x : Str) : Nat := match mg x with
  | some (.ref f) => f
  | _ => 0
theorem adM_ok {mg : Str → Option Value} {x : Str} {f : Nat} (h : mg x = some (.ref f)) : mg x = some (.ref (adM mg x)) := by
  unfold adM
  rw [h]
section
variable {X : Cx} {Ts : TsT} {p pos : Pos} {g : En → Option (List PyData)} {e : Expr} {es : List Expr}
def TbOk (X : Cx) (Ts : TsT) (j n : Nat) : FnT → Prop
  | [] => True
  | e :: r => (X.mg e.1 = some (.ref e.2.1) ∧ ∃ k, k ≤ j ∧ DFn X Ts k e.1 n e.2.2) ∧ TbOk X Ts j n r
theorem tb_nil {j n : Nat} : TbOk X Ts j n [] := trivial
theorem tb_cons {j k n f : Nat} {x : Str} {F : List PyData → Option PyData} {tb : FnT} (hg : X.mg x = some (.ref f)) (h : DFn X Ts k x n F) (hk : k ≤ j) (r : TbOk X Ts j n tb) : TbOk X Ts j n ((x, f, F) :: tb) := ⟨⟨hg, k, hk, h⟩, r⟩
theorem TbOk.get {j n : Nat} : ∀ {tb : FnT} {e : Str × Nat × (List PyData → Option PyData)}, TbOk X Ts j n tb → e ∈ tb → X.mg e.1 = some (.ref e.2.1) ∧ ∃ k, k ≤ j ∧ DFn X Ts k e.1 n e.2.2
  | [], _, _, m => nomatch m
  | _ :: _, _, h, m => (List.mem_cons.mp m).elim (fun w => w ▸ h.1) fun w => h.2.get w
theorem d_fn {x : Str} {f i : Nat} (hg : Gl X x) (hm : X.mg x = some (.ref f)) (hd : (x == ("__debug__" : Str)) = false := by decide) : DE X Ts (.Name x p) (fFn f i) :=
  PE.imp (pe_glob (v := .ref f) hg hm rfl hd) fun σ H Q ⟨He, O, en, d, r, hf, k⟩ => by cases hf; exact k _ H (Xt.refl H) r.tabs (.fn f i)
theorem d_callV {j i n : Nat} {x : Str} {tb : FnT} (hr : Room j X.A) (hT : TbOk X Ts j n tb) (hN : X.N[i]? = some x) (hv : Vis X.env.scope x) (ha : DA X Ts (e :: es) g)
    (hdb : (x == ("__debug__" : Str)) = false := by decide) (hcd : (x == ("__classdict__" : Str)) = false := by decide)
    (he : starEach (e :: es) X.env = (false, eval e X.env) :: starEach es X.env := by rfl) (hpl : (backTo pos (starEach es X.env)).any (·.1) = false := by rfl) : DE X Ts (.Call (.Name x p) (e :: es) [] pos) (fCallV n tb i g) := by
  refine ⟨fun pins s σ H Q I h => ?_⟩
  obtain ⟨He, O, en, d, rp, hf, kk⟩ := h
  unfold fCallV at hf
  split at hf
  · rename_i a jj hs
    split at hf
    · rename_i en1 ht
      split at hf
      · rename_i ea
        have hm := List.mem_of_getElem? ht
        obtain ⟨m1, k, hk, hF⟩ := hT.get hm
        obtain ⟨f, fd, ps, dvs, us, dd, G, h1, h2, h3, h3v, h3d, h4, h5⟩ := hF.ex
        rw [m1] at h1
        cases h1
        obtain ⟨v, v1, v2⟩ := rp.dat i _ hs
        cases v2
        rename_i f0 i0
        have e2 : f0 = en1.2.1 := Int.ofNat_inj.mp ea
        subst e2
        unfold fCall at hf
        obtain ⟨ds, q1, hf⟩ := Option.bind_eq_some_iff.mp hf
        split at hf
        · rename_i hl
          refine (pe_callL h4 (hr.mono hk) hN hv h2 h3 h3v pass0 ha hdb hcd he hpl).run pins s σ H Q I ⟨v1, ?_⟩
          refine tDs.of rp q1 fun vs H1 x1 r1 qs => ?_
          exact ⟨by rw [List.length_append, DpAll.len qs, hl, DpAll.len (h3d H1)], O, ds ++ dd, d, DpAll.app qs (h3d _), r1.tabs, r1.occ, h5 ds d hl hf, fun v H' x t q => kk v H' (x1.trans x) t q⟩
        · cases hf
      · cases hf
    · cases hf
  · cases hf
end
theorem par_eq {i j : Nat} {f g : En → Option PyData} : sPar i j f g = sBind (bTup [i, j]) (fTup (fCons f (fCons g fNil))) := by
  funext en
  unfold sPar sBind fTup fCons fNil
  cases f en with
  | none => rfl
  | some x =>
    cases g en with
    | none => rfl
    | some y =>
      show ((bName i x en).bind fun e1 => (bName j y e1).map Fl.nx) = (bTup [i, j] (.tuple [x, y]) en).map Fl.nx
      show _ = ((bName i x en).bind fun e1 => (bName j y e1).bind fun e2 => some e2).map Fl.nx
      cases bName i x en with
      | none => rfl
      | some e1 =>
        show (bName j y e1).map Fl.nx = ((bName j y e1).bind fun e2 => some e2).map Fl.nx
        cases bName j y e1 <;> rfl
theorem s_parK {X : Cx} {Ts : TsT} {pos : Pos} {i j : Nat} {tg e : Expr} {f g : En → Option PyData} (he : DE X Ts e (fTup (fCons f (fCons g fNil)))) (hg : DG X Ts tg [i, j] (bTup [i, j])) (hs : swapsWithSole [tg] e pos.line X.env = pure false := by rfl) (hw : swappedStores [tg] e X.env = pure none := by rfl)
    (h1 : (assignEach [tg] X.env).map (·.2) = [assign tg X.env] := by rfl) : DS X Ts (.Assign [tg] e pos) (sPar i j f g) := by
  rw [par_eq]
  exact s_bind he hg hs hw h1
end DN
namespace Ty
open PySem PySem.Spec PyProof.Rows L2 DN
def FUEL : Nat := 100000000
def F_is_whole : En → Option Fl := (sRet (fAnd (fIsi isInt (fVar 0)) (fNot (fIsi isBool (fVar 0)))))
def S_is_whole := runD 1 (F_is_whole)
def F_is_between (c_is_whole : List PyData → Option PyData) : En → Option Fl := (sRet (fAnd (fCall 1 c_is_whole (fCons (fVar 0) fNil)) (fChain gLe gLe (fVar 1) (fVar 0) (fVar 2))))
def S_is_between := runD 3 (F_is_between S_is_whole)
def F_ratio : En → Option Fl := (sSeq (sSet 2 (fGcd (fVar 0) (fVar 1))) (sRet (fTup (fCons (fDiv (fVar 0) (fVar 2)) (fCons (fDiv (fVar 1) (fVar 2)) fNil)))))
def S_ratio := runD 3 (F_ratio)
def F__law_ratio (w0 : En → Nat) : En → Option Fl := (sSeq (sPar 2 3 (fAbs (fVar 0)) (fAbs (fVar 1))) (sSeq (sWhile w0 (fT (fNe (fVar 3) (fLit (.int 0)))) (sPar 2 3 (fVar 3) (fMod (fInt (fVar 2)) (fVar 3)))) (sRet (fIf (fT (fGt (fVar 1) (fLit (.int 0)))) (fTup (fCons (fDiv (fVar 0) (fVar 2)) (fCons (fDiv (fVar 1) (fVar 2)) fNil))) (fTup (fCons (fSub (fLit (.int 0)) (fDiv (fVar 0) (fVar 2))) (fCons (fSub (fLit (.int 0)) (fDiv (fVar 1) (fVar 2))) fNil)))))))
def S__law_ratio := runD 4 (F__law_ratio (fun _ => FUEL))
def F__law_plus (c__law_ratio : List PyData → Option PyData) : En → Option Fl := (sRet (fCall 2 c__law_ratio (fCons (fPlus (fTimes (fIx (fVar 0) (fLit (.int 0))) (fIx (fVar 1) (fLit (.int 1)))) (fTimes (fIx (fVar 1) (fLit (.int 0))) (fIx (fVar 0) (fLit (.int 1))))) (fCons (fTimes (fIx (fVar 0) (fLit (.int 1))) (fIx (fVar 1) (fLit (.int 1)))) fNil))))
def S__law_plus := runD 2 (F__law_plus S__law_ratio)
def F__law_by (c__law_ratio : List PyData → Option PyData) : En → Option Fl := (sRet (fCall 2 c__law_ratio (fCons (fTimes (fIx (fVar 0) (fLit (.int 0))) (fIx (fVar 1) (fLit (.int 0)))) (fCons (fTimes (fIx (fVar 0) (fLit (.int 1))) (fIx (fVar 1) (fLit (.int 1)))) fNil))))
def S__law_by := runD 2 (F__law_by S__law_ratio)
def F__law_less : En → Option Fl := (sRet (fLt (fTimes (fIx (fVar 0) (fLit (.int 0))) (fIx (fVar 1) (fLit (.int 1)))) (fTimes (fIx (fVar 1) (fLit (.int 0))) (fIx (fVar 0) (fLit (.int 1))))))
def S__law_less := runD 2 (F__law_less)
def F__law_is_ratio (c__law_ratio : List PyData → Option PyData) : En → Option Fl := (sSeq (sIf (kNot (fT (fIsi isTup (fVar 0)))) (sRet (fLit (.bool false))) sNil) (sSeq (sIf (fT (fNe (fLen (fVar 0)) (fLit (.int 2)))) (sRet (fLit (.bool false))) sNil) (sSeq (sIf (fT (fNe (fLc (iSeq (fVar 0)) (bName 1) (kOr (kNot (fT (fIsi isInt (fVar 1)))) (fT (fIsi isBool (fVar 1)))) (fVar 1) [1]) (fLst fNil))) (sRet (fLit (.bool false))) sNil) (sRet (fAnd (fGt (fIx (fVar 0) (fLit (.int 1))) (fLit (.int 0))) (fEq (fCall 2 c__law_ratio (fCons (fIx (fVar 0) (fLit (.int 0))) (fCons (fIx (fVar 0) (fLit (.int 1))) fNil))) (fVar 0)))))))
def S__law_is_ratio := runD 2 (F__law_is_ratio S__law_ratio)
def N__law_ratio (top' : Int) (bottom' : Int) : Option (Int × Int) := ((some (abs1 top')).bind fun one_3 => (some (abs1 bottom')).bind fun other_4 => ((whileO (fun s5 => (some (!decide (s5.2 = (0 : Int))))) (fun s5 => ((some s5.2).bind fun one_12 => (modO s5.1 s5.2).bind fun other_13 => some (one_12, other_13))) FUEL (one_3, other_4)).bind fun s14 => (iteO (some (decide ((0 : Int) < bottom'))) ((divO top' s14.1).bind fun x22 => (divO bottom' s14.1).bind fun x23 => some (x22, x23)) (((some (0 : Int)).bind fun x26 => (divO top' s14.1).bind fun y27 => some (x26 - y27)).bind fun x32 => ((some (0 : Int)).bind fun x30 => (divO bottom' s14.1).bind fun y31 => some (x30 - y31)).bind fun x33 => some (x32, x33)))))
theorem t__law_ratio (top' : Int) (bottom' : Int) : S__law_ratio [eI top', eI bottom'] = (N__law_ratio top' bottom').map (e2 eI eI) := d_run (r_seq_par (i := 2) (j := 3) (A := (some (abs1 top'))) (B := (some (abs1 bottom'))) (t_f1 (A := (some top')) (h := (fun x1 => some (abs1 x1))) g_abs (t_var (i := 0) (e := eI) (v := top') rfl)) (t_f1 (A := (some bottom')) (h := (fun x2 => some (abs1 x2))) g_abs (t_var (i := 1) (e := eI) (v := bottom') rfl)) (lt_of rfl) (lt_of rfl) (fun one_3 other_4 => (r_seq_nx (env := (fun (s : (Int × Int)) (z : Unit) => [.dat (eI top'), .dat (eI bottom'), .dat (eI s.1), .dat (eI s.2)])) (A := (whileO (fun s5 => (some (!decide (s5.2 = (0 : Int))))) (fun s5 => ((some s5.2).bind fun one_12 => (modO s5.1 s5.2).bind fun other_13 => some (one_12, other_13))) FUEL (one_3, other_4))) (n_while (env := (fun (s : (Int × Int)) (z : Unit) => [.dat (eI top'), .dat (eI bottom'), .dat (eI s.1), .dat (eI s.2)])) (s := (one_3, other_4)) (z := ()) (T := fun s5 => (some (!decide (s5.2 = (0 : Int))))) (Bd := fun s5 => ((some s5.2).bind fun one_12 => (modO s5.1 s5.2).bind fun other_13 => some (one_12, other_13))) rfl (fun s5 z6 => (t_T (P := (some (!decide (s5.2 = (0 : Int))))) (t_f2 (A := (some s5.2)) (B := (some (0 : Int))) (h := (fun x7 y8 => some (!decide (x7 = y8)))) (g_ne enc_I rfl) (t_var (i := 3) (e := eI) (v := s5.2) rfl) (t_int (i := 0))))) (fun s5 z6 => (n_par  (K := fun one_12 other_13 => (one_12, other_13)) (i := 2) (j := 3) (A := (some s5.2)) (B := (modO s5.1 s5.2)) (t_var (i := 3) (e := eI) (v := s5.2) rfl) (t_f2 (A := (some s5.1)) (B := (some s5.2)) (h := (fun x10 y11 => (modO x10 y11))) g_mod (t_f1 (A := (some s5.1)) (h := (fun x9 => some x9)) g_int (t_var (i := 2) (e := eI) (v := s5.1) rfl)) (t_var (i := 3) (e := eI) (v := s5.2) rfl)) (lt_of rfl) (lt_of rfl) (fun one_12 other_13 => ⟨(), rfl⟩)))) (fun s14 z15 => (r_ret (A := (iteO (some (decide ((0 : Int) < bottom'))) ((divO top' s14.1).bind fun x22 => (divO bottom' s14.1).bind fun x23 => some (x22, x23)) (((some (0 : Int)).bind fun x26 => (divO top' s14.1).bind fun y27 => some (x26 - y27)).bind fun x32 => ((some (0 : Int)).bind fun x30 => (divO bottom' s14.1).bind fun y31 => some (x30 - y31)).bind fun x33 => some (x32, x33)))) (t_if (P := (some (decide ((0 : Int) < bottom')))) (A := ((divO top' s14.1).bind fun x22 => (divO bottom' s14.1).bind fun x23 => some (x22, x23))) (B := (((some (0 : Int)).bind fun x26 => (divO top' s14.1).bind fun y27 => some (x26 - y27)).bind fun x32 => ((some (0 : Int)).bind fun x30 => (divO bottom' s14.1).bind fun y31 => some (x30 - y31)).bind fun x33 => some (x32, x33))) (t_T (P := (some (decide ((0 : Int) < bottom')))) (t_f2 (A := (some bottom')) (B := (some (0 : Int))) (h := (fun x16 y17 => some (decide (y17 < x16)))) g_gt (t_var (i := 1) (e := eI) (v := bottom') rfl) (t_int (i := 0)))) (t_tup2 (A := (divO top' s14.1)) (B := (divO bottom' s14.1)) (t_f2 (A := (some top')) (B := (some s14.1)) (h := (fun x18 y19 => (divO x18 y19))) g_div (t_var (i := 0) (e := eI) (v := top') rfl) (t_var (i := 2) (e := eI) (v := s14.1) rfl)) (t_f2 (A := (some bottom')) (B := (some s14.1)) (h := (fun x20 y21 => (divO x20 y21))) g_div (t_var (i := 1) (e := eI) (v := bottom') rfl) (t_var (i := 2) (e := eI) (v := s14.1) rfl))) (t_tup2 (A := ((some (0 : Int)).bind fun x26 => (divO top' s14.1).bind fun y27 => some (x26 - y27))) (B := ((some (0 : Int)).bind fun x30 => (divO bottom' s14.1).bind fun y31 => some (x30 - y31))) (t_f2 (A := (some (0 : Int))) (B := (divO top' s14.1)) (h := (fun x26 y27 => some (x26 - y27))) g_sub (t_int (i := 0)) (t_f2 (A := (some top')) (B := (some s14.1)) (h := (fun x24 y25 => (divO x24 y25))) g_div (t_var (i := 0) (e := eI) (v := top') rfl) (t_var (i := 2) (e := eI) (v := s14.1) rfl))) (t_f2 (A := (some (0 : Int))) (B := (divO bottom' s14.1)) (h := (fun x30 y31 => some (x30 - y31))) g_sub (t_int (i := 0)) (t_f2 (A := (some bottom')) (B := (some s14.1)) (h := (fun x28 y29 => (divO x28 y29))) g_div (t_var (i := 1) (e := eI) (v := bottom') rfl) (t_var (i := 2) (e := eI) (v := s14.1) rfl))))))))))
def N__law_plus (one' : (Int × Int)) (other' : (Int × Int)) : Option (Int × Int) := (((mulO one'.1 other'.2).bind fun x9 => (mulO other'.1 one'.2).bind fun y10 => some (x9 + y10)).bind fun a15 => (mulO one'.2 other'.2).bind fun a16 => N__law_ratio a15 a16)
theorem t__law_plus (one' : (Int × Int)) (other' : (Int × Int)) : S__law_plus [(e2 eI eI) one', (e2 eI eI) other'] = (N__law_plus one' other').map (e2 eI eI) := d_run (r_ret (A := (((mulO one'.1 other'.2).bind fun x9 => (mulO other'.1 one'.2).bind fun y10 => some (x9 + y10)).bind fun a15 => (mulO one'.2 other'.2).bind fun a16 => N__law_ratio a15 a16)) (t_call2 (A := ((mulO one'.1 other'.2).bind fun x9 => (mulO other'.1 one'.2).bind fun y10 => some (x9 + y10))) (B := (mulO one'.2 other'.2)) t__law_ratio (t_f2 (A := (mulO one'.1 other'.2)) (B := (mulO other'.1 one'.2)) (h := (fun x9 y10 => some (x9 + y10))) g_add (t_f2 (A := (some one'.1)) (B := (some other'.2)) (h := (fun x3 y4 => (mulO x3 y4))) g_mul (t_ixc (A := (some one')) (k := 0) (pr := fun x1 => x1.1) (eb := eI) (fun _ => rfl) (t_var (i := 0) (e := (e2 eI eI)) (v := one') rfl)) (t_ixc (A := (some other')) (k := 1) (pr := fun x2 => x2.2) (eb := eI) (fun _ => rfl) (t_var (i := 1) (e := (e2 eI eI)) (v := other') rfl))) (t_f2 (A := (some other'.1)) (B := (some one'.2)) (h := (fun x7 y8 => (mulO x7 y8))) g_mul (t_ixc (A := (some other')) (k := 0) (pr := fun x5 => x5.1) (eb := eI) (fun _ => rfl) (t_var (i := 1) (e := (e2 eI eI)) (v := other') rfl)) (t_ixc (A := (some one')) (k := 1) (pr := fun x6 => x6.2) (eb := eI) (fun _ => rfl) (t_var (i := 0) (e := (e2 eI eI)) (v := one') rfl)))) (t_f2 (A := (some one'.2)) (B := (some other'.2)) (h := (fun x13 y14 => (mulO x13 y14))) g_mul (t_ixc (A := (some one')) (k := 1) (pr := fun x11 => x11.2) (eb := eI) (fun _ => rfl) (t_var (i := 0) (e := (e2 eI eI)) (v := one') rfl)) (t_ixc (A := (some other')) (k := 1) (pr := fun x12 => x12.2) (eb := eI) (fun _ => rfl) (t_var (i := 1) (e := (e2 eI eI)) (v := other') rfl)))))
def N__law_by (one' : (Int × Int)) (other' : (Int × Int)) : Option (Int × Int) := ((mulO one'.1 other'.1).bind fun a9 => (mulO one'.2 other'.2).bind fun a10 => N__law_ratio a9 a10)
theorem t__law_by (one' : (Int × Int)) (other' : (Int × Int)) : S__law_by [(e2 eI eI) one', (e2 eI eI) other'] = (N__law_by one' other').map (e2 eI eI) := d_run (r_ret (A := ((mulO one'.1 other'.1).bind fun a9 => (mulO one'.2 other'.2).bind fun a10 => N__law_ratio a9 a10)) (t_call2 (A := (mulO one'.1 other'.1)) (B := (mulO one'.2 other'.2)) t__law_ratio (t_f2 (A := (some one'.1)) (B := (some other'.1)) (h := (fun x3 y4 => (mulO x3 y4))) g_mul (t_ixc (A := (some one')) (k := 0) (pr := fun x1 => x1.1) (eb := eI) (fun _ => rfl) (t_var (i := 0) (e := (e2 eI eI)) (v := one') rfl)) (t_ixc (A := (some other')) (k := 0) (pr := fun x2 => x2.1) (eb := eI) (fun _ => rfl) (t_var (i := 1) (e := (e2 eI eI)) (v := other') rfl))) (t_f2 (A := (some one'.2)) (B := (some other'.2)) (h := (fun x7 y8 => (mulO x7 y8))) g_mul (t_ixc (A := (some one')) (k := 1) (pr := fun x5 => x5.2) (eb := eI) (fun _ => rfl) (t_var (i := 0) (e := (e2 eI eI)) (v := one') rfl)) (t_ixc (A := (some other')) (k := 1) (pr := fun x6 => x6.2) (eb := eI) (fun _ => rfl) (t_var (i := 1) (e := (e2 eI eI)) (v := other') rfl)))))
def N__law_less (one' : (Int × Int)) (other' : (Int × Int)) : Option Bool := ((mulO one'.1 other'.2).bind fun x9 => (mulO other'.1 one'.2).bind fun y10 => some (decide (x9 < y10)))
theorem t__law_less (one' : (Int × Int)) (other' : (Int × Int)) : S__law_less [(e2 eI eI) one', (e2 eI eI) other'] = (N__law_less one' other').map eB := d_run (r_ret (A := ((mulO one'.1 other'.2).bind fun x9 => (mulO other'.1 one'.2).bind fun y10 => some (decide (x9 < y10)))) (t_f2 (A := (mulO one'.1 other'.2)) (B := (mulO other'.1 one'.2)) (h := (fun x9 y10 => some (decide (x9 < y10)))) g_lt (t_f2 (A := (some one'.1)) (B := (some other'.2)) (h := (fun x3 y4 => (mulO x3 y4))) g_mul (t_ixc (A := (some one')) (k := 0) (pr := fun x1 => x1.1) (eb := eI) (fun _ => rfl) (t_var (i := 0) (e := (e2 eI eI)) (v := one') rfl)) (t_ixc (A := (some other')) (k := 1) (pr := fun x2 => x2.2) (eb := eI) (fun _ => rfl) (t_var (i := 1) (e := (e2 eI eI)) (v := other') rfl))) (t_f2 (A := (some other'.1)) (B := (some one'.2)) (h := (fun x7 y8 => (mulO x7 y8))) g_mul (t_ixc (A := (some other')) (k := 0) (pr := fun x5 => x5.1) (eb := eI) (fun _ => rfl) (t_var (i := 1) (e := (e2 eI eI)) (v := other') rfl)) (t_ixc (A := (some one')) (k := 1) (pr := fun x6 => x6.2) (eb := eI) (fun _ => rfl) (t_var (i := 0) (e := (e2 eI eI)) (v := one') rfl)))))
def N__law_sum (some' : (List (Int × Int))) : Option (Int × Int) := ((some ((0 : Int), (1 : Int))).bind fun found_1 => ((foldO (fun i4 s2 => ((N__law_plus s2 i4).bind fun found_5 => some found_5)) some' found_1).bind fun s6 => (some s6)))
def N__law_is_ratio (value' : (Int × Int)) : Option Bool := (iteO (some (!true)) (some false) (iteO (some (!decide ((2 : Int) = (2 : Int)))) (some false) (iteO ((compL (fun i7 => (some ((!true) || false))) (fun i7 => (some i7)) [value'.1, value'.2]).bind fun x11 => (some ([] : (List Int))).bind fun y12 => some (!decide (x11 = y12))) (some false) (andO (some (decide ((0 : Int) < value'.2))) ((N__law_ratio value'.1 value'.2).bind fun x18 => (some value').bind fun y19 => some (decide (x18 = y19)))))))
theorem t__law_is_ratio (value' : (Int × Int)) : S__law_is_ratio [(e2 eI eI) value'] = (N__law_is_ratio value').map eB := d_run (r_seq_ifret (P := (some (!true))) (A := (some false)) (t_knot (P := (some true)) (t_T (P := (some true)) (t_isi (A := (some value')) (b := fun x1 => true) (fun _ => rfl) (t_var (i := 0) (e := (e2 eI eI)) (v := value') rfl)))) (r_ret (A := (some false)) (t_bl (b := false))) (r_seq_ifret (P := (some (!decide ((2 : Int) = (2 : Int))))) (A := (some false)) (t_T (P := (some (!decide ((2 : Int) = (2 : Int))))) (t_f2 (A := (some (2 : Int))) (B := (some (2 : Int))) (h := (fun x4 y5 => some (!decide (x4 = y5)))) (g_ne enc_I rfl) (t_f1 (A := (some value')) (h := (fun x3 => some (2 : Int))) (fun _ => rfl) (t_var (i := 0) (e := (e2 eI eI)) (v := value') rfl)) (t_int (i := 2)))) (r_ret (A := (some false)) (t_bl (b := false))) (r_seq_ifret (P := ((compL (fun i7 => (some ((!true) || false))) (fun i7 => (some i7)) [value'.1, value'.2]).bind fun x11 => (some ([] : (List Int))).bind fun y12 => some (!decide (x11 = y12)))) (A := (some false)) (t_T (P := ((compL (fun i7 => (some ((!true) || false))) (fun i7 => (some i7)) [value'.1, value'.2]).bind fun x11 => (some ([] : (List Int))).bind fun y12 => some (!decide (x11 = y12)))) (t_f2 (A := (compL (fun i7 => (some ((!true) || false))) (fun i7 => (some i7)) [value'.1, value'.2])) (B := (some ([] : (List Int)))) (h := (fun x11 y12 => some (!decide (x11 = y12)))) (g_ne (enc_L enc_I) rfl) (t_lc (L := (some [value'.1, value'.2])) (ea := eI) (eb := eI) (T := fun i7 => (some ((!true) || false))) (Bf := fun i7 => (some i7)) (i_seq (A := (some value')) (e := eI) (u := fun x6 => [x6.1, x6.2]) (fun _ => rfl) (t_var (i := 0) (e := (e2 eI eI)) (v := value') rfl)) (fun i7 => ⟨[.dat ((e2 eI eI) value'), .dat (eI i7)], rfl, (t_korP (b := (!true)) (c := false) (t_knot (P := (some true)) (t_T (P := (some true)) (t_isi (A := (some i7)) (b := fun x8 => true) (fun _ => rfl) (t_var (i := 1) (e := eI) (v := i7) rfl)))) (t_T (P := (some false)) (t_isi (A := (some i7)) (b := fun x10 => false) (fun _ => rfl) (t_var (i := 1) (e := eI) (v := i7) rfl)))), (t_var (i := 1) (e := eI) (v := i7) rfl)⟩)) (t_lstL (L := some []) (t_nil (α := Int) (e := eI))))) (r_ret (A := (some false)) (t_bl (b := false))) (r_ret (A := (andO (some (decide ((0 : Int) < value'.2))) ((N__law_ratio value'.1 value'.2).bind fun x18 => (some value').bind fun y19 => some (decide (x18 = y19))))) (t_and (P := (some (decide ((0 : Int) < value'.2)))) (Q := ((N__law_ratio value'.1 value'.2).bind fun x18 => (some value').bind fun y19 => some (decide (x18 = y19)))) (t_f2 (A := (some value'.2)) (B := (some (0 : Int))) (h := (fun x14 y15 => some (decide (y15 < x14)))) g_gt (t_ixc (A := (some value')) (k := 1) (pr := fun x13 => x13.2) (eb := eI) (fun _ => rfl) (t_var (i := 0) (e := (e2 eI eI)) (v := value') rfl)) (t_int (i := 0))) (t_f2 (A := (N__law_ratio value'.1 value'.2)) (B := (some value')) (h := (fun x18 y19 => some (decide (x18 = y19)))) (g_eq (enc_2 enc_I enc_I) rfl) (t_call2 (A := (some value'.1)) (B := (some value'.2)) t__law_ratio (t_ixc (A := (some value')) (k := 0) (pr := fun x16 => x16.1) (eb := eI) (fun _ => rfl) (t_var (i := 0) (e := (e2 eI eI)) (v := value') rfl)) (t_ixc (A := (some value')) (k := 1) (pr := fun x17 => x17.2) (eb := eI) (fun _ => rfl) (t_var (i := 0) (e := (e2 eI eI)) (v := value') rfl))) (t_var (i := 0) (e := (e2 eI eI)) (v := value') rfl)))))))
def N_is_whole (value' : Int) : Option Bool := (some (true && (!false)))
theorem t_is_whole (value' : Int) : S_is_whole [eI value'] = (N_is_whole value').map eB := d_run (r_ret (A := (some (true && (!false)))) (t_andP (b := true) (c := (!false)) (t_isi (A := (some value')) (b := fun x1 => true) (fun _ => rfl) (t_var (i := 0) (e := eI) (v := value') rfl)) (t_not (P := (some false)) (t_isi (A := (some value')) (b := fun x2 => false) (fun _ => rfl) (t_var (i := 0) (e := eI) (v := value') rfl)))))
def N_is_between (value' : Int) (least' : Int) (most' : Int) : Option Bool := (andO (N_is_whole value') (some (decide (least' ≤ value') && decide (value' ≤ most'))))
theorem t_is_between (value' : Int) (least' : Int) (most' : Int) : S_is_between [eI value', eI least', eI most'] = (N_is_between value' least' most').map eB := d_run (r_ret (A := (andO (N_is_whole value') (some (decide (least' ≤ value') && decide (value' ≤ most'))))) (t_and (P := (N_is_whole value')) (Q := (some (decide (least' ≤ value') && decide (value' ≤ most')))) (t_call1 (A := (some value')) t_is_whole (t_var (i := 0) (e := eI) (v := value') rfl)) (t_chainP (x := least') (y := value') (z := most') (t_var (i := 1) (e := eI) (v := least') rfl) (t_var (i := 0) (e := eI) (v := value') rfl) (t_var (i := 2) (e := eI) (v := most') rfl))))
def N_ratio (top' : Int) (bottom' : Int) : Option (Int × Int) := ((some ((Nat.gcd (top').natAbs (bottom').natAbs : Nat) : Int)).bind fun shared_1 => ((divO top' shared_1).bind fun x8 => (divO bottom' shared_1).bind fun x9 => some (x8, x9)))
theorem t_ratio (top' : Int) (bottom' : Int) : S_ratio [eI top', eI bottom'] = (N_ratio top' bottom').map (e2 eI eI) := d_run (r_seq_set (i := 2) (A := (some ((Nat.gcd (top').natAbs (bottom').natAbs : Nat) : Int))) (t_f2 (A := (some top')) (B := (some bottom')) (h := (fun x2 y3 => some ((Nat.gcd (x2).natAbs (y3).natAbs : Nat) : Int))) g_gcd (t_var (i := 0) (e := eI) (v := top') rfl) (t_var (i := 1) (e := eI) (v := bottom') rfl)) (lt_of rfl) (fun shared_1 => (r_ret (A := ((divO top' shared_1).bind fun x8 => (divO bottom' shared_1).bind fun x9 => some (x8, x9))) (t_tup2 (A := (divO top' shared_1)) (B := (divO bottom' shared_1)) (t_f2 (A := (some top')) (B := (some shared_1)) (h := (fun x4 y5 => (divO x4 y5))) g_div (t_var (i := 0) (e := eI) (v := top') rfl) (t_var (i := 2) (e := eI) (v := shared_1) rfl)) (t_f2 (A := (some bottom')) (B := (some shared_1)) (h := (fun x6 y7 => (divO x6 y7))) g_div (t_var (i := 1) (e := eI) (v := bottom') rfl) (t_var (i := 2) (e := eI) (v := shared_1) rfl))))))
def F_is_ratio (c_is_whole : List PyData → Option PyData) : En → Option Fl := (sSeq (sIf (kNot (kAnd (fT (fIsi isTup (fVar 0))) (fT (fEq (fLen (fVar 0)) (fLit (.int 2)))))) (sRet (fLit (.bool false))) sNil) (sSeq (sBind (bTup [1, 2]) (fVar 0)) (sRet (fAnd (fCall 1 c_is_whole (fCons (fVar 1) fNil)) (fAnd (fCall 1 c_is_whole (fCons (fVar 2) fNil)) (fAnd (fGt (fVar 2) (fLit (.int 0))) (fEq (fGcd (fVar 1) (fVar 2)) (fLit (.int 1)))))))))
def S_is_ratio := runD 3 (F_is_ratio S_is_whole)
def F_plus (c_ratio : List PyData → Option PyData) : En → Option Fl := (sRet (fCall 2 c_ratio (fCons (fPlus (fTimes (fIx (fVar 0) (fLit (.int 0))) (fIx (fVar 1) (fLit (.int 1)))) (fTimes (fIx (fVar 1) (fLit (.int 0))) (fIx (fVar 0) (fLit (.int 1))))) (fCons (fTimes (fIx (fVar 0) (fLit (.int 1))) (fIx (fVar 1) (fLit (.int 1)))) fNil))))
def S_plus := runD 2 (F_plus S_ratio)
def F_minus (c_ratio : List PyData → Option PyData) : En → Option Fl := (sRet (fCall 2 c_ratio (fCons (fSub (fTimes (fIx (fVar 0) (fLit (.int 0))) (fIx (fVar 1) (fLit (.int 1)))) (fTimes (fIx (fVar 1) (fLit (.int 0))) (fIx (fVar 0) (fLit (.int 1))))) (fCons (fTimes (fIx (fVar 0) (fLit (.int 1))) (fIx (fVar 1) (fLit (.int 1)))) fNil))))
def S_minus := runD 2 (F_minus S_ratio)
def F_times (c_ratio : List PyData → Option PyData) : En → Option Fl := (sRet (fCall 2 c_ratio (fCons (fTimes (fIx (fVar 0) (fLit (.int 0))) (fIx (fVar 1) (fLit (.int 0)))) (fCons (fTimes (fIx (fVar 0) (fLit (.int 1))) (fIx (fVar 1) (fLit (.int 1)))) fNil))))
def S_times := runD 2 (F_times S_ratio)
def F_divided (c_ratio : List PyData → Option PyData) : En → Option Fl := (sSeq (sPar 2 3 (fTimes (fIx (fVar 0) (fLit (.int 0))) (fIx (fVar 1) (fLit (.int 1)))) (fTimes (fIx (fVar 0) (fLit (.int 1))) (fIx (fVar 1) (fLit (.int 0))))) (sRet (fIf (fT (fGt (fVar 3) (fLit (.int 0)))) (fCall 2 c_ratio (fCons (fVar 2) (fCons (fVar 3) fNil))) (fCall 2 c_ratio (fCons (fNeg (fVar 2)) (fCons (fNeg (fVar 3)) fNil))))))
def S_divided := runD 4 (F_divided S_ratio)
def N_plus (one' : (Int × Int)) (other' : (Int × Int)) : Option (Int × Int) := (((mulO one'.1 other'.2).bind fun x9 => (mulO other'.1 one'.2).bind fun y10 => some (x9 + y10)).bind fun a15 => (mulO one'.2 other'.2).bind fun a16 => N_ratio a15 a16)
theorem t_plus (one' : (Int × Int)) (other' : (Int × Int)) : S_plus [(e2 eI eI) one', (e2 eI eI) other'] = (N_plus one' other').map (e2 eI eI) := d_run (r_ret (A := (((mulO one'.1 other'.2).bind fun x9 => (mulO other'.1 one'.2).bind fun y10 => some (x9 + y10)).bind fun a15 => (mulO one'.2 other'.2).bind fun a16 => N_ratio a15 a16)) (t_call2 (A := ((mulO one'.1 other'.2).bind fun x9 => (mulO other'.1 one'.2).bind fun y10 => some (x9 + y10))) (B := (mulO one'.2 other'.2)) t_ratio (t_f2 (A := (mulO one'.1 other'.2)) (B := (mulO other'.1 one'.2)) (h := (fun x9 y10 => some (x9 + y10))) g_add (t_f2 (A := (some one'.1)) (B := (some other'.2)) (h := (fun x3 y4 => (mulO x3 y4))) g_mul (t_ixc (A := (some one')) (k := 0) (pr := fun x1 => x1.1) (eb := eI) (fun _ => rfl) (t_var (i := 0) (e := (e2 eI eI)) (v := one') rfl)) (t_ixc (A := (some other')) (k := 1) (pr := fun x2 => x2.2) (eb := eI) (fun _ => rfl) (t_var (i := 1) (e := (e2 eI eI)) (v := other') rfl))) (t_f2 (A := (some other'.1)) (B := (some one'.2)) (h := (fun x7 y8 => (mulO x7 y8))) g_mul (t_ixc (A := (some other')) (k := 0) (pr := fun x5 => x5.1) (eb := eI) (fun _ => rfl) (t_var (i := 1) (e := (e2 eI eI)) (v := other') rfl)) (t_ixc (A := (some one')) (k := 1) (pr := fun x6 => x6.2) (eb := eI) (fun _ => rfl) (t_var (i := 0) (e := (e2 eI eI)) (v := one') rfl)))) (t_f2 (A := (some one'.2)) (B := (some other'.2)) (h := (fun x13 y14 => (mulO x13 y14))) g_mul (t_ixc (A := (some one')) (k := 1) (pr := fun x11 => x11.2) (eb := eI) (fun _ => rfl) (t_var (i := 0) (e := (e2 eI eI)) (v := one') rfl)) (t_ixc (A := (some other')) (k := 1) (pr := fun x12 => x12.2) (eb := eI) (fun _ => rfl) (t_var (i := 1) (e := (e2 eI eI)) (v := other') rfl)))))
def N_minus (one' : (Int × Int)) (other' : (Int × Int)) : Option (Int × Int) := (((mulO one'.1 other'.2).bind fun x9 => (mulO other'.1 one'.2).bind fun y10 => some (x9 - y10)).bind fun a15 => (mulO one'.2 other'.2).bind fun a16 => N_ratio a15 a16)
theorem t_minus (one' : (Int × Int)) (other' : (Int × Int)) : S_minus [(e2 eI eI) one', (e2 eI eI) other'] = (N_minus one' other').map (e2 eI eI) := d_run (r_ret (A := (((mulO one'.1 other'.2).bind fun x9 => (mulO other'.1 one'.2).bind fun y10 => some (x9 - y10)).bind fun a15 => (mulO one'.2 other'.2).bind fun a16 => N_ratio a15 a16)) (t_call2 (A := ((mulO one'.1 other'.2).bind fun x9 => (mulO other'.1 one'.2).bind fun y10 => some (x9 - y10))) (B := (mulO one'.2 other'.2)) t_ratio (t_f2 (A := (mulO one'.1 other'.2)) (B := (mulO other'.1 one'.2)) (h := (fun x9 y10 => some (x9 - y10))) g_sub (t_f2 (A := (some one'.1)) (B := (some other'.2)) (h := (fun x3 y4 => (mulO x3 y4))) g_mul (t_ixc (A := (some one')) (k := 0) (pr := fun x1 => x1.1) (eb := eI) (fun _ => rfl) (t_var (i := 0) (e := (e2 eI eI)) (v := one') rfl)) (t_ixc (A := (some other')) (k := 1) (pr := fun x2 => x2.2) (eb := eI) (fun _ => rfl) (t_var (i := 1) (e := (e2 eI eI)) (v := other') rfl))) (t_f2 (A := (some other'.1)) (B := (some one'.2)) (h := (fun x7 y8 => (mulO x7 y8))) g_mul (t_ixc (A := (some other')) (k := 0) (pr := fun x5 => x5.1) (eb := eI) (fun _ => rfl) (t_var (i := 1) (e := (e2 eI eI)) (v := other') rfl)) (t_ixc (A := (some one')) (k := 1) (pr := fun x6 => x6.2) (eb := eI) (fun _ => rfl) (t_var (i := 0) (e := (e2 eI eI)) (v := one') rfl)))) (t_f2 (A := (some one'.2)) (B := (some other'.2)) (h := (fun x13 y14 => (mulO x13 y14))) g_mul (t_ixc (A := (some one')) (k := 1) (pr := fun x11 => x11.2) (eb := eI) (fun _ => rfl) (t_var (i := 0) (e := (e2 eI eI)) (v := one') rfl)) (t_ixc (A := (some other')) (k := 1) (pr := fun x12 => x12.2) (eb := eI) (fun _ => rfl) (t_var (i := 1) (e := (e2 eI eI)) (v := other') rfl)))))
def N_times (one' : (Int × Int)) (other' : (Int × Int)) : Option (Int × Int) := ((mulO one'.1 other'.1).bind fun a9 => (mulO one'.2 other'.2).bind fun a10 => N_ratio a9 a10)
theorem t_times (one' : (Int × Int)) (other' : (Int × Int)) : S_times [(e2 eI eI) one', (e2 eI eI) other'] = (N_times one' other').map (e2 eI eI) := d_run (r_ret (A := ((mulO one'.1 other'.1).bind fun a9 => (mulO one'.2 other'.2).bind fun a10 => N_ratio a9 a10)) (t_call2 (A := (mulO one'.1 other'.1)) (B := (mulO one'.2 other'.2)) t_ratio (t_f2 (A := (some one'.1)) (B := (some other'.1)) (h := (fun x3 y4 => (mulO x3 y4))) g_mul (t_ixc (A := (some one')) (k := 0) (pr := fun x1 => x1.1) (eb := eI) (fun _ => rfl) (t_var (i := 0) (e := (e2 eI eI)) (v := one') rfl)) (t_ixc (A := (some other')) (k := 0) (pr := fun x2 => x2.1) (eb := eI) (fun _ => rfl) (t_var (i := 1) (e := (e2 eI eI)) (v := other') rfl))) (t_f2 (A := (some one'.2)) (B := (some other'.2)) (h := (fun x7 y8 => (mulO x7 y8))) g_mul (t_ixc (A := (some one')) (k := 1) (pr := fun x5 => x5.2) (eb := eI) (fun _ => rfl) (t_var (i := 0) (e := (e2 eI eI)) (v := one') rfl)) (t_ixc (A := (some other')) (k := 1) (pr := fun x6 => x6.2) (eb := eI) (fun _ => rfl) (t_var (i := 1) (e := (e2 eI eI)) (v := other') rfl)))))
def N_divided (one' : (Int × Int)) (other' : (Int × Int)) : Option (Int × Int) := ((mulO one'.1 other'.2).bind fun top_9 => (mulO one'.2 other'.1).bind fun bottom_10 => (iteO (some (decide ((0 : Int) < bottom_10))) (N_ratio top_9 bottom_10) (N_ratio (-top_9) (-bottom_10))))
theorem t_divided (one' : (Int × Int)) (other' : (Int × Int)) : S_divided [(e2 eI eI) one', (e2 eI eI) other'] = (N_divided one' other').map (e2 eI eI) := d_run (r_seq_par (i := 2) (j := 3) (A := (mulO one'.1 other'.2)) (B := (mulO one'.2 other'.1)) (t_f2 (A := (some one'.1)) (B := (some other'.2)) (h := (fun x3 y4 => (mulO x3 y4))) g_mul (t_ixc (A := (some one')) (k := 0) (pr := fun x1 => x1.1) (eb := eI) (fun _ => rfl) (t_var (i := 0) (e := (e2 eI eI)) (v := one') rfl)) (t_ixc (A := (some other')) (k := 1) (pr := fun x2 => x2.2) (eb := eI) (fun _ => rfl) (t_var (i := 1) (e := (e2 eI eI)) (v := other') rfl))) (t_f2 (A := (some one'.2)) (B := (some other'.1)) (h := (fun x7 y8 => (mulO x7 y8))) g_mul (t_ixc (A := (some one')) (k := 1) (pr := fun x5 => x5.2) (eb := eI) (fun _ => rfl) (t_var (i := 0) (e := (e2 eI eI)) (v := one') rfl)) (t_ixc (A := (some other')) (k := 0) (pr := fun x6 => x6.1) (eb := eI) (fun _ => rfl) (t_var (i := 1) (e := (e2 eI eI)) (v := other') rfl))) (lt_of rfl) (lt_of rfl) (fun top_9 bottom_10 => (r_ret (A := (iteO (some (decide ((0 : Int) < bottom_10))) (N_ratio top_9 bottom_10) (N_ratio (-top_9) (-bottom_10)))) (t_if (P := (some (decide ((0 : Int) < bottom_10)))) (A := (N_ratio top_9 bottom_10)) (B := (N_ratio (-top_9) (-bottom_10))) (t_T (P := (some (decide ((0 : Int) < bottom_10)))) (t_f2 (A := (some bottom_10)) (B := (some (0 : Int))) (h := (fun x13 y14 => some (decide (y14 < x13)))) g_gt (t_var (i := 3) (e := eI) (v := bottom_10) rfl) (t_int (i := 0)))) (t_call2 (A := (some top_9)) (B := (some bottom_10)) t_ratio (t_var (i := 2) (e := eI) (v := top_9) rfl) (t_var (i := 3) (e := eI) (v := bottom_10) rfl)) (t_call2 (A := (some (-top_9))) (B := (some (-bottom_10))) t_ratio (t_f1 (A := (some top_9)) (h := (fun x15 => some (-x15))) g_neg (t_var (i := 2) (e := eI) (v := top_9) rfl)) (t_f1 (A := (some bottom_10)) (h := (fun x16 => some (-x16))) g_neg (t_var (i := 3) (e := eI) (v := bottom_10) rfl)))))))
def N_is_ratio (value' : (Int × Int)) : Option Bool := (iteO (some (!(true && (decide ((2 : Int) = (2 : Int)))))) (some false) ((some value').bind fun p6 => (andO (N_is_whole p6.1) (andO (N_is_whole p6.2) (some ((decide ((0 : Int) < p6.2)) && (decide (((Nat.gcd (p6.1).natAbs (p6.2).natAbs : Nat) : Int) = (1 : Int)))))))))
theorem t_is_ratio (value' : (Int × Int)) : S_is_ratio [(e2 eI eI) value'] = (N_is_ratio value').map eB := d_run (r_seq_ifret (P := (some (!(true && (decide ((2 : Int) = (2 : Int))))))) (A := (some false)) (t_knot (P := (some (true && (decide ((2 : Int) = (2 : Int)))))) (t_kandP (b := true) (c := (decide ((2 : Int) = (2 : Int)))) (t_T (P := (some true)) (t_isi (A := (some value')) (b := fun x1 => true) (fun _ => rfl) (t_var (i := 0) (e := (e2 eI eI)) (v := value') rfl))) (t_T (P := (some (decide ((2 : Int) = (2 : Int))))) (t_f2 (A := (some (2 : Int))) (B := (some (2 : Int))) (h := (fun x3 y4 => some (decide (x3 = y4)))) (g_eq enc_I rfl) (t_f1 (A := (some value')) (h := (fun x2 => some (2 : Int))) (fun _ => rfl) (t_var (i := 0) (e := (e2 eI eI)) (v := value') rfl)) (t_int (i := 2)))))) (r_ret (A := (some false)) (t_bl (b := false))) (r_seq_bind (A := (some value')) (envb := fun p6 => [.dat ((e2 eI eI) value'), .dat (eI p6.1), .dat (eI p6.2)]) (t_var (i := 0) (e := (e2 eI eI)) (v := value') rfl) (fun _ => rfl) (fun p6 => (r_ret (A := (andO (N_is_whole p6.1) (andO (N_is_whole p6.2) (some ((decide ((0 : Int) < p6.2)) && (decide (((Nat.gcd (p6.1).natAbs (p6.2).natAbs : Nat) : Int) = (1 : Int)))))))) (t_and (P := (N_is_whole p6.1)) (Q := (andO (N_is_whole p6.2) (some ((decide ((0 : Int) < p6.2)) && (decide (((Nat.gcd (p6.1).natAbs (p6.2).natAbs : Nat) : Int) = (1 : Int))))))) (t_call1 (A := (some p6.1)) t_is_whole (t_var (i := 1) (e := eI) (v := p6.1) rfl)) (t_and (P := (N_is_whole p6.2)) (Q := (some ((decide ((0 : Int) < p6.2)) && (decide (((Nat.gcd (p6.1).natAbs (p6.2).natAbs : Nat) : Int) = (1 : Int)))))) (t_call1 (A := (some p6.2)) t_is_whole (t_var (i := 2) (e := eI) (v := p6.2) rfl)) (t_andP (b := (decide ((0 : Int) < p6.2))) (c := (decide (((Nat.gcd (p6.1).natAbs (p6.2).natAbs : Nat) : Int) = (1 : Int)))) (t_f2 (A := (some p6.2)) (B := (some (0 : Int))) (h := (fun x9 y10 => some (decide (y10 < x9)))) g_gt (t_var (i := 2) (e := eI) (v := p6.2) rfl) (t_int (i := 0))) (t_f2 (A := (some ((Nat.gcd (p6.1).natAbs (p6.2).natAbs : Nat) : Int))) (B := (some (1 : Int))) (h := (fun x13 y14 => some (decide (x13 = y14)))) (g_eq enc_I rfl) (t_f2 (A := (some p6.1)) (B := (some p6.2)) (h := (fun x11 y12 => some ((Nat.gcd (x11).natAbs (y12).natAbs : Nat) : Int))) g_gcd (t_var (i := 1) (e := eI) (v := p6.1) rfl) (t_var (i := 2) (e := eI) (v := p6.2) rfl)) (t_int (i := 1))))))))))
end Ty
namespace ZL
open PySem PySem.Spec PyProof.Rows L2 DN
open Sem (wp)
structure ZlG (P : Nat → Array Value → Prop) (lo : Addr) (h : Heap) (as : List Addr) : Prop where
  rise : as.Pairwise (· < ·)
  above : ∀ a ∈ as, lo < a
  pairs : ∀ (j : Nat) (a : Addr), as[j]? = some a → ∃ vals, P j vals ∧ h.get? a = some { cls := .type "tuple", data := .seq vals }
theorem ZlG.there {P : Nat → Array Value → Prop} {lo : Addr} {h : Heap} {as : List Addr} (g : ZlG P lo h as) {a : Addr} (ha : a ∈ as) : a < h.objs.size := by
  obtain ⟨j, hj⟩ := List.mem_iff_getElem?.mp ha
  obtain ⟨_, _, e⟩ := g.pairs j a hj
  exact Heap.lt_size e
section
variable {prog : Program} {w : World} {A : Around} {z TI TO i1 i2 i3 a1 a2 a3 : Addr} {b1 b2 b3 : Bool} {xs ys zs : List Value}
def St2 (z TI TO i1 i2 a1 a2 : Addr) (b1 b2 : Bool) (xs ys : List Value) : Nat → Addr → Heap → Prop := fun i T h =>
  ((i = 0 ∧ IsZip h z TI TO .none ∧ ∃ u v, IsTupOf2 h TO u v) ∨ (0 < i ∧ ∃ f oT, IsZipHeld h z TI TO T f ∧ h.get? T = some oT ∧ T ≠ z ∧ T ≠ TO ∧ T ≠ i1 ∧ T ≠ i2)) ∧ IsTupOf2 h TI (.ref i1) (.ref i2) ∧ (ItB b1 h i1 a1 i ∧ IsB b1 h a1 xs.toArray) ∧ (ItB b2 h i2 a2 i ∧ IsB b2 h a2 ys.toArray)
def St3 (z TI TO i1 i2 i3 a1 a2 a3 : Addr) (b1 b2 b3 : Bool) (xs ys zs : List Value) : Nat → Addr → Heap → Prop := fun i T h =>
  ((i = 0 ∧ IsZip h z TI TO .none ∧ ∃ u v q, IsTupOf3 h TO u v q) ∨ (0 < i ∧ ∃ f oT, IsZipHeld h z TI TO T f ∧ h.get? T = some oT ∧ T ≠ z ∧ T ≠ TO ∧ T ≠ i1 ∧ T ≠ i2 ∧ T ≠ i3)) ∧ IsTupOf3 h TI (.ref i1) (.ref i2) (.ref i3) ∧ (ItB b1 h i1 a1 i ∧ IsB b1 h a1 xs.toArray) ∧ (ItB b2 h i2 a2 i ∧ IsB b2 h a2 ys.toArray) ∧ (ItB b3 h i3 a3 i ∧ IsB b3 h a3 zs.toArray)
end
end ZL
namespace DN
open PySem PySem.Spec PyProof.Rows L2 ZL
end DN
namespace Ty
open PySem PySem.Spec PyProof.Rows L2 DN
def bindJ {β σ : Type} (A : Option (β ⊕ σ)) (K : σ → Option β) : Option β := A.bind (outJ K)
theorem r_seq_bj {ξ σ ζ : Type} {en : En} {F G : En → Option Fl} {er : ξ → PyData} {env : σ → ζ → En} {A : Option (ξ ⊕ σ)} {K : σ → Option ξ} (p : JX (F en) A er env) (q : ∀ s z, G (env s z) = rtO er (K s)) : sSeq F G en = rtO er (bindJ A K) := r_seq_j p q
def F_is_row_of_ratios (c_is_ratio : List PyData → Option PyData) : En → Option Fl := (sSeq (sIf (kNot (kAnd (fT (fIsi isTup (fVar 0))) (fT (fEq (fLen (fVar 0)) (fVar 1))))) (sRet (fLit (.bool false))) sNil) (sRet (fAll true (iSeq (fVar 0)) (bName 2) (fAnd (fCall 1 c_is_ratio (fCons (fVar 2) fNil)) (fGe (fIx (fVar 2) (fLit (.int 0))) (fLit (.int 0)))) [2])))
def S_is_row_of_ratios := runD 3 (F_is_row_of_ratios S_is_ratio)
def N_is_row_of_ratios (value' : (List (Int × Int))) (count' : Int) : Option Bool := (iteO (some (!(true && (decide (((value').length : Int) = count'))))) (some false) (allO true (fun i6 => (andO (N_is_ratio i6) (some (decide ((0 : Int) ≤ i6.1))))) value'))
theorem t_is_row_of_ratios (value' : (List (Int × Int))) (count' : Int) : S_is_row_of_ratios [(eR (e2 eI eI)) value', eI count'] = (N_is_row_of_ratios value' count').map eB := d_run (r_seq_ifret (P := (some (!(true && (decide (((value').length : Int) = count')))))) (A := (some false)) (t_knot (P := (some (true && (decide (((value').length : Int) = count'))))) (t_kandP (b := true) (c := (decide (((value').length : Int) = count'))) (t_T (P := (some true)) (t_isi (A := (some value')) (b := fun x1 => true) (fun _ => rfl) (t_var (i := 0) (e := (eR (e2 eI eI))) (v := value') rfl))) (t_T (P := (some (decide (((value').length : Int) = count')))) (t_f2 (A := (some ((value').length : Int))) (B := (some count')) (h := (fun x3 y4 => some (decide (x3 = y4)))) (g_eq enc_I rfl) (t_f1 (A := (some value')) (h := (fun x2 => some ((x2).length : Int))) g_lenR (t_var (i := 0) (e := (eR (e2 eI eI))) (v := value') rfl)) (t_var (i := 1) (e := eI) (v := count') rfl))))) (r_ret (A := (some false)) (t_bl (b := false))) (r_ret (A := (allO true (fun i6 => (andO (N_is_ratio i6) (some (decide ((0 : Int) ≤ i6.1))))) value')) (t_all (L := (some value')) (ea := (e2 eI eI)) (Bf := fun i6 => (andO (N_is_ratio i6) (some (decide ((0 : Int) ≤ i6.1))))) (i_seqR (A := (some value')) (e := (e2 eI eI)) (t_var (i := 0) (e := (eR (e2 eI eI))) (v := value') rfl)) (fun i6 => ⟨[.dat ((eR (e2 eI eI)) value'), .dat (eI count'), .dat ((e2 eI eI) i6)], rfl, (t_and (P := (N_is_ratio i6)) (Q := (some (decide ((0 : Int) ≤ i6.1)))) (t_call1 (A := (some i6)) t_is_ratio (t_var (i := 2) (e := (e2 eI eI)) (v := i6) rfl)) (t_f2 (A := (some i6.1)) (B := (some (0 : Int))) (h := (fun x10 y11 => some (decide (y11 ≤ x10)))) g_ge (t_ixc (A := (some i6)) (k := 0) (pr := fun x7 => x7.1) (eb := eI) (fun _ => rfl) (t_var (i := 2) (e := (e2 eI eI)) (v := i6) rfl)) (t_int (i := 0))))⟩))))
def toldO {β : Type} (e : β → PyData) (n : Option β) (r : Option Bool) (ret : Str) : Option PyData := match n with
  | some y => some (e y)
  | none => if r = some true then some (.str ret) else none
theorem isT_map {S : List PyData → Option PyData} {ds : List PyData} {r : Option Bool} (h : S ds = r.map eB) : isT S ds = true ↔ r = some true := by
  unfold isT
  rw [h]
  cases r with
  | none => exact ⟨(fun z => nomatch z), (fun z => nomatch z)⟩
  | some b => cases b <;> simp [eB]
section
variable {α β γ ξ σ ζ : Type} {en : En} {f g : En → Option PyData} {ea : α → PyData} {eb : β → PyData} {ec : γ → PyData} {er : ξ → PyData} {A : Option α} {ret : Str} {S Sr : List PyData → Option PyData}
theorem told_one {ds : List PyData} {n : Option β} {r : Option Bool} (h : S ds = n.map eb) (hr : Sr ds = r.map eB) {a : En → Option (List PyData)} (ha : a en = some ds) (m : Nat) (hl : ds.length = m) : fTold m S (isT Sr) ret a en = toldO eb n r ret := by
  unfold fTold toldO
  rw [ha, Option.bind_some, if_pos hl, h]
  cases n with
  | some y => rfl
  | none =>
    show (if isT Sr ds = true then some (PyData.str ret) else none) = if r = some true then some (PyData.str ret) else none
    by_cases z : r = some true
    · rw [if_pos z, if_pos ((isT_map hr).mpr z)]
    · rw [if_neg z, if_neg (fun y => z ((isT_map hr).mp y))]
end
section
variable {α β γ ξ σ ζ : Type} {en : En} {f g h : En → Option PyData} {F G : En → Option Fl} {ea : α → PyData} {eb : β → PyData} {ec : γ → PyData} {er : ξ → PyData} {A : Option α} {B : Option β} {k : En → Option Bool} {P : Option Bool} {i j l : Nat} {env : σ → ζ → En}
theorem par_eq {d d' : PyData} (p : f en = some d) (p2 : g en = some d') (hi : i < en.length) (hj : j < en.length) : sSeq (sPar i j f g) G en = G ((en.set i (.dat d)).set j (.dat d')) := by
  unfold sSeq sPar bName
  rw [p, p2]
  simp only [Option.bind_some, hi, hj, if_true, List.length_set, Option.map_some]
end
end Ty
set_option maxHeartbeats 400000
namespace DN
open PySem PySem.Spec PyProof.Rows L2
end DN
set_option maxHeartbeats 1000000
namespace DN
open PySem PySem.Spec PyProof.Rows L2 LamX
end DN
set_option maxHeartbeats 3200000
namespace DN
open PySem PySem.Spec PyProof.Rows L2
end DN
set_option maxHeartbeats 4000000
namespace Ty
open PySem PySem.Spec PyProof.Rows L2 DN
def leU3 (a b : Int × Int × Bool) : Bool := decide (-a.1 ≤ -b.1)
def sortU3 (l : List (Int × Int × Bool)) : Option (List (Int × Int × Bool)) := if l.length ≤ 1000000 then some (l.mergeSort leU3) else none
universe u
def putO {α : Type} (l : List α) (k : Int) (x : α) : Option (List α) := (ixN l.length k).map fun j => l.set j x
section
variable {α β γ σ τ ζ ξ : Type} {en : En} {f g : En → Option PyData} {F G : En → Option Fl} {ea : α → PyData} {er : ξ → PyData} {i j : Nat} {env : σ → ζ → En}
theorem put_eq {A : Option α} {B : Option Int} {v : List α} (pa : f en = A.map ea) (pb : g en = B.map eI) (ho : en[i]? = some (.own (v.map ea))) : sPut i g f en = (A.bind fun x => B.bind fun k => putO v k x).map fun w => Fl.nx (en.set i (.own (w.map ea))) := by
  unfold sPut
  rw [pa, pb]
  cases A with
  | none => rfl
  | some a => cases B with
    | none => rfl
    | some k =>
      show (match PyData.int k, en[i]? with
        | .int k, some (.own ds) => (ixN ds.length k).map fun j => Fl.nx (en.set i (.own (ds.set j (ea a))))
        | _, _ => none) = (putO v k a).map _
      rw [ho]
      show (ixN (v.map ea).length k).map _ = (putO v k a).map _
      unfold putO
      rw [List.length_map]
      cases ixN v.length k with
      | none => rfl
      | some j => exact congrArg (fun z => some (Fl.nx (en.set i (.own z)))) (List.map_set).symm
theorem r_seq_put {A : Option α} {B : Option Int} {v : List α} {K : List α → Option ξ} (pa : f en = A.map ea) (pb : g en = B.map eI) (ho : en[i]? = some (.own (v.map ea))) (q : ∀ w : List α, G (en.set i (.own (w.map ea))) = rtO er (K w)) : sSeq (sPut i g f) G en = rtO er ((A.bind fun x => B.bind fun k => putO v k x).bind K) := by
  unfold sSeq
  rw [put_eq pa pb ho]
  cases (A.bind fun x => B.bind fun k => putO v k x) with
  | none => rfl
  | some w => exact q w
theorem g_anyL (l : List Bool) : gAny (eL eB l) = (some (l.any id)).map eB := by
  show (boolsOf (l.map eB)).map _ = _
  have : boolsOf (l.map eB) = some l := by
    induction l with
    | nil => rfl
    | cons x l ih =>
      show (boolsOf (l.map eB)).map (x :: ·) = _
      rw [ih]
      rfl
  rw [this]
  rfl
end
noncomputable def N_uses_of_water (curve' : (Int × Int × (List (Int × Int)))) (pairs' : (List (Int × Int))) (water' : Int) : Option (List (Int × Int × Bool)) := ((compL (fun (i3 : (Int × Int)) => (some true)) (fun (i3 : (Int × Int)) => (some (i3.1, i3.2, true))) curve'.2.2).bind fun held_1 => ((compL (fun (i5 : (Int × Int)) => (some true)) (fun (i5 : (Int × Int)) => (some (i5.2, i5.1, false))) pairs').bind fun sold_4 => (((catO held_1 sold_4).bind fun x10 => (some [((0 : Int), (water' + (1 : Int)), false)]).bind fun y11 => (catO x10 y11)).bind (fun x12 => (sortU3 x12)))))
noncomputable def N_best_hold (curve' : (Int × Int × (List (Int × Int)))) (pairs' : (List (Int × Int))) (water' : Int) : Option Int := ((some curve'.1).bind fun held_1 => ((some (water' - held_1)).bind fun left_3 => (((N_uses_of_water curve' pairs' water').bind fun l => foldO (fun i8 s6 => ((some (min2 s6.1 i8.2.1)).bind fun taken_9 => ((some taken_9).bind fun x14 => (fun left_15 => (iteO (some i8.2.2) (((some taken_9)).bind fun x16 => (fun held_17 => some (left_15, held_17)) (s6.2 + x16)) (some (left_15, s6.2)))) (s6.1 - x14)))) l (left_3, held_1)).bind fun s18 => (some s18.2))))
end Ty
namespace PySem
open Sem (wp)
structure Zp4 (z TI TO i1 i2 i3 i4 : Addr) (fp1 fp2 fp3 fp4 : List Addr) : Prop where
  a : TI ≠ z ∧ TO ≠ z ∧ TI ≠ TO
  t : TI ≠ i1 ∧ TI ≠ i2 ∧ TI ≠ i3 ∧ TI ≠ i4
  m : i1 ∈ fp1 ∧ i2 ∈ fp2 ∧ i3 ∈ fp3 ∧ i4 ∈ fp4
  f : z ∉ fp1 ∧ z ∉ fp2 ∧ z ∉ fp3 ∧ z ∉ fp4
  g : TO ∉ fp1 ∧ TO ∉ fp2 ∧ TO ∉ fp3 ∧ TO ∉ fp4
  s1_2 : i1 ∉ fp2
  s1_3 : i1 ∉ fp3
  s1_4 : i1 ∉ fp4
  s2_1 : i2 ∉ fp1
  s2_3 : i2 ∉ fp3
  s2_4 : i2 ∉ fp4
  s3_1 : i3 ∉ fp1
  s3_2 : i3 ∉ fp2
  s3_4 : i3 ∉ fp4
  s4_1 : i4 ∉ fp1
  s4_2 : i4 ∉ fp2
  s4_3 : i4 ∉ fp3
section
variable {prog : Program} {w : World} {A : Around} {E : Value → Shared → Prop} {s : Shared} {z TI TO i1 i2 i3 i4 : Addr} {fp1 fp2 fp3 fp4 : List Addr} {n1 n2 n3 n4 i : Nat} {P1 P2 P3 P4 : Nat → Value → Prop} {St1 St2 St3 St4 : Nat → Heap → Prop} {a1 a2 a3 a4 : Value}
theorem Zp4.zi1 (D : Zp4 z TI TO i1 i2 i3 i4 fp1 fp2 fp3 fp4) : z ≠ i1 ∧ TO ≠ i1 := ⟨fun e => D.f.1 (e ▸ D.m.1), fun e => D.g.1 (e ▸ D.m.1)⟩
theorem Zp4.zi2 (D : Zp4 z TI TO i1 i2 i3 i4 fp1 fp2 fp3 fp4) : z ≠ i2 ∧ TO ≠ i2 := ⟨fun e => D.f.2.1 (e ▸ D.m.2.1), fun e => D.g.2.1 (e ▸ D.m.2.1)⟩
end
end PySem
namespace DN
open PySem PySem.Spec PyProof.Rows L2
end DN
namespace Ty
open PySem PySem.Spec PyProof.Rows L2 DN
def F__law_alike (c__law_alike : List PyData → Option PyData) : En → Option Fl := (sSeq (sIf (fT (fIsi (fun d => isTup d || isLst d) (fVar 1))) (sSeq (sIf (kOr (kNot (fT (fIsi (fun d => isTup d || isLst d) (fVar 0)))) (fT (fNe (fIsi isLst (fVar 0)) (fIsi isLst (fVar 1))))) (sRet (fLit (.bool false))) sNil) (sSeq (sIf (fT (fNe (fLen (fVar 0)) (fLen (fVar 1)))) (sRet (fLit (.bool false))) sNil) (sRet (fEq (fLc (iRange1 (fLen (fVar 1))) (bName 2) (kNot (fT (fCall 2 c__law_alike (fCons (fIx (fVar 0) (fVar 2)) (fCons (fIx (fVar 1) (fVar 2)) fNil))))) (fVar 2) [2]) (fLst fNil))))) sNil) (sSeq (sIf (kOr (fT (fIsN (fVar 1) (fLit .none))) (fT (fIsi isStr (fVar 1)))) (sRet (fAnd (fEq (fVar 0) (fVar 1)) (fEq (fIsi isStr (fVar 0)) (fIsi isStr (fVar 1))))) sNil) (sRet (fAnd (fIsi isInt (fVar 0)) (fAnd (fEq (fIsi isBool (fVar 0)) (fIsi isBool (fVar 1))) (fEq (fVar 0) (fVar 1)))))))
def F__law_alike0 : En → Option Fl := (sSeq (sIf (fT (fIsi (fun d => isTup d || isLst d) (fVar 1))) sNever sNil) (sSeq (sIf (kOr (fT (fIsN (fVar 1) (fLit .none))) (fT (fIsi isStr (fVar 1)))) (sRet (fAnd (fEq (fVar 0) (fVar 1)) (fEq (fIsi isStr (fVar 0)) (fIsi isStr (fVar 1))))) sNil) (sRet (fAnd (fIsi isInt (fVar 0)) (fAnd (fEq (fIsi isBool (fVar 0)) (fIsi isBool (fVar 1))) (fEq (fVar 0) (fVar 1)))))))
def S__law_alike : Nat → List PyData → Option PyData
  | 0 => runD 3 F__law_alike0
  | n + 1 => runD 3 (F__law_alike (S__law_alike n))
def N__law_alike (rec : PyData → PyData → Option Bool) (found' : PyData) (due' : PyData) : Option Bool := (iteO (isiO (fun d => isTup d || isLst d) due') (iteO (orO ((isiO (fun d => isTup d || isLst d) found').bind fun b3 => some (!b3)) ((isiO isLst found').bind fun x6 => (isiO isLst due').bind fun y7 => some (!decide (x6 = y7)))) (some false) (iteO ((lenA found').bind fun x10 => (lenA due').bind fun y11 => some (!decide (x10 = y11))) (some false) ((((lenA due').bind range1O).bind fun l => compL (fun (i13 : Int) => (((ixA found' i13).bind fun a18 => (ixA due' i13).bind fun a19 => rec a18 a19).bind fun b20 => some (!b20))) (fun (i13 : Int) => (some i13)) l).bind fun x21 => (some ([] : (List Int))).bind fun y22 => some (decide (x21 = y22))))) (iteO (orO (some (isNone due')) (isiO isStr due')) (andO (eqO (eA found') (eA due')) ((isiO isStr found').bind fun x30 => (isiO isStr due').bind fun y31 => some (decide (x30 = y31)))) (andO (isiO isInt found') (andO ((isiO isBool found').bind fun x35 => (isiO isBool due').bind fun y36 => some (decide (x35 = y36))) (eqO (eA found') (eA due'))))))
theorem t__law_alike {S : List PyData → Option PyData} {rec : PyData → PyData → Option Bool} (hrec : ∀ x y, S [eA x, eA y] = (rec x y).map eB) (found' : PyData) (due' : PyData) : runD 3 (F__law_alike S) [eA found', eA due'] = (N__law_alike rec found' due').map eB := d_run (r_seq_ifret (P := (isiO (fun d => isTup d || isLst d) due')) (A := (iteO (orO ((isiO (fun d => isTup d || isLst d) found').bind fun b3 => some (!b3)) ((isiO isLst found').bind fun x6 => (isiO isLst due').bind fun y7 => some (!decide (x6 = y7)))) (some false) (iteO ((lenA found').bind fun x10 => (lenA due').bind fun y11 => some (!decide (x10 = y11))) (some false) ((((lenA due').bind range1O).bind fun l => compL (fun (i13 : Int) => (((ixA found' i13).bind fun a18 => (ixA due' i13).bind fun a19 => rec a18 a19).bind fun b20 => some (!b20))) (fun (i13 : Int) => (some i13)) l).bind fun x21 => (some ([] : (List Int))).bind fun y22 => some (decide (x21 = y22)))))) (t_T (P := (isiO (fun d => isTup d || isLst d) due')) (t_isiA (q := (fun d => isTup d || isLst d)) (A := (some due')) (t_var (i := 1) (e := eA) (v := due') rfl))) (r_seq_ifret (P := (orO ((isiO (fun d => isTup d || isLst d) found').bind fun b3 => some (!b3)) ((isiO isLst found').bind fun x6 => (isiO isLst due').bind fun y7 => some (!decide (x6 = y7))))) (A := (some false)) (t_kor (P := ((isiO (fun d => isTup d || isLst d) found').bind fun b3 => some (!b3))) (Q := ((isiO isLst found').bind fun x6 => (isiO isLst due').bind fun y7 => some (!decide (x6 = y7)))) (t_knot (P := (isiO (fun d => isTup d || isLst d) found')) (t_T (P := (isiO (fun d => isTup d || isLst d) found')) (t_isiA (q := (fun d => isTup d || isLst d)) (A := (some found')) (t_var (i := 0) (e := eA) (v := found') rfl)))) (t_T (P := ((isiO isLst found').bind fun x6 => (isiO isLst due').bind fun y7 => some (!decide (x6 = y7)))) (t_f2 (A := (isiO isLst found')) (B := (isiO isLst due')) (h := (fun x6 y7 => some (!decide (x6 = y7)))) (g_ne enc_B rfl) (t_isiA (q := isLst) (A := (some found')) (t_var (i := 0) (e := eA) (v := found') rfl)) (t_isiA (q := isLst) (A := (some due')) (t_var (i := 1) (e := eA) (v := due') rfl))))) (r_ret (A := (some false)) (t_bl (b := false))) (r_seq_ifret (P := ((lenA found').bind fun x10 => (lenA due').bind fun y11 => some (!decide (x10 = y11)))) (A := (some false)) (t_T (P := ((lenA found').bind fun x10 => (lenA due').bind fun y11 => some (!decide (x10 = y11)))) (t_f2 (A := (lenA found')) (B := (lenA due')) (h := (fun x10 y11 => some (!decide (x10 = y11)))) (g_ne enc_I rfl) (t_f1 (A := (some found')) (h := (fun x8 => (lenA x8))) g_lenA (t_var (i := 0) (e := eA) (v := found') rfl)) (t_f1 (A := (some due')) (h := (fun x9 => (lenA x9))) g_lenA (t_var (i := 1) (e := eA) (v := due') rfl)))) (r_ret (A := (some false)) (t_bl (b := false))) (r_ret (A := ((((lenA due').bind range1O).bind fun l => compL (fun (i13 : Int) => (((ixA found' i13).bind fun a18 => (ixA due' i13).bind fun a19 => rec a18 a19).bind fun b20 => some (!b20))) (fun (i13 : Int) => (some i13)) l).bind fun x21 => (some ([] : (List Int))).bind fun y22 => some (decide (x21 = y22)))) (t_f2 (A := (((lenA due').bind range1O).bind fun l => compL (fun (i13 : Int) => (((ixA found' i13).bind fun a18 => (ixA due' i13).bind fun a19 => rec a18 a19).bind fun b20 => some (!b20))) (fun (i13 : Int) => (some i13)) l)) (B := (some ([] : (List Int)))) (h := (fun x21 y22 => some (decide (x21 = y22)))) (g_eq (enc_L enc_I) rfl) (t_lc (L := ((lenA due').bind range1O)) (ea := eI) (eb := eI) (T := fun (i13 : Int) => (((ixA found' i13).bind fun a18 => (ixA due' i13).bind fun a19 => rec a18 a19).bind fun b20 => some (!b20))) (Bf := fun (i13 : Int) => (some i13)) (i_range1 (A := (lenA due')) (t_f1 (A := (some due')) (h := (fun x12 => (lenA x12))) g_lenA (t_var (i := 1) (e := eA) (v := due') rfl))) (fun i13 => ⟨[.dat (eA found'), .dat (eA due'), .dat (eI i13)], rfl, (t_knot (P := ((ixA found' i13).bind fun a18 => (ixA due' i13).bind fun a19 => rec a18 a19)) (t_T (P := ((ixA found' i13).bind fun a18 => (ixA due' i13).bind fun a19 => rec a18 a19)) (t_call2 (A := (ixA found' i13)) (B := (ixA due' i13)) (N := rec) hrec (t_f2 (A := (some found')) (B := (some i13)) (h := (fun x14 y15 => (ixA x14 y15))) g_ixA (t_var (i := 0) (e := eA) (v := found') rfl) (t_var (i := 2) (e := eI) (v := i13) rfl)) (t_f2 (A := (some due')) (B := (some i13)) (h := (fun x16 y17 => (ixA x16 y17))) g_ixA (t_var (i := 1) (e := eA) (v := due') rfl) (t_var (i := 2) (e := eI) (v := i13) rfl))))), (t_var (i := 2) (e := eI) (v := i13) rfl)⟩)) (t_lstL (L := some []) (t_nil (α := Int) (e := eI))))))) (r_seq_ifret (P := (orO (some (isNone due')) (isiO isStr due'))) (A := (andO (eqO (eA found') (eA due')) ((isiO isStr found').bind fun x30 => (isiO isStr due').bind fun y31 => some (decide (x30 = y31))))) (t_kor (P := (some (isNone due'))) (Q := (isiO isStr due')) (t_T (P := (some (isNone due'))) (t_f2 (A := (some due')) (B := (some ())) (h := (fun x23 y24 => some (isNone x23))) g_isNA (t_var (i := 1) (e := eA) (v := due') rfl) t_non)) (t_T (P := (isiO isStr due')) (t_isiA (q := isStr) (A := (some due')) (t_var (i := 1) (e := eA) (v := due') rfl)))) (r_ret (A := (andO (eqO (eA found') (eA due')) ((isiO isStr found').bind fun x30 => (isiO isStr due').bind fun y31 => some (decide (x30 = y31))))) (t_and (P := (eqO (eA found') (eA due'))) (Q := ((isiO isStr found').bind fun x30 => (isiO isStr due').bind fun y31 => some (decide (x30 = y31)))) (t_f2 (A := (some found')) (B := (some due')) (h := (fun x26 y27 => (eqO (eA x26) (eA y27)))) g_eqA (t_var (i := 0) (e := eA) (v := found') rfl) (t_var (i := 1) (e := eA) (v := due') rfl)) (t_f2 (A := (isiO isStr found')) (B := (isiO isStr due')) (h := (fun x30 y31 => some (decide (x30 = y31)))) (g_eq enc_B rfl) (t_isiA (q := isStr) (A := (some found')) (t_var (i := 0) (e := eA) (v := found') rfl)) (t_isiA (q := isStr) (A := (some due')) (t_var (i := 1) (e := eA) (v := due') rfl))))) (r_ret (A := (andO (isiO isInt found') (andO ((isiO isBool found').bind fun x35 => (isiO isBool due').bind fun y36 => some (decide (x35 = y36))) (eqO (eA found') (eA due'))))) (t_and (P := (isiO isInt found')) (Q := (andO ((isiO isBool found').bind fun x35 => (isiO isBool due').bind fun y36 => some (decide (x35 = y36))) (eqO (eA found') (eA due')))) (t_isiA (q := isInt) (A := (some found')) (t_var (i := 0) (e := eA) (v := found') rfl)) (t_and (P := ((isiO isBool found').bind fun x35 => (isiO isBool due').bind fun y36 => some (decide (x35 = y36)))) (Q := (eqO (eA found') (eA due'))) (t_f2 (A := (isiO isBool found')) (B := (isiO isBool due')) (h := (fun x35 y36 => some (decide (x35 = y36)))) (g_eq enc_B rfl) (t_isiA (q := isBool) (A := (some found')) (t_var (i := 0) (e := eA) (v := found') rfl)) (t_isiA (q := isBool) (A := (some due')) (t_var (i := 1) (e := eA) (v := due') rfl))) (t_f2 (A := (some found')) (B := (some due')) (h := (fun x37 y38 => (eqO (eA x37) (eA y38)))) g_eqA (t_var (i := 0) (e := eA) (v := found') rfl) (t_var (i := 1) (e := eA) (v := due') rfl)))))))
def N__law_alike0 (found' : PyData) (due' : PyData) : Option Bool := (iteO (isiO (fun d => isTup d || isLst d) due') none (iteO (orO (some (isNone due')) (isiO isStr due')) (andO (eqO (eA found') (eA due')) ((isiO isStr found').bind fun x9 => (isiO isStr due').bind fun y10 => some (decide (x9 = y10)))) (andO (isiO isInt found') (andO ((isiO isBool found').bind fun x14 => (isiO isBool due').bind fun y15 => some (decide (x14 = y15))) (eqO (eA found') (eA due'))))))
theorem t__law_alike0 (found' : PyData) (due' : PyData) : runD 3 F__law_alike0 [eA found', eA due'] = (N__law_alike0 found' due').map eB := d_run (r_seq_ifret (P := (isiO (fun d => isTup d || isLst d) due')) (A := none) (t_T (P := (isiO (fun d => isTup d || isLst d) due')) (t_isiA (q := (fun d => isTup d || isLst d)) (A := (some due')) (t_var (i := 1) (e := eA) (v := due') rfl))) r_never (r_seq_ifret (P := (orO (some (isNone due')) (isiO isStr due'))) (A := (andO (eqO (eA found') (eA due')) ((isiO isStr found').bind fun x9 => (isiO isStr due').bind fun y10 => some (decide (x9 = y10))))) (t_kor (P := (some (isNone due'))) (Q := (isiO isStr due')) (t_T (P := (some (isNone due'))) (t_f2 (A := (some due')) (B := (some ())) (h := (fun x2 y3 => some (isNone x2))) g_isNA (t_var (i := 1) (e := eA) (v := due') rfl) t_non)) (t_T (P := (isiO isStr due')) (t_isiA (q := isStr) (A := (some due')) (t_var (i := 1) (e := eA) (v := due') rfl)))) (r_ret (A := (andO (eqO (eA found') (eA due')) ((isiO isStr found').bind fun x9 => (isiO isStr due').bind fun y10 => some (decide (x9 = y10))))) (t_and (P := (eqO (eA found') (eA due'))) (Q := ((isiO isStr found').bind fun x9 => (isiO isStr due').bind fun y10 => some (decide (x9 = y10)))) (t_f2 (A := (some found')) (B := (some due')) (h := (fun x5 y6 => (eqO (eA x5) (eA y6)))) g_eqA (t_var (i := 0) (e := eA) (v := found') rfl) (t_var (i := 1) (e := eA) (v := due') rfl)) (t_f2 (A := (isiO isStr found')) (B := (isiO isStr due')) (h := (fun x9 y10 => some (decide (x9 = y10)))) (g_eq enc_B rfl) (t_isiA (q := isStr) (A := (some found')) (t_var (i := 0) (e := eA) (v := found') rfl)) (t_isiA (q := isStr) (A := (some due')) (t_var (i := 1) (e := eA) (v := due') rfl))))) (r_ret (A := (andO (isiO isInt found') (andO ((isiO isBool found').bind fun x14 => (isiO isBool due').bind fun y15 => some (decide (x14 = y15))) (eqO (eA found') (eA due'))))) (t_and (P := (isiO isInt found')) (Q := (andO ((isiO isBool found').bind fun x14 => (isiO isBool due').bind fun y15 => some (decide (x14 = y15))) (eqO (eA found') (eA due')))) (t_isiA (q := isInt) (A := (some found')) (t_var (i := 0) (e := eA) (v := found') rfl)) (t_and (P := ((isiO isBool found').bind fun x14 => (isiO isBool due').bind fun y15 => some (decide (x14 = y15)))) (Q := (eqO (eA found') (eA due'))) (t_f2 (A := (isiO isBool found')) (B := (isiO isBool due')) (h := (fun x14 y15 => some (decide (x14 = y15)))) (g_eq enc_B rfl) (t_isiA (q := isBool) (A := (some found')) (t_var (i := 0) (e := eA) (v := found') rfl)) (t_isiA (q := isBool) (A := (some due')) (t_var (i := 1) (e := eA) (v := due') rfl))) (t_f2 (A := (some found')) (B := (some due')) (h := (fun x16 y17 => (eqO (eA x16) (eA y17)))) g_eqA (t_var (i := 0) (e := eA) (v := found') rfl) (t_var (i := 1) (e := eA) (v := due') rfl)))))))
def alikeR : Nat → PyData → PyData → Option Bool
  | 0 => N__law_alike0
  | n + 1 => N__law_alike (alikeR n)
theorem t_alike : ∀ (n : Nat) (x y : PyData), S__law_alike n [eA x, eA y] = (alikeR n x y).map eB
  | 0, x, y => t__law_alike0 x y
  | n + 1, x, y => t__law_alike (t_alike n) x y
theorem iteO_t {α : Type} (a b : Option α) : iteO (some true) a b = a := rfl
theorem iteO_f {α : Type} (a b : Option α) : iteO (some false) a b = b := rfl
theorem andO_t (a : Option Bool) : andO (some true) a = a := rfl
def Alk {α : Type} [DecidableEq α] (n : Nat) (e : α → PyData) : Prop := ∀ a b, alikeR n (e a) (e b) = some (decide (a = b))
theorem eqO_I (a b : Int) : eqO (.int a) (.int b) = some (decide (a = b)) := rfl
theorem alk_I : ∀ n, Alk n eI
  | 0 => fun a b => eqO_I a b
  | n + 1 => fun a b => eqO_I a b
theorem compO_filter {α : Type} {T : α → Option Bool} {t : α → Bool} : ∀ l : List α, (∀ x ∈ l, T x = some (t x)) → compO T (fun i => some i) l = some (l.filter t)
  | [], _ => rfl
  | x :: r, h => by
    rw [compO_cons, h x List.mem_cons_self, compO_filter r fun y hy => h y (List.mem_cons_of_mem _ hy)]
    cases e : t x with
    | true => simp [e]
    | false => simp [e]
theorem atI_nat {α : Type} {l : List α} {i : Nat} (h : i < l.length) : atI l (0 + (i : Int)) = some l[i] := by
  unfold atI
  rw [Int.zero_add, ixN_at h]
  exact List.getElem?_eq_getElem h
section
variable {α β γ δ : Type} [DecidableEq α] [DecidableEq β] [DecidableEq γ] [DecidableEq δ] {n : Nat} {ea : α → PyData} {eb : β → PyData} {ec : γ → PyData} {ed : δ → PyData}
theorem range_self (k : Nat) (h : k ≤ 1000000) : range1O (k : Int) = some ((List.range k).map fun i : Nat => (0 + (i : Int))) := by
  unfold range1O
  rw [if_pos (by omega), Int.toNat_natCast]
theorem alk_items {xs ys : List PyData} {p : Nat → Bool} (hl : xs.length = ys.length) (h64 : ys.length ≤ 1000000) (hp : ∀ i (h : i < ys.length), alikeR n (xs[i]'(by omega)) ys[i] = some (p i)) (mk : List PyData → PyData) (hmk : mk = .tuple ∨ mk = .list) :
    alikeR (n + 1) (mk xs) (mk ys) = some (decide (∀ i, i < ys.length → p i = true)) := by
  have key : ∀ (d1 d2 : PyData), items d1 = some xs → items d2 = some ys → (compL (fun i13 => (((ixA d1 i13).bind fun a18 => (ixA d2 i13).bind fun a19 => alikeR n a18 a19).bind fun b20 => some (!b20))) (fun i13 => (some i13)) ((List.range ys.length).map fun i : Nat => (0 + (i : Int)))).bind (fun x21 => (some ([] : (List Int))).bind fun y22 => some (decide (x21 = y22))) = some (decide (∀ i, i < ys.length → p i = true)) := by
    intro d1 d2 h1 h2
    unfold compL
    rw [if_pos (by rw [List.length_map, List.length_range]; exact h64)]
    rw [compO_filter (t := fun z : Int => !p z.toNat)]
    · simp only [Option.bind_some]
      congr 1
      rw [decide_eq_decide]
      rw [List.filter_eq_nil_iff]
      constructor
      · intro h i hi
        have := h (0 + (i : Int)) (List.mem_map.mpr ⟨i, List.mem_range.mpr hi, rfl⟩)
        simpa using this
      · intro h z hz
        obtain ⟨i, hi, rfl⟩ := List.mem_map.mp hz
        have := h i (List.mem_range.mp hi)
        simp [this]
    · intro z hz
      obtain ⟨i, hi, rfl⟩ := List.mem_map.mp hz
      have hi' := List.mem_range.mp hi
      unfold ixA
      rw [h1, h2]
      simp only [Option.bind_some]
      rw [atI_nat (l := xs) (by omega), atI_nat (l := ys) hi']
      simp only [Option.bind_some]
      rw [hp i hi']
      simp
  have hlen : (lenA (mk xs)).bind (fun x10 => (lenA (mk ys)).bind fun y11 => some (!decide (x10 = y11))) = some false := by
    rcases hmk with rfl | rfl <;> simp [lenA, hl]
  have hr : (lenA (mk ys)).bind range1O = some ((List.range ys.length).map fun i : Nat => (0 + (i : Int))) := by
    rcases hmk with rfl | rfl <;> exact range_self _ h64
  show N__law_alike (alikeR n) (mk xs) (mk ys) = _
  unfold N__law_alike
  rcases hmk with rfl | rfl
  · show iteO (some true) (iteO (some ((!true) || (!decide (false = false)))) (some false) (iteO _ (some false) _)) _ = _
    rw [iteO_t]
    show iteO (some false) _ _ = _
    rw [iteO_f]
    show iteO ((lenA (PyData.tuple xs)).bind (fun x10 => (lenA (PyData.tuple ys)).bind fun y11 => some (!decide (x10 = y11)))) _ _ = _
    rw [hlen, iteO_f]
    show (((lenA (PyData.tuple ys)).bind range1O).bind fun l => compL _ _ l).bind _ = _
    rw [hr]
    exact key (.tuple xs) (.tuple ys) rfl rfl
  · show iteO (some true) (iteO (some ((!true) || (!decide (true = true)))) (some false) (iteO _ (some false) _)) _ = _
    rw [iteO_t]
    show iteO (some false) _ _ = _
    rw [iteO_f]
    show iteO ((lenA (PyData.list xs)).bind (fun x10 => (lenA (PyData.list ys)).bind fun y11 => some (!decide (x10 = y11)))) _ _ = _
    rw [hlen, iteO_f]
    show (((lenA (PyData.list ys)).bind range1O).bind fun l => compL _ _ l).bind _ = _
    rw [hr]
    exact key (.list xs) (.list ys) rfl rfl
theorem alk_2 (E : Alk n ea) (F : Alk n eb) : Alk (n + 1) (e2 ea eb) := fun p q => by
  refine (alk_items (n := n) (xs := [ea p.1, eb p.2]) (ys := [ea q.1, eb q.2]) (p := fun i => if i = 0 then decide (p.1 = q.1) else decide (p.2 = q.2)) rfl (by simp) (fun i hi => ?_) .tuple (.inl rfl)).trans ?_
  · match i, hi with
    | 0, _ => exact E p.1 q.1
    | 1, _ => exact F p.2 q.2
  · congr 1
    rw [decide_eq_decide]
    constructor
    · intro h
      have h0 := h 0 (by simp)
      have h1 := h 1 (by simp)
      simp at h0 h1
      exact Prod.ext h0 h1
    · rintro rfl i _
      split <;> simp
end
def alikeT {α β : Type} (n : Nat) (ea : α → PyData) (eb : β → PyData) (a : α) (b : β) : Option Bool := alikeR n (ea a) (eb b)
theorem t_alikeT {α β : Type} (n : Nat) (ea : α → PyData) (eb : β → PyData) (a : α) (b : β) : S__law_alike n [ea a, eb b] = (alikeT n ea eb a b).map eB := t_alike n (ea a) (eb b)
abbrev DamT : Type := Int × Int × Int × List Int
structure DamIn (m : Int) (d : DamT) : Prop where
  c0 : 0 ≤ d.1
  c1 : d.1 ≤ 1000
  s0 : 0 ≤ d.2.1
  s1 : d.2.1 ≤ d.1
  e0 : 0 ≤ d.2.2.1
  e1 : d.2.2.1 ≤ d.1
  fl : Flows d.2.2.2
  l0 : 0 < d.2.2.2.length
  l1 : (d.2.2.2.length : Int) ≤ m
theorem rangeI_len (n : Int) : (rangeI n).length = n.toNat := by simp [rangeI]
section
variable {α β γ δ ε : Type} {en : En} {f g h k l : En → Option PyData} {ea : α → PyData} {eb : β → PyData} {ec : γ → PyData} {ed : δ → PyData} {ee : ε → PyData} {A : Option α} {B : Option β} {C : Option γ} {D : Option δ} {E : Option ε}
def e5 (a : α → PyData) (b : β → PyData) (c : γ → PyData) (d : δ → PyData) (e : ε → PyData) (p : α × β × γ × δ × ε) : PyData := .tuple [a p.1, b p.2.1, c p.2.2.1, d p.2.2.2.1, e p.2.2.2.2]
end
def F_sum_of_ratios (c_plus : List PyData → Option PyData) : En → Option Fl := (sSeq (sSet 1 (fTup (fCons (fLit (.int 0)) (fCons (fLit (.int 1)) fNil)))) (sSeq (sFor (iSeq (fVar 0)) (bName 2) (sSet 1 (fCall 2 c_plus (fCons (fVar 1) (fCons (fVar 2) fNil))))) (sRet (fVar 1))))
def S_sum_of_ratios := runD 3 (F_sum_of_ratios S_plus)
noncomputable def N_sum_of_ratios (ratios' : (List (Int × Int))) : Option (Int × Int) := ((some ((0 : Int), (1 : Int))).bind fun total_1 => ((foldO (fun (i4 : (Int × Int)) (s2 : ((Int × Int))) => ((N_plus s2 i4).bind fun total_5 => some total_5)) ratios' total_1).bind fun s6 => (some s6)))
theorem t_sum_of_ratios (ratios' : (List (Int × Int))) : S_sum_of_ratios [(eL (e2 eI eI)) ratios'] = (N_sum_of_ratios ratios').map (e2 eI eI) := d_run (r_seq_set (i := 1) (A := (some ((0 : Int), (1 : Int)))) (t_tup2 (A := (some (0 : Int))) (B := (some (1 : Int))) (t_int (i := 0)) (t_int (i := 1))) (lt_of rfl) (fun total_1 => (r_seq_nx (env := (fun (s : ((Int × Int))) (z : (Slot)) => [.dat ((eL (e2 eI eI)) ratios'), .dat ((e2 eI eI) s), z])) (n_for (env := (fun (s : ((Int × Int))) (z : (Slot)) => [.dat ((eL (e2 eI eI)) ratios'), .dat ((e2 eI eI) s), z])) (s := total_1) (z := (.no : Slot)) (L := (some ratios')) (ea := (e2 eI eI)) (Bd := (fun (i4 : (Int × Int)) (s2 : ((Int × Int))) => ((N_plus s2 i4).bind fun total_5 => some total_5))) rfl (i_seqL (A := (some ratios')) (e := (e2 eI eI)) (t_var (i := 0) (e := (eL (e2 eI eI))) (v := ratios') rfl)) (fun i4 s2 z3 => ⟨[.dat ((eL (e2 eI eI)) ratios'), .dat ((e2 eI eI) s2), .dat ((e2 eI eI) i4)], rfl, (n_set  (K := fun total_5 => total_5) (i := 1) (A := (N_plus s2 i4)) (t_call2 (A := (some s2)) (B := (some i4)) (N := N_plus) t_plus (t_var (i := 1) (e := (e2 eI eI)) (v := s2) rfl) (t_var (i := 2) (e := (e2 eI eI)) (v := i4) rfl)) (lt_of rfl) (fun total_5 => ⟨(.dat ((e2 eI eI) i4) : Slot), rfl⟩))⟩)) (fun s6 z7 => (r_ret (A := (some s6)) (t_var (i := 1) (e := (e2 eI eI)) (v := s6) rfl))))))
end Ty
namespace EZ
open PySem PySem.Spec PyProof.Rows L2 DN
open Sem (wp)
section
variable {prog : Program} {w : World} {A : Around} {E : Value → Shared → Prop} {s : Shared} {z TI TO T i1 i2 : Addr} {f : Bool} {u1 u2 : Value} {fp1 fp2 : List Addr} {n1 n2 i : Nat} {P1 P2 : Nat → Value → Prop} {St1 St2 : Nat → Heap → Prop}
def ZipAny (h : Heap) (z TI TO : Addr) : Prop := IsZip h z TI TO .none ∨ ∃ T f, IsZipHeld h z TI TO T f
theorem ZipAny.cell {h : Heap} (q : ZipAny h z TI TO) : ∃ vs, h.get? z = some { cls := .type "zip", dict := none, data := .fields vs, slots := #[] } := by
  rcases q with e | ⟨_, _, e⟩
  · exact ⟨_, e⟩
  · exact ⟨_, e⟩
theorem ZipAny.at {h h' : Heap} (q : ZipAny h z TI TO) (k : ∀ o, h.get? z = some o → h'.get? z = some o) : ZipAny h' z TI TO := by
  rcases q with e | ⟨T, f, e⟩
  · exact .inl (k _ e)
  · exact .inr ⟨T, f, k _ e⟩
variable {e : Addr} {old : Value}
end
end EZ
namespace DN
open PySem PySem.Spec PyProof.Rows L2
end DN
namespace Ty
open PySem PySem.Spec PyProof.Rows L2 DN
end Ty
namespace DN
open PySem PySem.Spec PyProof.Rows L2
end DN
namespace DN
open PySem PySem.Spec PyProof.Rows L2 Ty
theorem w_put {α : Type} {en : En} {ρ i : Nat} {f g : En → Option PyData} {e : α → PyData} {v w : List α} {x : α} {k : Int} {Q : Fl → Prop} (hi : en[i]? = some (.own (List.map e v))) (hf : ∀ rw, f (en.set ρ (.own rw)) = some (e x)) (hg : ∀ rw, g (en.set ρ (.own rw)) = some (.int k)) (hw : putO v k x = some w) (h : Q (.nx (en.set i (.own (List.map e w))))) : lPut ρ i g f en Q := by
  unfold putO at hw
  obtain ⟨j, h1, rfl⟩ := Option.map_eq_some_iff.mp hw
  refine ⟨e x, k, _, j, hf, hg, hi, by rw [List.length_map]; exact h1, ?_⟩
  rw [List.map_set] at h
  exact h
theorem n_put {α σ ζ : Type} {en : En} {f g : En → Option PyData} {ea : α → PyData} {i : Nat} {env : σ → ζ → En} {A : Option α} {B : Option Int} {v : List α} {K : List α → σ} (pa : f en = A.map ea) (pb : g en = B.map eI) (ho : en[i]? = some (.own (v.map ea))) (q : ∀ w : List α, ∃ z, en.set i (.own (w.map ea)) = env (K w) z) : NX (sPut i g f en) ((A.bind fun x => B.bind fun k => putO v k x).bind fun w => some (K w)) env := by
  rw [put_eq pa pb ho]
  cases (A.bind fun x => B.bind fun k => putO v k x) with
  | none => exact rfl
  | some w =>
    obtain ⟨z, e⟩ := q w
    exact ⟨z, congrArg (fun y => some (Fl.nx y)) e⟩
def remO {α : Type} [DecidableEq α] (l : List α) (x : α) : Option (List α) := (l.findIdx? fun a => decide (a = x)).map fun j => l.eraseIdx j
section
variable {α σ ζ ξ : Type} [DecidableEq α] {en : En} {f : En → Option PyData} {G : En → Option Fl} {ea : α → PyData} {i k : Nat} {env : σ → ζ → En}
theorem map_erase (e : α → PyData) : ∀ (l : List α) (j : Nat), (l.map e).eraseIdx j = (l.eraseIdx j).map e
  | [], _ => rfl
  | _ :: _, 0 => rfl
  | a :: l, j + 1 => by show e a :: (l.map e).eraseIdx j = e a :: (l.eraseIdx j).map e; rw [map_erase e l j]
theorem find_map (E : Enc k ea) (x : α) : ∀ l : List α, (l.map ea).findIdx? (fun z => PyData.eqv z (ea x)) = l.findIdx? fun a => decide (a = x)
  | [] => rfl
  | a :: l => by
    rw [List.map_cons, List.findIdx?_cons, List.findIdx?_cons, E.eq, find_map E x l]
theorem rem_eq (E : Enc k ea) (hk : k ≤ 40) {A : Option α} {v : List α} (p : f en = A.map ea) (ho : en[i]? = some (.own (v.map ea))) : sRem i f en = (A.bind fun x => remO v x).map fun w => Fl.nx (en.set i (.own (w.map ea))) := by
  unfold sRem
  rw [p]
  cases A with
  | none => rfl
  | some a =>
    show (match en[i]? with
      | some (.own ds) => if (SeqAt.shaped (ea a) && SeqAt.shaped (.list ds)) = true then (fstEq (ea a) ds).map fun j => Fl.nx (en.set i (.own (ds.eraseIdx j))) else none
      | _ => none) = (remO v a).map _
    rw [ho]
    show (if (SeqAt.shaped (ea a) && SeqAt.shaped (.list (v.map ea))) = true then _ else _) = _
    have s2 : SeqAt.shaped (.list (v.map ea)) = true := (enc_L E).sh (by omega) v
    rw [if_pos (by rw [E.sh (by omega), s2]; rfl)]
    unfold fstEq remO
    rw [find_map E]
    cases (v.findIdx? fun b => decide (b = a)) with
    | none => rfl
    | some j =>
      show some (Fl.nx (en.set i (.own ((v.map ea).eraseIdx j)))) = _
      rw [map_erase]
      rfl
theorem n_seq_rem (E : Enc k ea) (hk : k ≤ 40) {A : Option α} {v : List α} {K : List α → Option σ} (p : f en = A.map ea) (ho : en[i]? = some (.own (v.map ea))) (q : ∀ w : List α, NX (G (en.set i (.own (w.map ea)))) (K w) env) : NX (sSeq (sRem i f) G en) (A.bind fun x => (remO v x).bind fun w => K w) env := by
  unfold sSeq
  rw [rem_eq E hk p ho]
  cases A with
  | none => exact rfl
  | some a =>
    show NX (match (remO v a).map fun w => Fl.nx (en.set i (.own (w.map ea))) with
      | some (.nx e) => G e
      | r => r) ((remO v a).bind fun w => K w) env
    cases remO v a with
    | none => exact rfl
    | some w => exact q w
end
end DN
namespace Ty
open PySem PySem.Spec PyProof.Rows L2 DN
def F_is_pond (c_is_between : List PyData → Option PyData) : En → Option Fl := (sSeq (sIf (kNot (kAnd (fT (fIsi isTup (fVar 0))) (fT (fEq (fLen (fVar 0)) (fLit (.int 2)))))) (sRet (fLit (.bool false))) sNil) (sRet (fAnd (fCall 3 c_is_between (fCons (fIx (fVar 0) (fLit (.int 0))) (fCons (fLit (.int 1)) (fCons (fLit (.int 8)) fNil)))) (fCall 3 c_is_between (fCons (fIx (fVar 0) (fLit (.int 1))) (fCons (fLit (.int 1)) (fCons (fIx (fVar 0) (fLit (.int 0))) fNil)))))))
def S_is_pond := runD 1 (F_is_pond S_is_between)
def F_is_chances (c_is_row_of_ratios c_sum_of_ratios : List PyData → Option PyData) : En → Option Fl := (sSeq (sIf (kNot (kAnd (fT (fIsi isTup (fVar 0))) (fT (fChain gLe gLe (fLit (.int 2)) (fLen (fVar 0)) (fLit (.int 6)))))) (sRet (fLit (.bool false))) sNil) (sSeq (sIf (kOr (kNot (fT (fCall 2 c_is_row_of_ratios (fCons (fVar 0) (fCons (fLen (fVar 0)) fNil))))) (fT (fAnyL (fLc (iSeq (fVar 0)) (bName 1) kYes (fGt (fIx (fVar 1) (fLit (.int 1))) (fLit (.int 100))) [1])))) (sRet (fLit (.bool false))) sNil) (sRet (fEq (fCall 1 c_sum_of_ratios (fCons (fVar 0) fNil)) (fTup (fCons (fLit (.int 1)) (fCons (fLit (.int 1)) fNil)))))))
def S_is_chances := runD 2 (F_is_chances S_is_row_of_ratios S_sum_of_ratios)
def F_check_chances (c_is_chances : List PyData → Option PyData) : En → Option Fl := (sIf (kNot (fT (fCall 1 c_is_chances (fCons (fVar 0) fNil)))) sNever sNil)
def S_check_chances := runD 1 (F_check_chances S_is_chances)
def F_check_pond (c_is_pond : List PyData → Option PyData) : En → Option Fl := (sIf (kNot (fT (fCall 1 c_is_pond (fCons (fVar 0) fNil)))) sNever sNil)
def S_check_pond := runD 1 (F_check_pond S_is_pond)
def F_check_pond_and_chances (c_check_pond c_check_chances : List PyData → Option PyData) : En → Option Fl := (sSeq (sExpr (fCall 1 c_check_pond (fCons (fVar 0) fNil))) (sExpr (fCall 1 c_check_chances (fCons (fVar 1) fNil))))
def S_check_pond_and_chances := runD 2 (F_check_pond_and_chances S_check_pond S_check_chances)
def F_count_of_levels : En → Option Fl := (sRet (fPlus (fSub (fIx (fVar 0) (fLit (.int 0))) (fIx (fVar 0) (fLit (.int 1)))) (fLit (.int 1))))
def S_count_of_levels := runD 1 (F_count_of_levels)
def F_check_level (c_is_between c_count_of_levels : List PyData → Option PyData) : En → Option Fl := (sIf (kNot (fT (fCall 3 c_is_between (fCons (fVar 1) (fCons (fLit (.int 0)) (fCons (fSub (fCall 1 c_count_of_levels (fCons (fVar 0) fNil)) (fLit (.int 1))) fNil)))))) sNever sNil)
def S_check_level := runD 2 (F_check_level S_is_between S_count_of_levels)
def F_months_from : En → Option Fl := (sSeq (sBind (bTup [3, 4]) (fVar 0)) (sSeq (sOwn 5 (fLst fNil)) (sSeq (sFor (iEnumF (fVar 1)) (bTup [6, 7]) (sSeq (sSet 8 (fMin2 (fVar 3) (fPlus (fVar 2) (fVar 6)))) (sSeq (sSet 9 (fMin2 (fVar 4) (fVar 8))) (sApp 5 (fTup (fCons (fVar 7) (fCons (fVar 9) (fCons (fSub (fPlus (fVar 2) (fVar 6)) (fVar 8)) (fCons (fSub (fVar 8) (fVar 9)) fNil))))))))) (sSeq (sRel 5) (sRet (fVar 5))))))
def S_months_from := runD 10 (F_months_from)
def F__law_month : En → Option Fl := (sSeq (sSet 3 (fMin2 (fIx (fVar 0) (fLit (.int 0))) (fPlus (fVar 1) (fVar 2)))) (sSeq (sSet 4 (fMin2 (fIx (fVar 0) (fLit (.int 1))) (fVar 3))) (sRet (fTup (fCons (fVar 4) (fCons (fSub (fPlus (fVar 1) (fVar 2)) (fVar 3)) (fCons (fSub (fVar 3) (fVar 4)) fNil)))))))
def S__law_month := runD 5 (F__law_month)
noncomputable def N_is_pond (value' : (Int × Int)) : Option Bool := (iteO (some (!(true && (decide ((2 : Int) = (2 : Int)))))) (some false) (andO (N_is_between value'.1 (1 : Int) (8 : Int)) (N_is_between value'.2 (1 : Int) value'.1)))
theorem t_is_pond (value' : (Int × Int)) : S_is_pond [(e2 eI eI) value'] = (N_is_pond value').map eB := d_run (r_seq_ifret (P := (some (!(true && (decide ((2 : Int) = (2 : Int))))))) (A := (some false)) (t_knot (P := (some (true && (decide ((2 : Int) = (2 : Int)))))) (t_kandP (b := true) (c := (decide ((2 : Int) = (2 : Int)))) (t_T (P := (some true)) (t_isi (A := (some value')) (b := fun x1 => true) (fun _ => rfl) (t_var (i := 0) (e := (e2 eI eI)) (v := value') rfl))) (t_T (P := (some (decide ((2 : Int) = (2 : Int))))) (t_f2 (A := (some (2 : Int))) (B := (some (2 : Int))) (h := (fun x3 y4 => some (decide (x3 = y4)))) (g_eq enc_I rfl) (t_f1 (A := (some value')) (h := (fun x2 => some (2 : Int))) (fun _ => rfl) (t_var (i := 0) (e := (e2 eI eI)) (v := value') rfl)) (t_int (i := 2)))))) (r_ret (A := (some false)) (t_bl (b := false))) (r_ret (A := (andO (N_is_between value'.1 (1 : Int) (8 : Int)) (N_is_between value'.2 (1 : Int) value'.1))) (t_and (P := (N_is_between value'.1 (1 : Int) (8 : Int))) (Q := (N_is_between value'.2 (1 : Int) value'.1)) (t_call3 (A := (some value'.1)) (B := (some (1 : Int))) (C := (some (8 : Int))) (N := N_is_between) t_is_between (t_ixc (A := (some value')) (k := 0) (pr := fun x6 => x6.1) (eb := eI) (fun _ => rfl) (t_var (i := 0) (e := (e2 eI eI)) (v := value') rfl)) (t_int (i := 1)) (t_int (i := 8))) (t_call3 (A := (some value'.2)) (B := (some (1 : Int))) (C := (some value'.1)) (N := N_is_between) t_is_between (t_ixc (A := (some value')) (k := 1) (pr := fun x7 => x7.2) (eb := eI) (fun _ => rfl) (t_var (i := 0) (e := (e2 eI eI)) (v := value') rfl)) (t_int (i := 1)) (t_ixc (A := (some value')) (k := 0) (pr := fun x8 => x8.1) (eb := eI) (fun _ => rfl) (t_var (i := 0) (e := (e2 eI eI)) (v := value') rfl))))))
noncomputable def N_check_pond (pond' : (Int × Int)) : Option Unit := (iteO ((N_is_pond pond').bind fun b1 => some (!b1)) none (some ())).bind fun _ => some ()
theorem t_check_pond (pond' : (Int × Int)) : S_check_pond [(e2 eI eI) pond'] = (N_check_pond pond').map eU := d_runN (env := (fun (s : Unit) (z : Unit) => [.dat ((e2 eI eI) pond')])) (n_if (P := ((N_is_pond pond').bind fun b1 => some (!b1))) (A := none) (B := (some ())) (t_knot (P := (N_is_pond pond')) (t_T (P := (N_is_pond pond')) (t_call1 (A := (some pond')) (N := N_is_pond) t_is_pond (t_var (i := 0) (e := (e2 eI eI)) (v := pond') rfl)))) n_never (n_nil (s := ()) (z := ()) rfl))
noncomputable def N_sum_of_ratios_1 (ratios' : (List (Int × Int))) : Option (Int × Int) := ((some ((0 : Int), (1 : Int))).bind fun total_1 => ((foldO (fun (i4 : (Int × Int)) (s2 : ((Int × Int))) => ((N_plus s2 i4).bind fun total_5 => some total_5)) ratios' total_1).bind fun s6 => (some s6)))
theorem t_sum_of_ratios_1 (ratios' : (List (Int × Int))) : S_sum_of_ratios [(eR (e2 eI eI)) ratios'] = (N_sum_of_ratios_1 ratios').map (e2 eI eI) := d_run (r_seq_set (i := 1) (A := (some ((0 : Int), (1 : Int)))) (t_tup2 (A := (some (0 : Int))) (B := (some (1 : Int))) (t_int (i := 0)) (t_int (i := 1))) (lt_of rfl) (fun total_1 => (r_seq_nx (env := (fun (s : ((Int × Int))) (z : (Slot)) => [.dat ((eR (e2 eI eI)) ratios'), .dat ((e2 eI eI) s), z])) (n_for (env := (fun (s : ((Int × Int))) (z : (Slot)) => [.dat ((eR (e2 eI eI)) ratios'), .dat ((e2 eI eI) s), z])) (s := total_1) (z := (.no : Slot)) (L := (some ratios')) (ea := (e2 eI eI)) (Bd := (fun (i4 : (Int × Int)) (s2 : ((Int × Int))) => ((N_plus s2 i4).bind fun total_5 => some total_5))) rfl (i_seqR (A := (some ratios')) (e := (e2 eI eI)) (t_var (i := 0) (e := (eR (e2 eI eI))) (v := ratios') rfl)) (fun i4 s2 z3 => ⟨[.dat ((eR (e2 eI eI)) ratios'), .dat ((e2 eI eI) s2), .dat ((e2 eI eI) i4)], rfl, (n_set  (K := fun total_5 => total_5) (i := 1) (A := (N_plus s2 i4)) (t_call2 (A := (some s2)) (B := (some i4)) (N := N_plus) t_plus (t_var (i := 1) (e := (e2 eI eI)) (v := s2) rfl) (t_var (i := 2) (e := (e2 eI eI)) (v := i4) rfl)) (lt_of rfl) (fun total_5 => ⟨(.dat ((e2 eI eI) i4) : Slot), rfl⟩))⟩)) (fun s6 z7 => (r_ret (A := (some s6)) (t_var (i := 1) (e := (e2 eI eI)) (v := s6) rfl))))))
noncomputable def N_is_chances (value' : (List (Int × Int))) : Option Bool := (iteO (some (!(true && (decide ((2 : Int) ≤ ((value').length : Int)) && decide (((value').length : Int) ≤ (6 : Int)))))) (some false) (iteO (orO ((N_is_row_of_ratios value' ((value').length : Int)).bind fun b5 => some (!b5)) ((compL (fun (i6 : (Int × Int)) => (some true)) (fun (i6 : (Int × Int)) => (some (decide ((100 : Int) < i6.2)))) value').bind (fun x12 => some (List.any x12 id)))) (some false) ((N_sum_of_ratios_1 value').bind fun x13 => (some ((1 : Int), (1 : Int))).bind fun y14 => some (decide (x13 = y14)))))
theorem t_is_chances (value' : (List (Int × Int))) : S_is_chances [(eR (e2 eI eI)) value'] = (N_is_chances value').map eB := d_run (r_seq_ifret (P := (some (!(true && (decide ((2 : Int) ≤ ((value').length : Int)) && decide (((value').length : Int) ≤ (6 : Int))))))) (A := (some false)) (t_knot (P := (some (true && (decide ((2 : Int) ≤ ((value').length : Int)) && decide (((value').length : Int) ≤ (6 : Int)))))) (t_kandP (b := true) (c := (decide ((2 : Int) ≤ ((value').length : Int)) && decide (((value').length : Int) ≤ (6 : Int)))) (t_T (P := (some true)) (t_isi (A := (some value')) (b := fun x1 => true) (fun _ => rfl) (t_var (i := 0) (e := (eR (e2 eI eI))) (v := value') rfl))) (t_T (P := (some (decide ((2 : Int) ≤ ((value').length : Int)) && decide (((value').length : Int) ≤ (6 : Int))))) (t_chainP (x := (2 : Int)) (y := ((value').length : Int)) (z := (6 : Int)) (t_int (i := 2)) (t_f1 (A := (some value')) (h := (fun x2 => some ((x2).length : Int))) g_lenR (t_var (i := 0) (e := (eR (e2 eI eI))) (v := value') rfl)) (t_int (i := 6)))))) (r_ret (A := (some false)) (t_bl (b := false))) (r_seq_ifret (P := (orO ((N_is_row_of_ratios value' ((value').length : Int)).bind fun b5 => some (!b5)) ((compL (fun (i6 : (Int × Int)) => (some true)) (fun (i6 : (Int × Int)) => (some (decide ((100 : Int) < i6.2)))) value').bind (fun x12 => some (List.any x12 id))))) (A := (some false)) (t_kor (P := ((N_is_row_of_ratios value' ((value').length : Int)).bind fun b5 => some (!b5))) (Q := ((compL (fun (i6 : (Int × Int)) => (some true)) (fun (i6 : (Int × Int)) => (some (decide ((100 : Int) < i6.2)))) value').bind (fun x12 => some (List.any x12 id)))) (t_knot (P := (N_is_row_of_ratios value' ((value').length : Int))) (t_T (P := (N_is_row_of_ratios value' ((value').length : Int))) (t_call2 (A := (some value')) (B := (some ((value').length : Int))) (N := N_is_row_of_ratios) t_is_row_of_ratios (t_var (i := 0) (e := (eR (e2 eI eI))) (v := value') rfl) (t_f1 (A := (some value')) (h := (fun x4 => some ((x4).length : Int))) g_lenR (t_var (i := 0) (e := (eR (e2 eI eI))) (v := value') rfl))))) (t_T (P := ((compL (fun (i6 : (Int × Int)) => (some true)) (fun (i6 : (Int × Int)) => (some (decide ((100 : Int) < i6.2)))) value').bind (fun x12 => some (List.any x12 id)))) (t_f1 (A := (compL (fun (i6 : (Int × Int)) => (some true)) (fun (i6 : (Int × Int)) => (some (decide ((100 : Int) < i6.2)))) value')) (h := (fun x12 => some (List.any x12 id))) g_anyL (t_lc (L := (some value')) (ea := (e2 eI eI)) (eb := eB) (T := fun (i6 : (Int × Int)) => (some true)) (Bf := fun (i6 : (Int × Int)) => (some (decide ((100 : Int) < i6.2)))) (i_seqR (A := (some value')) (e := (e2 eI eI)) (t_var (i := 0) (e := (eR (e2 eI eI))) (v := value') rfl)) (fun i6 => ⟨[.dat ((eR (e2 eI eI)) value'), .dat ((e2 eI eI) i6)], rfl, t_yes, (t_f2 (A := (some i6.2)) (B := (some (100 : Int))) (h := (fun x10 y11 => some (decide (y11 < x10)))) g_gt (t_ixc (A := (some i6)) (k := 1) (pr := fun x7 => x7.2) (eb := eI) (fun _ => rfl) (t_var (i := 1) (e := (e2 eI eI)) (v := i6) rfl)) (t_int (i := 100)))⟩))))) (r_ret (A := (some false)) (t_bl (b := false))) (r_ret (A := ((N_sum_of_ratios_1 value').bind fun x13 => (some ((1 : Int), (1 : Int))).bind fun y14 => some (decide (x13 = y14)))) (t_f2 (A := (N_sum_of_ratios_1 value')) (B := (some ((1 : Int), (1 : Int)))) (h := (fun x13 y14 => some (decide (x13 = y14)))) (g_eq (enc_2 enc_I enc_I) rfl) (t_call1 (A := (some value')) (N := N_sum_of_ratios_1) t_sum_of_ratios_1 (t_var (i := 0) (e := (eR (e2 eI eI))) (v := value') rfl)) (t_tup2 (A := (some (1 : Int))) (B := (some (1 : Int))) (t_int (i := 1)) (t_int (i := 1)))))))
noncomputable def N_check_chances (chances' : (List (Int × Int))) : Option Unit := (iteO ((N_is_chances chances').bind fun b1 => some (!b1)) none (some ())).bind fun _ => some ()
theorem t_check_chances (chances' : (List (Int × Int))) : S_check_chances [(eR (e2 eI eI)) chances'] = (N_check_chances chances').map eU := d_runN (env := (fun (s : Unit) (z : Unit) => [.dat ((eR (e2 eI eI)) chances')])) (n_if (P := ((N_is_chances chances').bind fun b1 => some (!b1))) (A := none) (B := (some ())) (t_knot (P := (N_is_chances chances')) (t_T (P := (N_is_chances chances')) (t_call1 (A := (some chances')) (N := N_is_chances) t_is_chances (t_var (i := 0) (e := (eR (e2 eI eI))) (v := chances') rfl)))) n_never (n_nil (s := ()) (z := ()) rfl))
noncomputable def N_check_pond_and_chances (pond' : (Int × Int)) (chances' : (List (Int × Int))) : Option Unit := ((N_check_pond pond').bind fun _ => ((N_check_chances chances').bind fun _ => some ())).bind fun _ => some ()
theorem t_check_pond_and_chances (pond' : (Int × Int)) (chances' : (List (Int × Int))) : S_check_pond_and_chances [(e2 eI eI) pond', (eR (e2 eI eI)) chances'] = (N_check_pond_and_chances pond' chances').map eU := d_runN (env := (fun (s : Unit) (z : Unit) => [.dat ((e2 eI eI) pond'), .dat ((eR (e2 eI eI)) chances')])) (n_seq_expr (A := (N_check_pond pond')) (t_call1 (A := (some pond')) (N := N_check_pond) t_check_pond (t_var (i := 0) (e := (e2 eI eI)) (v := pond') rfl)) (n_expr (A := (N_check_chances chances')) (s := ()) (z := ()) (t_call1 (A := (some chances')) (N := N_check_chances) t_check_chances (t_var (i := 1) (e := (eR (e2 eI eI))) (v := chances') rfl)) rfl))
noncomputable def N_count_of_levels (pond' : (Int × Int)) : Option Int := (some ((pond'.1 - pond'.2) + (1 : Int)))
theorem t_count_of_levels (pond' : (Int × Int)) : S_count_of_levels [(e2 eI eI) pond'] = (N_count_of_levels pond').map eI := d_run (r_ret (A := (some ((pond'.1 - pond'.2) + (1 : Int)))) (t_f2 (A := (some (pond'.1 - pond'.2))) (B := (some (1 : Int))) (h := (fun x5 y6 => some (x5 + y6))) g_add (t_f2 (A := (some pond'.1)) (B := (some pond'.2)) (h := (fun x3 y4 => some (x3 - y4))) g_sub (t_ixc (A := (some pond')) (k := 0) (pr := fun x1 => x1.1) (eb := eI) (fun _ => rfl) (t_var (i := 0) (e := (e2 eI eI)) (v := pond') rfl)) (t_ixc (A := (some pond')) (k := 1) (pr := fun x2 => x2.2) (eb := eI) (fun _ => rfl) (t_var (i := 0) (e := (e2 eI eI)) (v := pond') rfl))) (t_int (i := 1))))
noncomputable def N_check_level (pond' : (Int × Int)) (level' : Int) : Option Unit := (iteO (((some level').bind fun a3 => (some (0 : Int)).bind fun a4 => ((N_count_of_levels pond').bind fun x1 => (some (1 : Int)).bind fun y2 => some (x1 - y2)).bind fun a5 => N_is_between a3 a4 a5).bind fun b6 => some (!b6)) none (some ())).bind fun _ => some ()
theorem t_check_level (pond' : (Int × Int)) (level' : Int) : S_check_level [(e2 eI eI) pond', eI level'] = (N_check_level pond' level').map eU := d_runN (env := (fun (s : Unit) (z : Unit) => [.dat ((e2 eI eI) pond'), .dat (eI level')])) (n_if (P := (((some level').bind fun a3 => (some (0 : Int)).bind fun a4 => ((N_count_of_levels pond').bind fun x1 => (some (1 : Int)).bind fun y2 => some (x1 - y2)).bind fun a5 => N_is_between a3 a4 a5).bind fun b6 => some (!b6))) (A := none) (B := (some ())) (t_knot (P := ((some level').bind fun a3 => (some (0 : Int)).bind fun a4 => ((N_count_of_levels pond').bind fun x1 => (some (1 : Int)).bind fun y2 => some (x1 - y2)).bind fun a5 => N_is_between a3 a4 a5)) (t_T (P := ((some level').bind fun a3 => (some (0 : Int)).bind fun a4 => ((N_count_of_levels pond').bind fun x1 => (some (1 : Int)).bind fun y2 => some (x1 - y2)).bind fun a5 => N_is_between a3 a4 a5)) (t_call3 (A := (some level')) (B := (some (0 : Int))) (C := ((N_count_of_levels pond').bind fun x1 => (some (1 : Int)).bind fun y2 => some (x1 - y2))) (N := N_is_between) t_is_between (t_var (i := 1) (e := eI) (v := level') rfl) (t_int (i := 0)) (t_f2 (A := (N_count_of_levels pond')) (B := (some (1 : Int))) (h := (fun x1 y2 => some (x1 - y2))) g_sub (t_call1 (A := (some pond')) (N := N_count_of_levels) t_count_of_levels (t_var (i := 0) (e := (e2 eI eI)) (v := pond') rfl)) (t_int (i := 1)))))) n_never (n_nil (s := ()) (z := ()) rfl))
noncomputable def N_sure_of (pond' : (Int × Int)) (level' : Int) : Option (List (Int × Int)) := (((N_count_of_levels pond').bind range1O).bind fun l => compL (fun (i1 : Int) => (some true)) (fun (i1 : Int) => (some (cond (decide (i1 = level')) ((1 : Int), (1 : Int)) ((0 : Int), (1 : Int))))) l)
noncomputable def N_months_from (pond' : (Int × Int)) (chances' : (List (Int × Int))) (level' : Int) : Option (List ((Int × Int) × Int × Int × Int)) := ((some pond').bind fun p1 => ((some []).bind fun months_2 => ((foldO (fun (i6 : (Int × (Int × Int))) (s4 : ((List ((Int × Int) × Int × Int × Int)))) => ((some (min2 p1.1 (level' + i6.1))).bind fun there_7 => ((some (min2 p1.2 there_7)).bind fun given_14 => ((appO s4 (i6.2, given_14, ((level' + i6.1) - there_7), (there_7 - given_14))).bind fun months_25 => some months_25)))) (enumN 0 chances') months_2).bind fun s27 => (some s27))))
theorem t_months_from (pond' : (Int × Int)) (chances' : (List (Int × Int))) (level' : Int) : S_months_from [(e2 eI eI) pond', (eR (e2 eI eI)) chances', eI level'] = (N_months_from pond' chances' level').map (eL (e4 (e2 eI eI) eI eI eI)) := d_run (r_seq_bind (A := (some pond')) (envb := fun p1 => [.dat ((e2 eI eI) pond'), .dat ((eR (e2 eI eI)) chances'), .dat (eI level'), .dat (eI p1.1), .dat (eI p1.2), .no, .no, .no, .no, .no]) (t_var (i := 0) (e := (e2 eI eI)) (v := pond') rfl) (fun _ => rfl) (fun p1 => (r_seq_own (i := 5) (ea := (e4 (e2 eI eI) eI eI eI)) (A := (some [])) (t_lstL (L := some []) (t_nil (α := ((Int × Int) × Int × Int × Int)) (e := (e4 (e2 eI eI) eI eI eI)))) (lt_of rfl) (fun months_2 => (r_seq_nx (env := (fun (s : ((List ((Int × Int) × Int × Int × Int)))) (z : (Slot × Slot × Slot × Slot)) => [.dat ((e2 eI eI) pond'), .dat ((eR (e2 eI eI)) chances'), .dat (eI level'), .dat (eI p1.1), .dat (eI p1.2), .own (List.map (e4 (e2 eI eI) eI eI eI) s), z.1, z.2.1, z.2.2.1, z.2.2.2])) (n_for (env := (fun (s : ((List ((Int × Int) × Int × Int × Int)))) (z : (Slot × Slot × Slot × Slot)) => [.dat ((e2 eI eI) pond'), .dat ((eR (e2 eI eI)) chances'), .dat (eI level'), .dat (eI p1.1), .dat (eI p1.2), .own (List.map (e4 (e2 eI eI) eI eI eI) s), z.1, z.2.1, z.2.2.1, z.2.2.2])) (s := months_2) (z := ((.no : Slot), (.no : Slot), (.no : Slot), (.no : Slot))) (L := (some (enumN 0 chances'))) (ea := (e2 eI (e2 eI eI))) (Bd := (fun (i6 : (Int × (Int × Int))) (s4 : ((List ((Int × Int) × Int × Int × Int)))) => ((some (min2 p1.1 (level' + i6.1))).bind fun there_7 => ((some (min2 p1.2 there_7)).bind fun given_14 => ((appO s4 (i6.2, given_14, ((level' + i6.1) - there_7), (there_7 - given_14))).bind fun months_25 => some months_25))))) rfl (i_enumR (A := (some chances')) (e := (e2 eI eI)) (t_var (i := 1) (e := (eR (e2 eI eI))) (v := chances') rfl)) (fun i6 s4 z5 => ⟨[.dat ((e2 eI eI) pond'), .dat ((eR (e2 eI eI)) chances'), .dat (eI level'), .dat (eI p1.1), .dat (eI p1.2), .own (List.map (e4 (e2 eI eI) eI eI eI) s4), .dat (eI i6.1), .dat ((e2 eI eI) i6.2), z5.2.2.1, z5.2.2.2], rfl, (n_seq_set (i := 8) (A := (some (min2 p1.1 (level' + i6.1)))) (t_f2 (A := (some p1.1)) (B := (some (level' + i6.1))) (h := (fun x12 y13 => some (min2 x12 y13))) g_min2 (t_var (i := 3) (e := eI) (v := p1.1) rfl) (t_f2 (A := (some level')) (B := (some i6.1)) (h := (fun x8 y9 => some (x8 + y9))) g_add (t_var (i := 2) (e := eI) (v := level') rfl) (t_var (i := 6) (e := eI) (v := i6.1) rfl))) (lt_of rfl) (fun there_7 => (n_seq_set (i := 9) (A := (some (min2 p1.2 there_7))) (t_f2 (A := (some p1.2)) (B := (some there_7)) (h := (fun x17 y18 => some (min2 x17 y18))) g_min2 (t_var (i := 4) (e := eI) (v := p1.2) rfl) (t_var (i := 8) (e := eI) (v := there_7) rfl)) (lt_of rfl) (fun given_14 => (n_app (i := 5) (A := (some (i6.2, given_14, ((level' + i6.1) - there_7), (there_7 - given_14)))) (v := s4) (K := fun months_25 => months_25) (t_tup4 (A := (some i6.2)) (B := (some given_14)) (C := (some ((level' + i6.1) - there_7))) (D := (some (there_7 - given_14))) (t_var (i := 7) (e := (e2 eI eI)) (v := i6.2) rfl) (t_var (i := 9) (e := eI) (v := given_14) rfl) (t_f2 (A := (some (level' + i6.1))) (B := (some there_7)) (h := (fun x21 y22 => some (x21 - y22))) g_sub (t_f2 (A := (some level')) (B := (some i6.1)) (h := (fun x19 y20 => some (x19 + y20))) g_add (t_var (i := 2) (e := eI) (v := level') rfl) (t_var (i := 6) (e := eI) (v := i6.1) rfl)) (t_var (i := 8) (e := eI) (v := there_7) rfl)) (t_f2 (A := (some there_7)) (B := (some given_14)) (h := (fun x23 y24 => some (x23 - y24))) g_sub (t_var (i := 8) (e := eI) (v := there_7) rfl) (t_var (i := 9) (e := eI) (v := given_14) rfl))) rfl (fun months_25 => ⟨((.dat (eI i6.1) : Slot), (.dat ((e2 eI eI) i6.2) : Slot), (.dat (eI there_7) : Slot), (.dat (eI given_14) : Slot)), rfl⟩))))))⟩)) (fun s27 z28 => (r_seq_rel (i := 5) (ea := (e4 (e2 eI eI) eI eI eI)) (a := s27) rfl (r_ret (A := (some s27)) (t_var (i := 5) (e := (eL (e4 (e2 eI eI) eI eI eI))) (v := s27) rfl)))))))))
noncomputable def N_month_later (pond' : (Int × Int)) (chances' : (List (Int × Int))) (shares' : (List (Int × Int))) : Option (List (Int × Int)) := ((repL [((0 : Int), (1 : Int))] ((shares').length : Int)).bind fun later_1 => ((foldO (fun (i8 : (Int × (Int × Int))) (s6 : ((List (Int × Int)))) => (((N_months_from pond' chances' i8.1).bind fun l => foldO (fun (i11 : ((Int × Int) × Int × Int × Int)) (s9 : ((List (Int × Int)))) => ((((atI s9 i11.2.2.2).bind fun a14 => (N_times i8.2 i11.1).bind fun a15 => N_plus a14 a15).bind fun x16 => (some i11.2.2.2).bind fun y17 => putO s9 y17 x16).bind fun later_18 => some later_18)) l s6).bind fun s19 => some s19)) (enumN 0 shares') later_1).bind fun s21 => (some s21)))
noncomputable def N__law_month (pond' : (Int × Int)) (level' : Int) (inflow' : Int) : Option (Int × Int × Int) := ((some (min2 pond'.1 (level' + inflow'))).bind fun held_1 => ((some (min2 pond'.2 held_1)).bind fun given_9 => (some (given_9, ((level' + inflow') - held_1), (held_1 - given_9)))))
theorem t__law_month (pond' : (Int × Int)) (level' : Int) (inflow' : Int) : S__law_month [(e2 eI eI) pond', eI level', eI inflow'] = (N__law_month pond' level' inflow').map (e3 eI eI eI) := d_run (r_seq_set (i := 3) (A := (some (min2 pond'.1 (level' + inflow')))) (t_f2 (A := (some pond'.1)) (B := (some (level' + inflow'))) (h := (fun x7 y8 => some (min2 x7 y8))) g_min2 (t_ixc (A := (some pond')) (k := 0) (pr := fun x2 => x2.1) (eb := eI) (fun _ => rfl) (t_var (i := 0) (e := (e2 eI eI)) (v := pond') rfl)) (t_f2 (A := (some level')) (B := (some inflow')) (h := (fun x3 y4 => some (x3 + y4))) g_add (t_var (i := 1) (e := eI) (v := level') rfl) (t_var (i := 2) (e := eI) (v := inflow') rfl))) (lt_of rfl) (fun held_1 => (r_seq_set (i := 4) (A := (some (min2 pond'.2 held_1))) (t_f2 (A := (some pond'.2)) (B := (some held_1)) (h := (fun x13 y14 => some (min2 x13 y14))) g_min2 (t_ixc (A := (some pond')) (k := 1) (pr := fun x10 => x10.2) (eb := eI) (fun _ => rfl) (t_var (i := 0) (e := (e2 eI eI)) (v := pond') rfl)) (t_var (i := 3) (e := eI) (v := held_1) rfl)) (lt_of rfl) (fun given_9 => (r_ret (A := (some (given_9, ((level' + inflow') - held_1), (held_1 - given_9)))) (t_tup3 (A := (some given_9)) (B := (some ((level' + inflow') - held_1))) (C := (some (held_1 - given_9))) (t_var (i := 4) (e := eI) (v := given_9) rfl) (t_f2 (A := (some (level' + inflow'))) (B := (some held_1)) (h := (fun x17 y18 => some (x17 - y18))) g_sub (t_f2 (A := (some level')) (B := (some inflow')) (h := (fun x15 y16 => some (x15 + y16))) g_add (t_var (i := 1) (e := eI) (v := level') rfl) (t_var (i := 2) (e := eI) (v := inflow') rfl)) (t_var (i := 3) (e := eI) (v := held_1) rfl)) (t_f2 (A := (some held_1)) (B := (some given_9)) (h := (fun x19 y20 => some (x19 - y20))) g_sub (t_var (i := 3) (e := eI) (v := held_1) rfl) (t_var (i := 4) (e := eI) (v := given_9) rfl))))))))
def F_equation_of (c_minus : List PyData → Option PyData) : En → Option Fl := (sSeq (sOwn 4 (fPlus (fRepL (fLst (fCons (fTup (fCons (fLit (.int 0)) (fCons (fLit (.int 1)) fNil))) fNil)) (fVar 0)) (fLst (fCons (fVar 3) fNil)))) (sSeq (sPut 4 (fVar 1) (fTup (fCons (fLit (.int 1)) (fCons (fLit (.int 1)) fNil)))) (sSeq (sFor (iSeq (fVar 2)) (bTup [5, 6]) (sPut 4 (fVar 5) (fCall 2 c_minus (fCons (fIx (fOwn 4) (fVar 5)) (fCons (fVar 6) fNil))))) (sSeq (sRel 4) (sRet (fVar 4))))))
def S_equation_of := runD 7 (F_equation_of S_minus)
def F_without_unknown (c_minus c_times : List PyData → Option PyData) : En → Option Fl := (sSeq (sIf (fT (fEq (fIx (fVar 0) (fVar 1)) (fTup (fCons (fLit (.int 0)) (fCons (fLit (.int 1)) fNil))))) (sRet (fVar 0)) sNil) (sRet (fLc (iZip (fVar 0) (fVar 2)) (bTup [3, 4]) kYes (fCall 2 c_minus (fCons (fVar 3) (fCons (fCall 2 c_times (fCons (fIx (fVar 0) (fVar 1)) (fCons (fVar 4) fNil))) fNil))) [3, 4])))
def S_without_unknown := runD 5 (F_without_unknown S_minus S_times)
def F_solutions (c_divided c_without_unknown : List PyData → Option PyData) : En → Option Fl := (sSeq (sOwn 1 (fList (fVar 0))) (sSeq (sSet 2 (fLst fNil)) (sSeq (sFor (iRange1 (fLen (fVar 0))) (bName 3) (sSeq (sSet 4 (fIx (fLc (iSeq (fOwn 1)) (bName 7) (fT (fNe (fIx (fVar 7) (fVar 3)) (fTup (fCons (fLit (.int 0)) (fCons (fLit (.int 1)) fNil))))) (fVar 7) [7]) (fLit (.int 0)))) (sSeq (sRem 1 (fVar 4)) (sSeq (sSet 5 (fLc (iSeq (fVar 4)) (bName 6) kYes (fCall 2 c_divided (fCons (fVar 6) (fCons (fIx (fVar 4) (fVar 3)) fNil))) [6])) (sSeq (sOwn 1 (fLc (iSeq (fOwn 1)) (bName 7) kYes (fCall 3 c_without_unknown (fCons (fVar 7) (fCons (fVar 3) (fCons (fVar 5) fNil)))) [7])) (sSet 2 (fPlus (fLc (iSeq (fVar 2)) (bName 7) kYes (fCall 3 c_without_unknown (fCons (fVar 7) (fCons (fVar 3) (fCons (fVar 5) fNil)))) [7]) (fLst (fCons (fVar 5) fNil))))))))) (sRet (fTuple (fLc (iSeq (fVar 2)) (bName 7) kYes (fIx (fVar 7) (fNeg (fLit (.int 1)))) [7]))))))
def S_solutions := runD 8 (F_solutions S_divided S_without_unknown)
def F_check_settles__r (c_sum_of_ratios : List PyData → Option PyData) : En → Option Fl := (sIf (fT (fEq (fCall 1 c_sum_of_ratios (fCons (fCut (fVar 1) fNoPart (fPart (fVar 0))) fNil)) (fTup (fCons (fLit (.int 0)) (fCons (fLit (.int 1)) fNil))))) (sRet (fLit (.bool true))) (sRet (fLit (.bool false))))
def S_check_settles__r := runD 2 (F_check_settles__r S_sum_of_ratios)
def F_check_settles (c_sum_of_ratios : List PyData → Option PyData) : En → Option Fl := (sIf (fT (fEq (fCall 1 c_sum_of_ratios (fCons (fCut (fVar 1) fNoPart (fPart (fVar 0))) fNil)) (fTup (fCons (fLit (.int 0)) (fCons (fLit (.int 1)) fNil))))) sNever sNil)
def S_check_settles := runD 2 (F_check_settles S_sum_of_ratios)
def F__law_settles : En → Option Fl := (sRet (fNe (fLc (iSeq (fCut (fVar 1) fNoPart (fPart (fIx (fVar 0) (fLit (.int 1)))))) (bName 2) (fT (fGt (fIx (fVar 2) (fLit (.int 0))) (fLit (.int 0)))) (fVar 2) [2]) (fLst fNil)))
def S__law_settles := runD 3 (F__law_settles)
noncomputable def N_check_settles (release' : Int) (chances' : (List (Int × Int))) : Option Unit := (iteO ((N_sum_of_ratios_1 (cutT chances' none (some release'))).bind fun x2 => (some ((0 : Int), (1 : Int))).bind fun y3 => some (decide (x2 = y3))) none (some ())).bind fun _ => some ()
theorem t_check_settles (release' : Int) (chances' : (List (Int × Int))) : S_check_settles [eI release', (eR (e2 eI eI)) chances'] = (N_check_settles release' chances').map eU := d_runN (env := (fun (s : Unit) (z : Unit) => [.dat (eI release'), .dat ((eR (e2 eI eI)) chances')])) (n_if (P := ((N_sum_of_ratios_1 (cutT chances' none (some release'))).bind fun x2 => (some ((0 : Int), (1 : Int))).bind fun y3 => some (decide (x2 = y3)))) (A := none) (B := (some ())) (t_T (P := ((N_sum_of_ratios_1 (cutT chances' none (some release'))).bind fun x2 => (some ((0 : Int), (1 : Int))).bind fun y3 => some (decide (x2 = y3)))) (t_f2 (A := (N_sum_of_ratios_1 (cutT chances' none (some release')))) (B := (some ((0 : Int), (1 : Int)))) (h := (fun x2 y3 => some (decide (x2 = y3)))) (g_eq (enc_2 enc_I enc_I) rfl) (t_call1 (A := (some (cutT chances' none (some release')))) (N := N_sum_of_ratios_1) t_sum_of_ratios_1 (t_cut (A := (some chances')) (L := (some none)) (H := (some (some release'))) g_cutR (t_var (i := 1) (e := (eR (e2 eI eI))) (v := chances') rfl) t_nopart (t_part (o := (some release')) (t_var (i := 0) (e := eI) (v := release') rfl)))) (t_tup2 (A := (some (0 : Int))) (B := (some (1 : Int))) (t_int (i := 0)) (t_int (i := 1))))) n_never (n_nil (s := ()) (z := ()) rfl))
noncomputable def N_turn_later (pond' : (Int × Int)) (some' : (List (Int × Int))) (level' : Int) : Option (List (Int × Int)) := ((N_sure_of pond' level').bind fun shares_1 => ((foldO (fun (i5 : (List (Int × Int))) (s3 : ((List (Int × Int)))) => ((N_month_later pond' i5 s3).bind fun shares_6 => some shares_6)) [some'] shares_1).bind fun s7 => (some s7)))
noncomputable def N_equation_of (count' : Int) (place' : Int) (others' : (List (Int × (Int × Int)))) (total' : (Int × Int)) : Option (List (Int × Int)) := (((repL [((0 : Int), (1 : Int))] count').bind fun x4 => (some [total']).bind fun y5 => (catO x4 y5)).bind fun row_1 => (((some ((1 : Int), (1 : Int))).bind fun x6 => (some place').bind fun y7 => putO row_1 y7 x6).bind fun row_8 => ((foldO (fun (i11 : (Int × (Int × Int))) (s9 : ((List (Int × Int)))) => ((((atI s9 i11.1).bind fun a14 => (some i11.2).bind fun a15 => N_minus a14 a15).bind fun x16 => (some i11.1).bind fun y17 => putO s9 y17 x16).bind fun row_18 => some row_18)) others' row_8).bind fun s19 => (some s19))))
theorem t_equation_of (count' : Int) (place' : Int) (others' : (List (Int × (Int × Int)))) (total' : (Int × Int)) : S_equation_of [eI count', eI place', (eL (e2 eI (e2 eI eI))) others', (e2 eI eI) total'] = (N_equation_of count' place' others' total').map (eL (e2 eI eI)) := d_run (r_seq_own (i := 4) (ea := (e2 eI eI)) (A := ((repL [((0 : Int), (1 : Int))] count').bind fun x4 => (some [total']).bind fun y5 => (catO x4 y5))) (t_f2 (A := (repL [((0 : Int), (1 : Int))] count')) (B := (some [total'])) (h := (fun x4 y5 => (catO x4 y5))) g_addL (t_f2 (A := (some [((0 : Int), (1 : Int))])) (B := (some count')) (h := (fun x2 y3 => (repL x2 y3))) g_repL (t_lstL (L := (some [((0 : Int), (1 : Int))])) (t_cons (A := (some ((0 : Int), (1 : Int)))) (L := (some [])) (t_tup2 (A := (some (0 : Int))) (B := (some (1 : Int))) (t_int (i := 0)) (t_int (i := 1))) (t_nil (α := (Int × Int)) (e := (e2 eI eI))))) (t_var (i := 0) (e := eI) (v := count') rfl)) (t_lstL (L := (some [total'])) (t_cons (A := (some total')) (L := (some [])) (t_var (i := 3) (e := (e2 eI eI)) (v := total') rfl) (t_nil (α := (Int × Int)) (e := (e2 eI eI)))))) (lt_of rfl) (fun row_1 => (r_seq_put (i := 4) (ea := (e2 eI eI)) (A := (some ((1 : Int), (1 : Int)))) (B := (some place')) (v := row_1) (t_tup2 (A := (some (1 : Int))) (B := (some (1 : Int))) (t_int (i := 1)) (t_int (i := 1))) (t_var (i := 1) (e := eI) (v := place') rfl) rfl (fun row_8 => (r_seq_nx (env := (fun (s : ((List (Int × Int)))) (z : (Slot × Slot)) => [.dat (eI count'), .dat (eI place'), .dat ((eL (e2 eI (e2 eI eI))) others'), .dat ((e2 eI eI) total'), .own (List.map (e2 eI eI) s), z.1, z.2])) (n_for (env := (fun (s : ((List (Int × Int)))) (z : (Slot × Slot)) => [.dat (eI count'), .dat (eI place'), .dat ((eL (e2 eI (e2 eI eI))) others'), .dat ((e2 eI eI) total'), .own (List.map (e2 eI eI) s), z.1, z.2])) (s := row_8) (z := ((.no : Slot), (.no : Slot))) (L := (some others')) (ea := (e2 eI (e2 eI eI))) (Bd := (fun (i11 : (Int × (Int × Int))) (s9 : ((List (Int × Int)))) => ((((atI s9 i11.1).bind fun a14 => (some i11.2).bind fun a15 => N_minus a14 a15).bind fun x16 => (some i11.1).bind fun y17 => putO s9 y17 x16).bind fun row_18 => some row_18))) rfl (i_seqL (A := (some others')) (e := (e2 eI (e2 eI eI))) (t_var (i := 2) (e := (eL (e2 eI (e2 eI eI)))) (v := others') rfl)) (fun i11 s9 z10 => ⟨[.dat (eI count'), .dat (eI place'), .dat ((eL (e2 eI (e2 eI eI))) others'), .dat ((e2 eI eI) total'), .own (List.map (e2 eI eI) s9), .dat (eI i11.1), .dat ((e2 eI eI) i11.2)], rfl, (n_put (i := 4) (ea := (e2 eI eI)) (A := ((atI s9 i11.1).bind fun a14 => (some i11.2).bind fun a15 => N_minus a14 a15)) (B := (some i11.1)) (v := s9) (t_call2 (A := (atI s9 i11.1)) (B := (some i11.2)) (N := N_minus) t_minus (t_f2 (A := (some s9)) (B := (some i11.1)) (h := (fun x12 y13 => (atI x12 y13))) g_ixL (t_own (i := 4) (e := (e2 eI eI)) (v := s9) rfl) (t_var (i := 5) (e := eI) (v := i11.1) rfl)) (t_var (i := 6) (e := (e2 eI eI)) (v := i11.2) rfl)) (t_var (i := 5) (e := eI) (v := i11.1) rfl) rfl (K := fun row_18 => row_18) (fun row_18 => ⟨((.dat (eI i11.1) : Slot), (.dat ((e2 eI eI) i11.2) : Slot)), rfl⟩))⟩)) (fun s19 z20 => (r_seq_rel (i := 4) (ea := (e2 eI eI)) (a := s19) rfl (r_ret (A := (some s19)) (t_var (i := 4) (e := (eL (e2 eI eI))) (v := s19) rfl)))))))))
noncomputable def N_without_unknown (row' : (List (Int × Int))) (place' : Int) (solved' : (List (Int × Int))) : Option (List (Int × Int)) := (iteO ((atI row' place').bind fun x3 => (some ((0 : Int), (1 : Int))).bind fun y4 => some (decide (x3 = y4))) (some row') (compL (fun (i7 : ((Int × Int) × (Int × Int))) => (some true)) (fun (i7 : ((Int × Int) × (Int × Int))) => ((some i7.1).bind fun a12 => ((atI row' place').bind fun a10 => (some i7.2).bind fun a11 => N_times a10 a11).bind fun a13 => N_minus a12 a13)) (List.zip row' solved')))
theorem t_without_unknown (row' : (List (Int × Int))) (place' : Int) (solved' : (List (Int × Int))) : S_without_unknown [(eL (e2 eI eI)) row', eI place', (eL (e2 eI eI)) solved'] = (N_without_unknown row' place' solved').map (eL (e2 eI eI)) := d_run (r_seq_ifret (P := ((atI row' place').bind fun x3 => (some ((0 : Int), (1 : Int))).bind fun y4 => some (decide (x3 = y4)))) (A := (some row')) (t_T (P := ((atI row' place').bind fun x3 => (some ((0 : Int), (1 : Int))).bind fun y4 => some (decide (x3 = y4)))) (t_f2 (A := (atI row' place')) (B := (some ((0 : Int), (1 : Int)))) (h := (fun x3 y4 => some (decide (x3 = y4)))) (g_eq (enc_2 enc_I enc_I) rfl) (t_f2 (A := (some row')) (B := (some place')) (h := (fun x1 y2 => (atI x1 y2))) g_ixL (t_var (i := 0) (e := (eL (e2 eI eI))) (v := row') rfl) (t_var (i := 1) (e := eI) (v := place') rfl)) (t_tup2 (A := (some (0 : Int))) (B := (some (1 : Int))) (t_int (i := 0)) (t_int (i := 1))))) (r_ret (A := (some row')) (t_var (i := 0) (e := (eL (e2 eI eI))) (v := row') rfl)) (r_ret (A := (compL (fun (i7 : ((Int × Int) × (Int × Int))) => (some true)) (fun (i7 : ((Int × Int) × (Int × Int))) => ((some i7.1).bind fun a12 => ((atI row' place').bind fun a10 => (some i7.2).bind fun a11 => N_times a10 a11).bind fun a13 => N_minus a12 a13)) (List.zip row' solved'))) (t_lc (L := (some (List.zip row' solved'))) (ea := (e2 (e2 eI eI) (e2 eI eI))) (eb := (e2 eI eI)) (T := fun (i7 : ((Int × Int) × (Int × Int))) => (some true)) (Bf := fun (i7 : ((Int × Int) × (Int × Int))) => ((some i7.1).bind fun a12 => ((atI row' place').bind fun a10 => (some i7.2).bind fun a11 => N_times a10 a11).bind fun a13 => N_minus a12 a13)) (i_zip (A := (some row')) (B := (some solved')) (ea := (e2 eI eI)) (eb := (e2 eI eI)) (fun _ _ => rfl) (t_var (i := 0) (e := (eL (e2 eI eI))) (v := row') rfl) (t_var (i := 2) (e := (eL (e2 eI eI))) (v := solved') rfl)) (fun i7 => ⟨[.dat ((eL (e2 eI eI)) row'), .dat (eI place'), .dat ((eL (e2 eI eI)) solved'), .dat ((e2 eI eI) i7.1), .dat ((e2 eI eI) i7.2)], rfl, t_yes, (t_call2 (A := (some i7.1)) (B := ((atI row' place').bind fun a10 => (some i7.2).bind fun a11 => N_times a10 a11)) (N := N_minus) t_minus (t_var (i := 3) (e := (e2 eI eI)) (v := i7.1) rfl) (t_call2 (A := (atI row' place')) (B := (some i7.2)) (N := N_times) t_times (t_f2 (A := (some row')) (B := (some place')) (h := (fun x8 y9 => (atI x8 y9))) g_ixL (t_var (i := 0) (e := (eL (e2 eI eI))) (v := row') rfl) (t_var (i := 1) (e := eI) (v := place') rfl)) (t_var (i := 4) (e := (e2 eI eI)) (v := i7.2) rfl)))⟩))))
noncomputable def N_solutions (equations' : (List (List (Int × Int)))) : Option (List (Int × Int)) := ((some equations').bind fun rows_1 => ((some ([] : (List (List (Int × Int))))).bind fun done_3 => (((range1O ((equations').length : Int)).bind fun l => foldO (fun (i7 : Int) (s5 : ((List (List (Int × Int))) × (List (List (Int × Int))))) => (((compL (fun (i9 : (List (Int × Int))) => ((atI i9 i7).bind fun x12 => (some ((0 : Int), (1 : Int))).bind fun y13 => some (!decide (x12 = y13)))) (fun (i9 : (List (Int × Int))) => (some i9)) s5.1).bind fun x14 => (some (0 : Int)).bind fun y15 => (atI x14 y15)).bind fun chosen_8 => ((some chosen_8).bind fun x17 => (remO s5.1 x17).bind fun rows_16 => ((compL (fun (i19 : (Int × Int)) => (some true)) (fun (i19 : (Int × Int)) => ((some i19).bind fun a22 => (atI chosen_8 i7).bind fun a23 => N_divided a22 a23)) chosen_8).bind fun solved_18 => ((compL (fun (i25 : (List (Int × Int))) => (some true)) (fun (i25 : (List (Int × Int))) => (N_without_unknown i25 i7 solved_18)) rows_16).bind fun rows_24 => (((compL (fun (i27 : (List (Int × Int))) => (some true)) (fun (i27 : (List (Int × Int))) => (N_without_unknown i27 i7 solved_18)) s5.2).bind fun x28 => (some [solved_18]).bind fun y29 => (catO x28 y29)).bind fun done_26 => some (rows_24, done_26))))))) l (rows_1, done_3)).bind fun s30 => ((compL (fun (i32 : (List (Int × Int))) => (some true)) (fun (i32 : (List (Int × Int))) => (atI i32 (-(1 : Int)))) s30.2).bind (fun x36 => some x36)))))
theorem t_solutions (equations' : (List (List (Int × Int)))) : S_solutions [(eL (eL (e2 eI eI))) equations'] = (N_solutions equations').map (eR (e2 eI eI)) := d_run (r_seq_own (i := 1) (ea := (eL (e2 eI eI))) (A := (some equations')) (t_f1 (A := (some equations')) (h := (fun x2 => some x2)) (fun _ => rfl) (t_var (i := 0) (e := (eL (eL (e2 eI eI)))) (v := equations') rfl)) (lt_of rfl) (fun rows_1 => (r_seq_set (i := 2) (A := (some ([] : (List (List (Int × Int)))))) (t_lstL (L := some []) (t_nil (α := (List (Int × Int))) (e := (eL (e2 eI eI))))) (lt_of rfl) (fun done_3 => (r_seq_nx (env := (fun (s : ((List (List (Int × Int))) × (List (List (Int × Int))))) (z : (Slot × Slot × Slot)) => [.dat ((eL (eL (e2 eI eI))) equations'), .own (List.map (eL (e2 eI eI)) s.1), .dat ((eL (eL (e2 eI eI))) s.2), z.1, z.2.1, z.2.2, .no, .no])) (n_for (env := (fun (s : ((List (List (Int × Int))) × (List (List (Int × Int))))) (z : (Slot × Slot × Slot)) => [.dat ((eL (eL (e2 eI eI))) equations'), .own (List.map (eL (e2 eI eI)) s.1), .dat ((eL (eL (e2 eI eI))) s.2), z.1, z.2.1, z.2.2, .no, .no])) (s := (rows_1, done_3)) (z := ((.no : Slot), (.no : Slot), (.no : Slot))) (L := (range1O ((equations').length : Int))) (ea := eI) (Bd := (fun (i7 : Int) (s5 : ((List (List (Int × Int))) × (List (List (Int × Int))))) => (((compL (fun (i9 : (List (Int × Int))) => ((atI i9 i7).bind fun x12 => (some ((0 : Int), (1 : Int))).bind fun y13 => some (!decide (x12 = y13)))) (fun (i9 : (List (Int × Int))) => (some i9)) s5.1).bind fun x14 => (some (0 : Int)).bind fun y15 => (atI x14 y15)).bind fun chosen_8 => ((some chosen_8).bind fun x17 => (remO s5.1 x17).bind fun rows_16 => ((compL (fun (i19 : (Int × Int)) => (some true)) (fun (i19 : (Int × Int)) => ((some i19).bind fun a22 => (atI chosen_8 i7).bind fun a23 => N_divided a22 a23)) chosen_8).bind fun solved_18 => ((compL (fun (i25 : (List (Int × Int))) => (some true)) (fun (i25 : (List (Int × Int))) => (N_without_unknown i25 i7 solved_18)) rows_16).bind fun rows_24 => (((compL (fun (i27 : (List (Int × Int))) => (some true)) (fun (i27 : (List (Int × Int))) => (N_without_unknown i27 i7 solved_18)) s5.2).bind fun x28 => (some [solved_18]).bind fun y29 => (catO x28 y29)).bind fun done_26 => some (rows_24, done_26)))))))) rfl (i_range1 (A := (some ((equations').length : Int))) (t_f1 (A := (some equations')) (h := (fun x4 => some ((x4).length : Int))) g_lenL (t_var (i := 0) (e := (eL (eL (e2 eI eI)))) (v := equations') rfl))) (fun i7 s5 z6 => ⟨[.dat ((eL (eL (e2 eI eI))) equations'), .own (List.map (eL (e2 eI eI)) s5.1), .dat ((eL (eL (e2 eI eI))) s5.2), .dat (eI i7), z6.2.1, z6.2.2, .no, .no], rfl, (n_seq_set (i := 4) (A := ((compL (fun (i9 : (List (Int × Int))) => ((atI i9 i7).bind fun x12 => (some ((0 : Int), (1 : Int))).bind fun y13 => some (!decide (x12 = y13)))) (fun (i9 : (List (Int × Int))) => (some i9)) s5.1).bind fun x14 => (some (0 : Int)).bind fun y15 => (atI x14 y15))) (t_f2 (A := (compL (fun (i9 : (List (Int × Int))) => ((atI i9 i7).bind fun x12 => (some ((0 : Int), (1 : Int))).bind fun y13 => some (!decide (x12 = y13)))) (fun (i9 : (List (Int × Int))) => (some i9)) s5.1)) (B := (some (0 : Int))) (h := (fun x14 y15 => (atI x14 y15))) g_ixL (t_lc (L := (some s5.1)) (ea := (eL (e2 eI eI))) (eb := (eL (e2 eI eI))) (T := fun (i9 : (List (Int × Int))) => ((atI i9 i7).bind fun x12 => (some ((0 : Int), (1 : Int))).bind fun y13 => some (!decide (x12 = y13)))) (Bf := fun (i9 : (List (Int × Int))) => (some i9)) (i_seqL (A := (some s5.1)) (e := (eL (e2 eI eI))) (t_own (i := 1) (e := (eL (e2 eI eI))) (v := s5.1) rfl)) (fun i9 => ⟨[.dat ((eL (eL (e2 eI eI))) equations'), .own (List.map (eL (e2 eI eI)) s5.1), .dat ((eL (eL (e2 eI eI))) s5.2), .dat (eI i7), z6.2.1, z6.2.2, .no, .dat ((eL (e2 eI eI)) i9)], rfl, (t_T (P := ((atI i9 i7).bind fun x12 => (some ((0 : Int), (1 : Int))).bind fun y13 => some (!decide (x12 = y13)))) (t_f2 (A := (atI i9 i7)) (B := (some ((0 : Int), (1 : Int)))) (h := (fun x12 y13 => some (!decide (x12 = y13)))) (g_ne (enc_2 enc_I enc_I) rfl) (t_f2 (A := (some i9)) (B := (some i7)) (h := (fun x10 y11 => (atI x10 y11))) g_ixL (t_var (i := 7) (e := (eL (e2 eI eI))) (v := i9) rfl) (t_var (i := 3) (e := eI) (v := i7) rfl)) (t_tup2 (A := (some (0 : Int))) (B := (some (1 : Int))) (t_int (i := 0)) (t_int (i := 1))))), (t_var (i := 7) (e := (eL (e2 eI eI))) (v := i9) rfl)⟩)) (t_int (i := 0))) (lt_of rfl) (fun chosen_8 => (n_seq_rem (i := 1) (A := (some chosen_8)) (v := s5.1) (enc_L (enc_2 enc_I enc_I)) (by decide) (t_var (i := 4) (e := (eL (e2 eI eI))) (v := chosen_8) rfl) rfl (fun rows_16 => (n_seq_set (i := 5) (A := (compL (fun (i19 : (Int × Int)) => (some true)) (fun (i19 : (Int × Int)) => ((some i19).bind fun a22 => (atI chosen_8 i7).bind fun a23 => N_divided a22 a23)) chosen_8)) (t_lc (L := (some chosen_8)) (ea := (e2 eI eI)) (eb := (e2 eI eI)) (T := fun (i19 : (Int × Int)) => (some true)) (Bf := fun (i19 : (Int × Int)) => ((some i19).bind fun a22 => (atI chosen_8 i7).bind fun a23 => N_divided a22 a23)) (i_seqL (A := (some chosen_8)) (e := (e2 eI eI)) (t_var (i := 4) (e := (eL (e2 eI eI))) (v := chosen_8) rfl)) (fun i19 => ⟨[.dat ((eL (eL (e2 eI eI))) equations'), .own (List.map (eL (e2 eI eI)) rows_16), .dat ((eL (eL (e2 eI eI))) s5.2), .dat (eI i7), .dat ((eL (e2 eI eI)) chosen_8), z6.2.2, .dat ((e2 eI eI) i19), .no], rfl, t_yes, (t_call2 (A := (some i19)) (B := (atI chosen_8 i7)) (N := N_divided) t_divided (t_var (i := 6) (e := (e2 eI eI)) (v := i19) rfl) (t_f2 (A := (some chosen_8)) (B := (some i7)) (h := (fun x20 y21 => (atI x20 y21))) g_ixL (t_var (i := 4) (e := (eL (e2 eI eI))) (v := chosen_8) rfl) (t_var (i := 3) (e := eI) (v := i7) rfl)))⟩)) (lt_of rfl) (fun solved_18 => (n_seq_own (i := 1) (ea := (eL (e2 eI eI))) (A := (compL (fun (i25 : (List (Int × Int))) => (some true)) (fun (i25 : (List (Int × Int))) => (N_without_unknown i25 i7 solved_18)) rows_16)) (t_lc (L := (some rows_16)) (ea := (eL (e2 eI eI))) (eb := (eL (e2 eI eI))) (T := fun (i25 : (List (Int × Int))) => (some true)) (Bf := fun (i25 : (List (Int × Int))) => (N_without_unknown i25 i7 solved_18)) (i_seqL (A := (some rows_16)) (e := (eL (e2 eI eI))) (t_own (i := 1) (e := (eL (e2 eI eI))) (v := rows_16) rfl)) (fun i25 => ⟨[.dat ((eL (eL (e2 eI eI))) equations'), .own (List.map (eL (e2 eI eI)) rows_16), .dat ((eL (eL (e2 eI eI))) s5.2), .dat (eI i7), .dat ((eL (e2 eI eI)) chosen_8), .dat ((eL (e2 eI eI)) solved_18), .no, .dat ((eL (e2 eI eI)) i25)], rfl, t_yes, (t_call3 (A := (some i25)) (B := (some i7)) (C := (some solved_18)) (N := N_without_unknown) t_without_unknown (t_var (i := 7) (e := (eL (e2 eI eI))) (v := i25) rfl) (t_var (i := 3) (e := eI) (v := i7) rfl) (t_var (i := 5) (e := (eL (e2 eI eI))) (v := solved_18) rfl))⟩)) (lt_of rfl) (fun rows_24 => (n_set  (K := fun done_26 => (rows_24, done_26)) (i := 2) (A := ((compL (fun (i27 : (List (Int × Int))) => (some true)) (fun (i27 : (List (Int × Int))) => (N_without_unknown i27 i7 solved_18)) s5.2).bind fun x28 => (some [solved_18]).bind fun y29 => (catO x28 y29))) (t_f2 (A := (compL (fun (i27 : (List (Int × Int))) => (some true)) (fun (i27 : (List (Int × Int))) => (N_without_unknown i27 i7 solved_18)) s5.2)) (B := (some [solved_18])) (h := (fun x28 y29 => (catO x28 y29))) g_addL (t_lc (L := (some s5.2)) (ea := (eL (e2 eI eI))) (eb := (eL (e2 eI eI))) (T := fun (i27 : (List (Int × Int))) => (some true)) (Bf := fun (i27 : (List (Int × Int))) => (N_without_unknown i27 i7 solved_18)) (i_seqL (A := (some s5.2)) (e := (eL (e2 eI eI))) (t_var (i := 2) (e := (eL (eL (e2 eI eI)))) (v := s5.2) rfl)) (fun i27 => ⟨[.dat ((eL (eL (e2 eI eI))) equations'), .own (List.map (eL (e2 eI eI)) rows_24), .dat ((eL (eL (e2 eI eI))) s5.2), .dat (eI i7), .dat ((eL (e2 eI eI)) chosen_8), .dat ((eL (e2 eI eI)) solved_18), .no, .dat ((eL (e2 eI eI)) i27)], rfl, t_yes, (t_call3 (A := (some i27)) (B := (some i7)) (C := (some solved_18)) (N := N_without_unknown) t_without_unknown (t_var (i := 7) (e := (eL (e2 eI eI))) (v := i27) rfl) (t_var (i := 3) (e := eI) (v := i7) rfl) (t_var (i := 5) (e := (eL (e2 eI eI))) (v := solved_18) rfl))⟩)) (t_lstL (L := (some [solved_18])) (t_cons (A := (some solved_18)) (L := (some [])) (t_var (i := 5) (e := (eL (e2 eI eI))) (v := solved_18) rfl) (t_nil (α := (List (Int × Int))) (e := (eL (e2 eI eI))))))) (lt_of rfl) (fun done_26 => ⟨((.dat (eI i7) : Slot), (.dat ((eL (e2 eI eI)) chosen_8) : Slot), (.dat ((eL (e2 eI eI)) solved_18) : Slot)), rfl⟩))))))))))⟩)) (fun s30 z31 => (r_ret (A := ((compL (fun (i32 : (List (Int × Int))) => (some true)) (fun (i32 : (List (Int × Int))) => (atI i32 (-(1 : Int)))) s30.2).bind (fun x36 => some x36))) (t_f1 (A := (compL (fun (i32 : (List (Int × Int))) => (some true)) (fun (i32 : (List (Int × Int))) => (atI i32 (-(1 : Int)))) s30.2)) (h := (fun x36 => some x36)) g_tupL (t_lc (L := (some s30.2)) (ea := (eL (e2 eI eI))) (eb := (e2 eI eI)) (T := fun (i32 : (List (Int × Int))) => (some true)) (Bf := fun (i32 : (List (Int × Int))) => (atI i32 (-(1 : Int)))) (i_seqL (A := (some s30.2)) (e := (eL (e2 eI eI))) (t_var (i := 2) (e := (eL (eL (e2 eI eI)))) (v := s30.2) rfl)) (fun i32 => ⟨[.dat ((eL (eL (e2 eI eI))) equations'), .own (List.map (eL (e2 eI eI)) s30.1), .dat ((eL (eL (e2 eI eI))) s30.2), z31.1, z31.2.1, z31.2.2, .no, .dat ((eL (e2 eI eI)) i32)], rfl, t_yes, (t_f2 (A := (some i32)) (B := (some (-(1 : Int)))) (h := (fun x34 y35 => (atI x34 y35))) g_ixL (t_var (i := 7) (e := (eL (e2 eI eI))) (v := i32) rfl) (t_f1 (A := (some (1 : Int))) (h := (fun x33 => some (-x33))) g_neg (t_int (i := 1))))⟩))))))))))
noncomputable def N_settled_shares (pond' : (Int × Int)) (some' : (List (Int × Int))) : Option (List (Int × Int)) := ((N_count_of_levels pond').bind fun count_1 => (((range1O count_1).bind fun l => compL (fun (i3 : Int) => (some true)) (fun (i3 : Int) => (N_turn_later pond' some' i3)) l).bind fun turns_2 => (((range2O (1 : Int) count_1).bind fun l => compL (fun (i7 : Int) => (some true)) (fun (i7 : Int) => ((some count_1).bind fun a15 => (some i7).bind fun a16 => ((range1O count_1).bind fun l => compL (fun (i8 : Int) => (some true)) (fun (i8 : Int) => ((some i8).bind fun x13 => ((atI turns_2 i8).bind fun x11 => (some i7).bind fun y12 => (atI x11 y12)).bind fun x14 => some (x13, x14))) l).bind fun a17 => (some ((0 : Int), (1 : Int))).bind fun a18 => N_equation_of a15 a16 a17 a18)) l).bind fun rows_4 => (((((repL [((1 : Int), (1 : Int))] (count_1 + (1 : Int))).bind fun x23 => (some []).bind fun y24 => some (x23 :: y24)).bind dispO).bind fun x25 => (some rows_4).bind fun y26 => (catO x25 y26)).bind fun a27 => N_solutions a27))))
noncomputable def N_settled_months (pond' : (Int × Int)) (chances' : (List (Int × Int))) : Option (List ((Int × Int) × Int × Int)) := (((N_settled_shares pond' chances').bind fun x1 => some (enumN 0 x1)).bind fun l => comp2L (fun (i2 : (Int × (Int × Int))) => (some true)) (fun (i2 : (Int × (Int × Int))) => (N_months_from pond' chances' i2.1)) (fun (i2 : (Int × (Int × Int))) (i3 : ((Int × Int) × Int × Int × Int)) => (some true)) (fun (i2 : (Int × (Int × Int))) (i3 : ((Int × Int) × Int × Int × Int)) => ((N_times i2.2 i3.1).bind fun x4 => (some i3.2.1).bind fun x5 => (some i3.2.2.1).bind fun x6 => some (x4, x5, x6))) l)
noncomputable def N_found_failing (pond' : (Int × Int)) (chances' : (List (Int × Int))) : Option (Int × Int) := (((N_settled_months pond' chances').bind fun l => compL (fun (i1 : ((Int × Int) × Int × Int)) => (some (decide (i1.2.1 < pond'.2)))) (fun (i1 : ((Int × Int) × Int × Int)) => (some i1.1)) l).bind fun a7 => N_sum_of_ratios a7)
noncomputable def N__law_settles (pond' : (Int × Int)) (chances' : (List (Int × Int))) : Option Bool := ((compL (fun (i3 : (Int × Int)) => (some (decide ((0 : Int) < i3.1)))) (fun (i3 : (Int × Int)) => (some i3)) (cutT chances' none (some pond'.2))).bind fun x9 => (some ([] : (List (Int × Int)))).bind fun y10 => some (!decide (x9 = y10)))
theorem t__law_settles (pond' : (Int × Int)) (chances' : (List (Int × Int))) : S__law_settles [(e2 eI eI) pond', (eR (e2 eI eI)) chances'] = (N__law_settles pond' chances').map eB := d_run (r_ret (A := ((compL (fun (i3 : (Int × Int)) => (some (decide ((0 : Int) < i3.1)))) (fun (i3 : (Int × Int)) => (some i3)) (cutT chances' none (some pond'.2))).bind fun x9 => (some ([] : (List (Int × Int)))).bind fun y10 => some (!decide (x9 = y10)))) (t_f2 (A := (compL (fun (i3 : (Int × Int)) => (some (decide ((0 : Int) < i3.1)))) (fun (i3 : (Int × Int)) => (some i3)) (cutT chances' none (some pond'.2)))) (B := (some ([] : (List (Int × Int))))) (h := (fun x9 y10 => some (!decide (x9 = y10)))) (g_ne (enc_L (enc_2 enc_I enc_I)) rfl) (t_lc (L := (some (cutT chances' none (some pond'.2)))) (ea := (e2 eI eI)) (eb := (e2 eI eI)) (T := fun (i3 : (Int × Int)) => (some (decide ((0 : Int) < i3.1)))) (Bf := fun (i3 : (Int × Int)) => (some i3)) (i_seqR (A := (some (cutT chances' none (some pond'.2)))) (e := (e2 eI eI)) (t_cut (A := (some chances')) (L := (some none)) (H := (some (some pond'.2))) g_cutR (t_var (i := 1) (e := (eR (e2 eI eI))) (v := chances') rfl) t_nopart (t_part (o := (some pond'.2)) (t_ixc (A := (some pond')) (k := 1) (pr := fun x1 => x1.2) (eb := eI) (fun _ => rfl) (t_var (i := 0) (e := (e2 eI eI)) (v := pond') rfl))))) (fun i3 => ⟨[.dat ((e2 eI eI) pond'), .dat ((eR (e2 eI eI)) chances'), .dat ((e2 eI eI) i3)], rfl, (t_T (P := (some (decide ((0 : Int) < i3.1)))) (t_f2 (A := (some i3.1)) (B := (some (0 : Int))) (h := (fun x7 y8 => some (decide (y8 < x7)))) g_gt (t_ixc (A := (some i3)) (k := 0) (pr := fun x4 => x4.1) (eb := eI) (fun _ => rfl) (t_var (i := 2) (e := (e2 eI eI)) (v := i3) rfl)) (t_int (i := 0)))), (t_var (i := 2) (e := (e2 eI eI)) (v := i3) rfl)⟩)) (t_lstL (L := some []) (t_nil (α := (Int × Int)) (e := (e2 eI eI))))))
noncomputable def N_check_settles__r (release' : Int) (chances' : (List (Int × Int))) : Option Bool := (iteO ((N_sum_of_ratios_1 (cutT chances' none (some release'))).bind fun x2 => (some ((0 : Int), (1 : Int))).bind fun y3 => some (decide (x2 = y3))) (some true) (some false))
theorem t_check_settles__r (release' : Int) (chances' : (List (Int × Int))) : S_check_settles__r [eI release', (eR (e2 eI eI)) chances'] = (N_check_settles__r release' chances').map eB := d_run (r_if (P := ((N_sum_of_ratios_1 (cutT chances' none (some release'))).bind fun x2 => (some ((0 : Int), (1 : Int))).bind fun y3 => some (decide (x2 = y3)))) (A := (some true)) (B := (some false)) (t_T (P := ((N_sum_of_ratios_1 (cutT chances' none (some release'))).bind fun x2 => (some ((0 : Int), (1 : Int))).bind fun y3 => some (decide (x2 = y3)))) (t_f2 (A := (N_sum_of_ratios_1 (cutT chances' none (some release')))) (B := (some ((0 : Int), (1 : Int)))) (h := (fun x2 y3 => some (decide (x2 = y3)))) (g_eq (enc_2 enc_I enc_I) rfl) (t_call1 (A := (some (cutT chances' none (some release')))) (N := N_sum_of_ratios_1) t_sum_of_ratios_1 (t_cut (A := (some chances')) (L := (some none)) (H := (some (some release'))) g_cutR (t_var (i := 1) (e := (eR (e2 eI eI))) (v := chances') rfl) t_nopart (t_part (o := (some release')) (t_var (i := 0) (e := eI) (v := release') rfl)))) (t_tup2 (A := (some (0 : Int))) (B := (some (1 : Int))) (t_int (i := 0)) (t_int (i := 1))))) (r_ret (A := (some true)) (t_bl (b := true))) (r_ret (A := (some false)) (t_bl (b := false))))
def eFn (f i : Nat) : Unit → PyData := fun _ => .dict [(.int f, .int i)]
theorem t_fn {f i : Nat} {en : En} : fFn f i en = (some ()).map (eFn f i) := rfl
theorem callV_eq {n i a j : Nat} {tb : FnT} {x : Str} {F : List PyData → Option PyData} {g : En → Option (List PyData)} {en : En} (hs : en[i]? = some (.dat (eFn a j ()))) (ht : tb[j]? = some (x, a, F)) : fCallV n tb i g en = fCall n F g en := by
  unfold fCallV
  rw [hs]
  show (match tb[j]? with
    | some e => if ((a : Nat) : Int) = (e.2.1 : Int) then fCall n e.2.2 g en else none
    | none => none) = _
  rw [ht]
  show (if ((a : Nat) : Int) = (a : Int) then fCall n F g en else none) = _
  rw [if_pos rfl]
def F_does_not_fail : En → Option Fl := (sRet (fEq (fIx (fVar 1) (fLit (.int 1))) (fIx (fVar 0) (fLit (.int 1)))))
def S_does_not_fail := runD 2 (F_does_not_fail)
def F_only_gives : En → Option Fl := (sRet (fAnd (fEq (fIx (fVar 1) (fLit (.int 1))) (fIx (fVar 0) (fLit (.int 1)))) (fEq (fIx (fVar 1) (fLit (.int 2))) (fLit (.int 0)))))
def S_only_gives := runD 2 (F_only_gives)
def F_count_of_month : En → Option Fl := (sRet (fTup (fCons (fLit (.int 1)) (fCons (fLit (.int 1)) fNil))))
def S_count_of_month := runD 1 (F_count_of_month)
def F_chance_of_spill (c_sum_of_ratios : List PyData → Option PyData) : En → Option Fl := (sRet (fCall 1 c_sum_of_ratios (fCons (fLc (iSeq (fVar 0)) (bName 1) (fT (fGt (fIx (fVar 1) (fLit (.int 2))) (fLit (.int 0)))) (fIx (fVar 1) (fLit (.int 0))) [1]) fNil)))
def S_chance_of_spill := runD 2 (F_chance_of_spill S_sum_of_ratios)
def F_sums_of_levels (ad : Str → Nat) (c_count_of_levels c_months_from c_does_not_fail c_only_gives c_equation_of c_count_of_month c_chance_of_spill c_solutions : List PyData → Option PyData) : En → Option Fl := (sSeq (sSet 4 (fCall 1 c_count_of_levels (fCons (fVar 0) fNil))) (sSeq (sOwn 5 (fLst fNil)) (sSeq (sFor (iRange1 (fVar 4)) (bName 6) (sSeq (sSet 7 (fCall 3 c_months_from (fCons (fVar 0) (fCons (fVar 1) (fCons (fVar 6) fNil))))) (sSeq (sSet 8 (fLc (iSeq (fVar 7)) (bName 9) (fT (fCallV 2 [("does_not_fail", ad "does_not_fail", c_does_not_fail), ("only_gives", ad "only_gives", c_only_gives)] 2 (fCons (fVar 0) (fCons (fVar 9) fNil)))) (fTup (fCons (fIx (fVar 9) (fLit (.int 3))) (fCons (fIx (fVar 9) (fLit (.int 0))) fNil))) [9])) (sApp 5 (fCall 4 c_equation_of (fCons (fVar 4) (fCons (fVar 6) (fCons (fVar 8) (fCons (fCallV 1 [("count_of_month", ad "count_of_month", c_count_of_month), ("chance_of_spill", ad "chance_of_spill", c_chance_of_spill)] 3 (fCons (fVar 7) fNil)) fNil))))))))) (sSeq (sRel 5) (sRet (fCall 1 c_solutions (fCons (fVar 5) fNil)))))))
def S_sums_of_levels (ad : Str → Nat) := runD 10 (F_sums_of_levels ad S_count_of_levels S_months_from S_does_not_fail S_only_gives S_equation_of S_count_of_month S_chance_of_spill S_solutions)
def F_mean_wait__r (c_check_pond_and_chances c_check_level c_check_settles__r : List PyData → Option PyData) : En → Option Fl := (sSeq (sExpr (fCall 2 c_check_pond_and_chances (fCons (fVar 0) (fCons (fVar 1) fNil)))) (sSeq (sExpr (fCall 2 c_check_level (fCons (fVar 0) (fCons (fVar 2) fNil)))) (sRet (fCall 2 c_check_settles__r (fCons (fIx (fVar 0) (fLit (.int 1))) (fCons (fVar 1) fNil))))))
def S_mean_wait__r := runD 3 (F_mean_wait__r S_check_pond_and_chances S_check_level S_check_settles__r)
def F_mean_wait (ad : Str → Nat) (c_check_pond_and_chances c_check_level c_check_settles c_sums_of_levels : List PyData → Option PyData) : En → Option Fl := (sSeq (sExpr (fCall 2 c_check_pond_and_chances (fCons (fVar 0) (fCons (fVar 1) fNil)))) (sSeq (sExpr (fCall 2 c_check_level (fCons (fVar 0) (fCons (fVar 2) fNil)))) (sSeq (sExpr (fCall 2 c_check_settles (fCons (fIx (fVar 0) (fLit (.int 1))) (fCons (fVar 1) fNil)))) (sRet (fIx (fCall 4 c_sums_of_levels (fCons (fVar 0) (fCons (fVar 1) (fCons (fFn (ad "does_not_fail") 0) (fCons (fFn (ad "count_of_month") 0) fNil))))) (fVar 2))))))
def S_mean_wait (ad : Str → Nat) := runD 3 (F_mean_wait ad S_check_pond_and_chances S_check_level S_check_settles (S_sums_of_levels ad))
def F_spill_first__r (c_check_pond_and_chances c_check_level c_check_settles__r : List PyData → Option PyData) : En → Option Fl := (sSeq (sExpr (fCall 2 c_check_pond_and_chances (fCons (fVar 0) (fCons (fVar 1) fNil)))) (sSeq (sExpr (fCall 2 c_check_level (fCons (fVar 0) (fCons (fVar 2) fNil)))) (sRet (fCall 2 c_check_settles__r (fCons (fIx (fVar 0) (fLit (.int 1))) (fCons (fVar 1) fNil))))))
def S_spill_first__r := runD 3 (F_spill_first__r S_check_pond_and_chances S_check_level S_check_settles__r)
def F_spill_first (ad : Str → Nat) (c_check_pond_and_chances c_check_level c_check_settles c_sums_of_levels : List PyData → Option PyData) : En → Option Fl := (sSeq (sExpr (fCall 2 c_check_pond_and_chances (fCons (fVar 0) (fCons (fVar 1) fNil)))) (sSeq (sExpr (fCall 2 c_check_level (fCons (fVar 0) (fCons (fVar 2) fNil)))) (sSeq (sExpr (fCall 2 c_check_settles (fCons (fIx (fVar 0) (fLit (.int 1))) (fCons (fVar 1) fNil)))) (sRet (fIx (fCall 4 c_sums_of_levels (fCons (fVar 0) (fCons (fVar 1) (fCons (fFn (ad "only_gives") 1) (fCons (fFn (ad "chance_of_spill") 1) fNil))))) (fVar 2))))))
def S_spill_first (ad : Str → Nat) := runD 3 (F_spill_first ad S_check_pond_and_chances S_check_level S_check_settles (S_sums_of_levels ad))
noncomputable def N_does_not_fail (pond' : (Int × Int)) (month' : ((Int × Int) × Int × Int × Int)) : Option Bool := (some (decide (month'.2.1 = pond'.2)))
theorem t_does_not_fail (pond' : (Int × Int)) (month' : ((Int × Int) × Int × Int × Int)) : S_does_not_fail [(e2 eI eI) pond', (e4 (e2 eI eI) eI eI eI) month'] = (N_does_not_fail pond' month').map eB := d_run (r_ret (A := (some (decide (month'.2.1 = pond'.2)))) (t_f2 (A := (some month'.2.1)) (B := (some pond'.2)) (h := (fun x3 y4 => some (decide (x3 = y4)))) (g_eq enc_I rfl) (t_ixc (A := (some month')) (k := 1) (pr := fun x1 => x1.2.1) (eb := eI) (fun _ => rfl) (t_var (i := 1) (e := (e4 (e2 eI eI) eI eI eI)) (v := month') rfl)) (t_ixc (A := (some pond')) (k := 1) (pr := fun x2 => x2.2) (eb := eI) (fun _ => rfl) (t_var (i := 0) (e := (e2 eI eI)) (v := pond') rfl))))
noncomputable def N_count_of_month (_' : (List ((Int × Int) × Int × Int × Int))) : Option (Int × Int) := (some ((1 : Int), (1 : Int)))
theorem t_count_of_month (_' : (List ((Int × Int) × Int × Int × Int))) : S_count_of_month [(eL (e4 (e2 eI eI) eI eI eI)) _'] = (N_count_of_month _').map (e2 eI eI) := d_run (r_ret (A := (some ((1 : Int), (1 : Int)))) (t_tup2 (A := (some (1 : Int))) (B := (some (1 : Int))) (t_int (i := 1)) (t_int (i := 1))))
noncomputable def N_sums_of_levels (pond' : (Int × Int)) (chances' : (List (Int × Int))) (goes_on' : Unit) (adds' : Unit) : Option (List (Int × Int)) := ((N_count_of_levels pond').bind fun count_1 => ((some []).bind fun rows_2 => (((range1O count_1).bind fun l => foldO (fun (i5 : Int) (s3 : ((List (List (Int × Int))))) => ((N_months_from pond' chances' i5).bind fun months_6 => ((compL (fun (i8 : ((Int × Int) × Int × Int × Int)) => (N_does_not_fail pond' i8)) (fun (i8 : ((Int × Int) × Int × Int × Int)) => (some (i8.2.2.2, i8.1))) months_6).bind fun going_7 => (((some count_1).bind fun a11 => (some i5).bind fun a12 => (some going_7).bind fun a13 => (N_count_of_month months_6).bind fun a14 => N_equation_of a11 a12 a13 a14).bind fun x16 => (appO s3 x16).bind fun rows_15 => some rows_15)))) l rows_2).bind fun s17 => (N_solutions s17))))
theorem t_sums_of_levels (ad : Str → Nat) (pond' : (Int × Int)) (chances' : (List (Int × Int))) (goes_on' : Unit) (adds' : Unit) : (S_sums_of_levels ad) [(e2 eI eI) pond', (eR (e2 eI eI)) chances', (eFn (ad "does_not_fail") 0) goes_on', (eFn (ad "count_of_month") 0) adds'] = (N_sums_of_levels pond' chances' goes_on' adds').map (eR (e2 eI eI)) := d_run (r_seq_set (i := 4) (A := (N_count_of_levels pond')) (t_call1 (A := (some pond')) (N := N_count_of_levels) t_count_of_levels (t_var (i := 0) (e := (e2 eI eI)) (v := pond') rfl)) (lt_of rfl) (fun count_1 => (r_seq_own (i := 5) (ea := (eL (e2 eI eI))) (A := (some [])) (t_lstL (L := some []) (t_nil (α := (List (Int × Int))) (e := (eL (e2 eI eI))))) (lt_of rfl) (fun rows_2 => (r_seq_nx (env := (fun (s : ((List (List (Int × Int))))) (z : (Slot × Slot × Slot)) => [.dat ((e2 eI eI) pond'), .dat ((eR (e2 eI eI)) chances'), .dat ((eFn (ad "does_not_fail") 0) goes_on'), .dat ((eFn (ad "count_of_month") 0) adds'), .dat (eI count_1), .own (List.map (eL (e2 eI eI)) s), z.1, z.2.1, z.2.2, .no])) (n_for (env := (fun (s : ((List (List (Int × Int))))) (z : (Slot × Slot × Slot)) => [.dat ((e2 eI eI) pond'), .dat ((eR (e2 eI eI)) chances'), .dat ((eFn (ad "does_not_fail") 0) goes_on'), .dat ((eFn (ad "count_of_month") 0) adds'), .dat (eI count_1), .own (List.map (eL (e2 eI eI)) s), z.1, z.2.1, z.2.2, .no])) (s := rows_2) (z := ((.no : Slot), (.no : Slot), (.no : Slot))) (L := (range1O count_1)) (ea := eI) (Bd := (fun (i5 : Int) (s3 : ((List (List (Int × Int))))) => ((N_months_from pond' chances' i5).bind fun months_6 => ((compL (fun (i8 : ((Int × Int) × Int × Int × Int)) => (N_does_not_fail pond' i8)) (fun (i8 : ((Int × Int) × Int × Int × Int)) => (some (i8.2.2.2, i8.1))) months_6).bind fun going_7 => (((some count_1).bind fun a11 => (some i5).bind fun a12 => (some going_7).bind fun a13 => (N_count_of_month months_6).bind fun a14 => N_equation_of a11 a12 a13 a14).bind fun x16 => (appO s3 x16).bind fun rows_15 => some rows_15))))) rfl (i_range1 (A := (some count_1)) (t_var (i := 4) (e := eI) (v := count_1) rfl)) (fun i5 s3 z4 => ⟨[.dat ((e2 eI eI) pond'), .dat ((eR (e2 eI eI)) chances'), .dat ((eFn (ad "does_not_fail") 0) goes_on'), .dat ((eFn (ad "count_of_month") 0) adds'), .dat (eI count_1), .own (List.map (eL (e2 eI eI)) s3), .dat (eI i5), z4.2.1, z4.2.2, .no], rfl, (n_seq_set (i := 7) (A := (N_months_from pond' chances' i5)) (t_call3 (A := (some pond')) (B := (some chances')) (C := (some i5)) (N := N_months_from) t_months_from (t_var (i := 0) (e := (e2 eI eI)) (v := pond') rfl) (t_var (i := 1) (e := (eR (e2 eI eI))) (v := chances') rfl) (t_var (i := 6) (e := eI) (v := i5) rfl)) (lt_of rfl) (fun months_6 => (n_seq_set (i := 8) (A := (compL (fun (i8 : ((Int × Int) × Int × Int × Int)) => (N_does_not_fail pond' i8)) (fun (i8 : ((Int × Int) × Int × Int × Int)) => (some (i8.2.2.2, i8.1))) months_6)) (t_lc (L := (some months_6)) (ea := (e4 (e2 eI eI) eI eI eI)) (eb := (e2 eI (e2 eI eI))) (T := fun (i8 : ((Int × Int) × Int × Int × Int)) => (N_does_not_fail pond' i8)) (Bf := fun (i8 : ((Int × Int) × Int × Int × Int)) => (some (i8.2.2.2, i8.1))) (i_seqL (A := (some months_6)) (e := (e4 (e2 eI eI) eI eI eI)) (t_var (i := 7) (e := (eL (e4 (e2 eI eI) eI eI eI))) (v := months_6) rfl)) (fun i8 => ⟨[.dat ((e2 eI eI) pond'), .dat ((eR (e2 eI eI)) chances'), .dat ((eFn (ad "does_not_fail") 0) goes_on'), .dat ((eFn (ad "count_of_month") 0) adds'), .dat (eI count_1), .own (List.map (eL (e2 eI eI)) s3), .dat (eI i5), .dat ((eL (e4 (e2 eI eI) eI eI eI)) months_6), z4.2.2, .dat ((e4 (e2 eI eI) eI eI eI) i8)], rfl, (t_T (P := (N_does_not_fail pond' i8)) (Eq.trans (callV_eq (x := "does_not_fail") (a := ad "does_not_fail") (j := 0) rfl rfl) (t_call2 (A := (some pond')) (B := (some i8)) (N := N_does_not_fail) t_does_not_fail (t_var (i := 0) (e := (e2 eI eI)) (v := pond') rfl) (t_var (i := 9) (e := (e4 (e2 eI eI) eI eI eI)) (v := i8) rfl)))), (t_tup2 (A := (some i8.2.2.2)) (B := (some i8.1)) (t_ixc (A := (some i8)) (k := 3) (pr := fun x9 => x9.2.2.2) (eb := eI) (fun _ => rfl) (t_var (i := 9) (e := (e4 (e2 eI eI) eI eI eI)) (v := i8) rfl)) (t_ixc (A := (some i8)) (k := 0) (pr := fun x10 => x10.1) (eb := (e2 eI eI)) (fun _ => rfl) (t_var (i := 9) (e := (e4 (e2 eI eI) eI eI eI)) (v := i8) rfl)))⟩)) (lt_of rfl) (fun going_7 => (n_app (i := 5) (A := ((some count_1).bind fun a11 => (some i5).bind fun a12 => (some going_7).bind fun a13 => (N_count_of_month months_6).bind fun a14 => N_equation_of a11 a12 a13 a14)) (v := s3) (K := fun rows_15 => rows_15) (t_call4 (A := (some count_1)) (B := (some i5)) (C := (some going_7)) (D := (N_count_of_month months_6)) (N := N_equation_of) t_equation_of (t_var (i := 4) (e := eI) (v := count_1) rfl) (t_var (i := 6) (e := eI) (v := i5) rfl) (t_var (i := 8) (e := (eL (e2 eI (e2 eI eI)))) (v := going_7) rfl) (Eq.trans (callV_eq (x := "count_of_month") (a := ad "count_of_month") (j := 0) rfl rfl) (t_call1 (A := (some months_6)) (N := N_count_of_month) t_count_of_month (t_var (i := 7) (e := (eL (e4 (e2 eI eI) eI eI eI))) (v := months_6) rfl)))) rfl (fun rows_15 => ⟨((.dat (eI i5) : Slot), (.dat ((eL (e4 (e2 eI eI) eI eI eI)) months_6) : Slot), (.dat ((eL (e2 eI (e2 eI eI))) going_7) : Slot)), rfl⟩))))))⟩)) (fun s17 z18 => (r_seq_rel (i := 5) (ea := (eL (e2 eI eI))) (a := s17) rfl (r_ret (A := (N_solutions s17)) (t_call1 (A := (some s17)) (N := N_solutions) t_solutions (t_var (i := 5) (e := (eL (eL (e2 eI eI)))) (v := s17) rfl))))))))))
noncomputable def N_mean_wait (pond' : (Int × Int)) (chances' : (List (Int × Int))) (level' : Int) : Option (Int × Int) := ((N_check_pond_and_chances pond' chances').bind fun _ => ((N_check_level pond' level').bind fun _ => ((N_check_settles pond'.2 chances').bind fun _ => ((N_sums_of_levels pond' chances' () ()).bind fun x2 => (some level').bind fun y3 => (atI x2 y3)))))
theorem t_mean_wait (ad : Str → Nat) (pond' : (Int × Int)) (chances' : (List (Int × Int))) (level' : Int) : (S_mean_wait ad) [(e2 eI eI) pond', (eR (e2 eI eI)) chances', eI level'] = (N_mean_wait pond' chances' level').map (e2 eI eI) := d_run (r_seq_expr (A := (N_check_pond_and_chances pond' chances')) (t_call2 (A := (some pond')) (B := (some chances')) (N := N_check_pond_and_chances) t_check_pond_and_chances (t_var (i := 0) (e := (e2 eI eI)) (v := pond') rfl) (t_var (i := 1) (e := (eR (e2 eI eI))) (v := chances') rfl)) (r_seq_expr (A := (N_check_level pond' level')) (t_call2 (A := (some pond')) (B := (some level')) (N := N_check_level) t_check_level (t_var (i := 0) (e := (e2 eI eI)) (v := pond') rfl) (t_var (i := 2) (e := eI) (v := level') rfl)) (r_seq_expr (A := (N_check_settles pond'.2 chances')) (t_call2 (A := (some pond'.2)) (B := (some chances')) (N := N_check_settles) t_check_settles (t_ixc (A := (some pond')) (k := 1) (pr := fun x1 => x1.2) (eb := eI) (fun _ => rfl) (t_var (i := 0) (e := (e2 eI eI)) (v := pond') rfl)) (t_var (i := 1) (e := (eR (e2 eI eI))) (v := chances') rfl)) (r_ret (A := ((N_sums_of_levels pond' chances' () ()).bind fun x2 => (some level').bind fun y3 => (atI x2 y3))) (t_f2 (A := (N_sums_of_levels pond' chances' () ())) (B := (some level')) (h := (fun x2 y3 => (atI x2 y3))) g_ixR (t_call4 (A := (some pond')) (B := (some chances')) (C := (some ())) (D := (some ())) (N := N_sums_of_levels) (t_sums_of_levels ad) (t_var (i := 0) (e := (e2 eI eI)) (v := pond') rfl) (t_var (i := 1) (e := (eR (e2 eI eI))) (v := chances') rfl) (t_fn (f := ad "does_not_fail") (i := 0)) (t_fn (f := ad "count_of_month") (i := 0))) (t_var (i := 2) (e := eI) (v := level') rfl))))))
noncomputable def N_only_gives (pond' : (Int × Int)) (month' : ((Int × Int) × Int × Int × Int)) : Option Bool := (some ((decide (month'.2.1 = pond'.2)) && (decide (month'.2.2.1 = (0 : Int)))))
theorem t_only_gives (pond' : (Int × Int)) (month' : ((Int × Int) × Int × Int × Int)) : S_only_gives [(e2 eI eI) pond', (e4 (e2 eI eI) eI eI eI) month'] = (N_only_gives pond' month').map eB := d_run (r_ret (A := (some ((decide (month'.2.1 = pond'.2)) && (decide (month'.2.2.1 = (0 : Int)))))) (t_andP (b := (decide (month'.2.1 = pond'.2))) (c := (decide (month'.2.2.1 = (0 : Int)))) (t_f2 (A := (some month'.2.1)) (B := (some pond'.2)) (h := (fun x3 y4 => some (decide (x3 = y4)))) (g_eq enc_I rfl) (t_ixc (A := (some month')) (k := 1) (pr := fun x1 => x1.2.1) (eb := eI) (fun _ => rfl) (t_var (i := 1) (e := (e4 (e2 eI eI) eI eI eI)) (v := month') rfl)) (t_ixc (A := (some pond')) (k := 1) (pr := fun x2 => x2.2) (eb := eI) (fun _ => rfl) (t_var (i := 0) (e := (e2 eI eI)) (v := pond') rfl))) (t_f2 (A := (some month'.2.2.1)) (B := (some (0 : Int))) (h := (fun x6 y7 => some (decide (x6 = y7)))) (g_eq enc_I rfl) (t_ixc (A := (some month')) (k := 2) (pr := fun x5 => x5.2.2.1) (eb := eI) (fun _ => rfl) (t_var (i := 1) (e := (e4 (e2 eI eI) eI eI eI)) (v := month') rfl)) (t_int (i := 0)))))
noncomputable def N_chance_of_spill (months' : (List ((Int × Int) × Int × Int × Int))) : Option (Int × Int) := ((compL (fun (i1 : ((Int × Int) × Int × Int × Int)) => (some (decide ((0 : Int) < i1.2.2.1)))) (fun (i1 : ((Int × Int) × Int × Int × Int)) => (some i1.1)) months').bind fun a8 => N_sum_of_ratios a8)
theorem t_chance_of_spill (months' : (List ((Int × Int) × Int × Int × Int))) : S_chance_of_spill [(eL (e4 (e2 eI eI) eI eI eI)) months'] = (N_chance_of_spill months').map (e2 eI eI) := d_run (r_ret (A := ((compL (fun (i1 : ((Int × Int) × Int × Int × Int)) => (some (decide ((0 : Int) < i1.2.2.1)))) (fun (i1 : ((Int × Int) × Int × Int × Int)) => (some i1.1)) months').bind fun a8 => N_sum_of_ratios a8)) (t_call1 (A := (compL (fun (i1 : ((Int × Int) × Int × Int × Int)) => (some (decide ((0 : Int) < i1.2.2.1)))) (fun (i1 : ((Int × Int) × Int × Int × Int)) => (some i1.1)) months')) (N := N_sum_of_ratios) t_sum_of_ratios (t_lc (L := (some months')) (ea := (e4 (e2 eI eI) eI eI eI)) (eb := (e2 eI eI)) (T := fun (i1 : ((Int × Int) × Int × Int × Int)) => (some (decide ((0 : Int) < i1.2.2.1)))) (Bf := fun (i1 : ((Int × Int) × Int × Int × Int)) => (some i1.1)) (i_seqL (A := (some months')) (e := (e4 (e2 eI eI) eI eI eI)) (t_var (i := 0) (e := (eL (e4 (e2 eI eI) eI eI eI))) (v := months') rfl)) (fun i1 => ⟨[.dat ((eL (e4 (e2 eI eI) eI eI eI)) months'), .dat ((e4 (e2 eI eI) eI eI eI) i1)], rfl, (t_T (P := (some (decide ((0 : Int) < i1.2.2.1)))) (t_f2 (A := (some i1.2.2.1)) (B := (some (0 : Int))) (h := (fun x5 y6 => some (decide (y6 < x5)))) g_gt (t_ixc (A := (some i1)) (k := 2) (pr := fun x2 => x2.2.2.1) (eb := eI) (fun _ => rfl) (t_var (i := 1) (e := (e4 (e2 eI eI) eI eI eI)) (v := i1) rfl)) (t_int (i := 0)))), (t_ixc (A := (some i1)) (k := 0) (pr := fun x7 => x7.1) (eb := (e2 eI eI)) (fun _ => rfl) (t_var (i := 1) (e := (e4 (e2 eI eI) eI eI eI)) (v := i1) rfl))⟩))))
noncomputable def N_sums_of_levels_1 (pond' : (Int × Int)) (chances' : (List (Int × Int))) (goes_on' : Unit) (adds' : Unit) : Option (List (Int × Int)) := ((N_count_of_levels pond').bind fun count_1 => ((some []).bind fun rows_2 => (((range1O count_1).bind fun l => foldO (fun (i5 : Int) (s3 : ((List (List (Int × Int))))) => ((N_months_from pond' chances' i5).bind fun months_6 => ((compL (fun (i8 : ((Int × Int) × Int × Int × Int)) => (N_only_gives pond' i8)) (fun (i8 : ((Int × Int) × Int × Int × Int)) => (some (i8.2.2.2, i8.1))) months_6).bind fun going_7 => (((some count_1).bind fun a11 => (some i5).bind fun a12 => (some going_7).bind fun a13 => (N_chance_of_spill months_6).bind fun a14 => N_equation_of a11 a12 a13 a14).bind fun x16 => (appO s3 x16).bind fun rows_15 => some rows_15)))) l rows_2).bind fun s17 => (N_solutions s17))))
theorem t_sums_of_levels_1 (ad : Str → Nat) (pond' : (Int × Int)) (chances' : (List (Int × Int))) (goes_on' : Unit) (adds' : Unit) : (S_sums_of_levels ad) [(e2 eI eI) pond', (eR (e2 eI eI)) chances', (eFn (ad "only_gives") 1) goes_on', (eFn (ad "chance_of_spill") 1) adds'] = (N_sums_of_levels_1 pond' chances' goes_on' adds').map (eR (e2 eI eI)) := d_run (r_seq_set (i := 4) (A := (N_count_of_levels pond')) (t_call1 (A := (some pond')) (N := N_count_of_levels) t_count_of_levels (t_var (i := 0) (e := (e2 eI eI)) (v := pond') rfl)) (lt_of rfl) (fun count_1 => (r_seq_own (i := 5) (ea := (eL (e2 eI eI))) (A := (some [])) (t_lstL (L := some []) (t_nil (α := (List (Int × Int))) (e := (eL (e2 eI eI))))) (lt_of rfl) (fun rows_2 => (r_seq_nx (env := (fun (s : ((List (List (Int × Int))))) (z : (Slot × Slot × Slot)) => [.dat ((e2 eI eI) pond'), .dat ((eR (e2 eI eI)) chances'), .dat ((eFn (ad "only_gives") 1) goes_on'), .dat ((eFn (ad "chance_of_spill") 1) adds'), .dat (eI count_1), .own (List.map (eL (e2 eI eI)) s), z.1, z.2.1, z.2.2, .no])) (n_for (env := (fun (s : ((List (List (Int × Int))))) (z : (Slot × Slot × Slot)) => [.dat ((e2 eI eI) pond'), .dat ((eR (e2 eI eI)) chances'), .dat ((eFn (ad "only_gives") 1) goes_on'), .dat ((eFn (ad "chance_of_spill") 1) adds'), .dat (eI count_1), .own (List.map (eL (e2 eI eI)) s), z.1, z.2.1, z.2.2, .no])) (s := rows_2) (z := ((.no : Slot), (.no : Slot), (.no : Slot))) (L := (range1O count_1)) (ea := eI) (Bd := (fun (i5 : Int) (s3 : ((List (List (Int × Int))))) => ((N_months_from pond' chances' i5).bind fun months_6 => ((compL (fun (i8 : ((Int × Int) × Int × Int × Int)) => (N_only_gives pond' i8)) (fun (i8 : ((Int × Int) × Int × Int × Int)) => (some (i8.2.2.2, i8.1))) months_6).bind fun going_7 => (((some count_1).bind fun a11 => (some i5).bind fun a12 => (some going_7).bind fun a13 => (N_chance_of_spill months_6).bind fun a14 => N_equation_of a11 a12 a13 a14).bind fun x16 => (appO s3 x16).bind fun rows_15 => some rows_15))))) rfl (i_range1 (A := (some count_1)) (t_var (i := 4) (e := eI) (v := count_1) rfl)) (fun i5 s3 z4 => ⟨[.dat ((e2 eI eI) pond'), .dat ((eR (e2 eI eI)) chances'), .dat ((eFn (ad "only_gives") 1) goes_on'), .dat ((eFn (ad "chance_of_spill") 1) adds'), .dat (eI count_1), .own (List.map (eL (e2 eI eI)) s3), .dat (eI i5), z4.2.1, z4.2.2, .no], rfl, (n_seq_set (i := 7) (A := (N_months_from pond' chances' i5)) (t_call3 (A := (some pond')) (B := (some chances')) (C := (some i5)) (N := N_months_from) t_months_from (t_var (i := 0) (e := (e2 eI eI)) (v := pond') rfl) (t_var (i := 1) (e := (eR (e2 eI eI))) (v := chances') rfl) (t_var (i := 6) (e := eI) (v := i5) rfl)) (lt_of rfl) (fun months_6 => (n_seq_set (i := 8) (A := (compL (fun (i8 : ((Int × Int) × Int × Int × Int)) => (N_only_gives pond' i8)) (fun (i8 : ((Int × Int) × Int × Int × Int)) => (some (i8.2.2.2, i8.1))) months_6)) (t_lc (L := (some months_6)) (ea := (e4 (e2 eI eI) eI eI eI)) (eb := (e2 eI (e2 eI eI))) (T := fun (i8 : ((Int × Int) × Int × Int × Int)) => (N_only_gives pond' i8)) (Bf := fun (i8 : ((Int × Int) × Int × Int × Int)) => (some (i8.2.2.2, i8.1))) (i_seqL (A := (some months_6)) (e := (e4 (e2 eI eI) eI eI eI)) (t_var (i := 7) (e := (eL (e4 (e2 eI eI) eI eI eI))) (v := months_6) rfl)) (fun i8 => ⟨[.dat ((e2 eI eI) pond'), .dat ((eR (e2 eI eI)) chances'), .dat ((eFn (ad "only_gives") 1) goes_on'), .dat ((eFn (ad "chance_of_spill") 1) adds'), .dat (eI count_1), .own (List.map (eL (e2 eI eI)) s3), .dat (eI i5), .dat ((eL (e4 (e2 eI eI) eI eI eI)) months_6), z4.2.2, .dat ((e4 (e2 eI eI) eI eI eI) i8)], rfl, (t_T (P := (N_only_gives pond' i8)) (Eq.trans (callV_eq (x := "only_gives") (a := ad "only_gives") (j := 1) rfl rfl) (t_call2 (A := (some pond')) (B := (some i8)) (N := N_only_gives) t_only_gives (t_var (i := 0) (e := (e2 eI eI)) (v := pond') rfl) (t_var (i := 9) (e := (e4 (e2 eI eI) eI eI eI)) (v := i8) rfl)))), (t_tup2 (A := (some i8.2.2.2)) (B := (some i8.1)) (t_ixc (A := (some i8)) (k := 3) (pr := fun x9 => x9.2.2.2) (eb := eI) (fun _ => rfl) (t_var (i := 9) (e := (e4 (e2 eI eI) eI eI eI)) (v := i8) rfl)) (t_ixc (A := (some i8)) (k := 0) (pr := fun x10 => x10.1) (eb := (e2 eI eI)) (fun _ => rfl) (t_var (i := 9) (e := (e4 (e2 eI eI) eI eI eI)) (v := i8) rfl)))⟩)) (lt_of rfl) (fun going_7 => (n_app (i := 5) (A := ((some count_1).bind fun a11 => (some i5).bind fun a12 => (some going_7).bind fun a13 => (N_chance_of_spill months_6).bind fun a14 => N_equation_of a11 a12 a13 a14)) (v := s3) (K := fun rows_15 => rows_15) (t_call4 (A := (some count_1)) (B := (some i5)) (C := (some going_7)) (D := (N_chance_of_spill months_6)) (N := N_equation_of) t_equation_of (t_var (i := 4) (e := eI) (v := count_1) rfl) (t_var (i := 6) (e := eI) (v := i5) rfl) (t_var (i := 8) (e := (eL (e2 eI (e2 eI eI)))) (v := going_7) rfl) (Eq.trans (callV_eq (x := "chance_of_spill") (a := ad "chance_of_spill") (j := 1) rfl rfl) (t_call1 (A := (some months_6)) (N := N_chance_of_spill) t_chance_of_spill (t_var (i := 7) (e := (eL (e4 (e2 eI eI) eI eI eI))) (v := months_6) rfl)))) rfl (fun rows_15 => ⟨((.dat (eI i5) : Slot), (.dat ((eL (e4 (e2 eI eI) eI eI eI)) months_6) : Slot), (.dat ((eL (e2 eI (e2 eI eI))) going_7) : Slot)), rfl⟩))))))⟩)) (fun s17 z18 => (r_seq_rel (i := 5) (ea := (eL (e2 eI eI))) (a := s17) rfl (r_ret (A := (N_solutions s17)) (t_call1 (A := (some s17)) (N := N_solutions) t_solutions (t_var (i := 5) (e := (eL (eL (e2 eI eI)))) (v := s17) rfl))))))))))
noncomputable def N_spill_first (pond' : (Int × Int)) (chances' : (List (Int × Int))) (level' : Int) : Option (Int × Int) := ((N_check_pond_and_chances pond' chances').bind fun _ => ((N_check_level pond' level').bind fun _ => ((N_check_settles pond'.2 chances').bind fun _ => ((N_sums_of_levels_1 pond' chances' () ()).bind fun x2 => (some level').bind fun y3 => (atI x2 y3)))))
theorem t_spill_first (ad : Str → Nat) (pond' : (Int × Int)) (chances' : (List (Int × Int))) (level' : Int) : (S_spill_first ad) [(e2 eI eI) pond', (eR (e2 eI eI)) chances', eI level'] = (N_spill_first pond' chances' level').map (e2 eI eI) := d_run (r_seq_expr (A := (N_check_pond_and_chances pond' chances')) (t_call2 (A := (some pond')) (B := (some chances')) (N := N_check_pond_and_chances) t_check_pond_and_chances (t_var (i := 0) (e := (e2 eI eI)) (v := pond') rfl) (t_var (i := 1) (e := (eR (e2 eI eI))) (v := chances') rfl)) (r_seq_expr (A := (N_check_level pond' level')) (t_call2 (A := (some pond')) (B := (some level')) (N := N_check_level) t_check_level (t_var (i := 0) (e := (e2 eI eI)) (v := pond') rfl) (t_var (i := 2) (e := eI) (v := level') rfl)) (r_seq_expr (A := (N_check_settles pond'.2 chances')) (t_call2 (A := (some pond'.2)) (B := (some chances')) (N := N_check_settles) t_check_settles (t_ixc (A := (some pond')) (k := 1) (pr := fun x1 => x1.2) (eb := eI) (fun _ => rfl) (t_var (i := 0) (e := (e2 eI eI)) (v := pond') rfl)) (t_var (i := 1) (e := (eR (e2 eI eI))) (v := chances') rfl)) (r_ret (A := ((N_sums_of_levels_1 pond' chances' () ()).bind fun x2 => (some level').bind fun y3 => (atI x2 y3))) (t_f2 (A := (N_sums_of_levels_1 pond' chances' () ())) (B := (some level')) (h := (fun x2 y3 => (atI x2 y3))) g_ixR (t_call4 (A := (some pond')) (B := (some chances')) (C := (some ())) (D := (some ())) (N := N_sums_of_levels_1) (t_sums_of_levels_1 ad) (t_var (i := 0) (e := (e2 eI eI)) (v := pond') rfl) (t_var (i := 1) (e := (eR (e2 eI eI))) (v := chances') rfl) (t_fn (f := ad "only_gives") (i := 1)) (t_fn (f := ad "chance_of_spill") (i := 1))) (t_var (i := 2) (e := eI) (v := level') rfl))))))
noncomputable def N_mean_wait__r (pond' : (Int × Int)) (chances' : (List (Int × Int))) (level' : Int) : Option Bool := ((N_check_pond_and_chances pond' chances').bind fun _ => ((N_check_level pond' level').bind fun _ => (N_check_settles__r pond'.2 chances')))
theorem t_mean_wait__r (pond' : (Int × Int)) (chances' : (List (Int × Int))) (level' : Int) : S_mean_wait__r [(e2 eI eI) pond', (eR (e2 eI eI)) chances', eI level'] = (N_mean_wait__r pond' chances' level').map eB := d_run (r_seq_expr (A := (N_check_pond_and_chances pond' chances')) (t_call2 (A := (some pond')) (B := (some chances')) (N := N_check_pond_and_chances) t_check_pond_and_chances (t_var (i := 0) (e := (e2 eI eI)) (v := pond') rfl) (t_var (i := 1) (e := (eR (e2 eI eI))) (v := chances') rfl)) (r_seq_expr (A := (N_check_level pond' level')) (t_call2 (A := (some pond')) (B := (some level')) (N := N_check_level) t_check_level (t_var (i := 0) (e := (e2 eI eI)) (v := pond') rfl) (t_var (i := 2) (e := eI) (v := level') rfl)) (r_ret (A := (N_check_settles__r pond'.2 chances')) (t_call2 (A := (some pond'.2)) (B := (some chances')) (N := N_check_settles__r) t_check_settles__r (t_ixc (A := (some pond')) (k := 1) (pr := fun x1 => x1.2) (eb := eI) (fun _ => rfl) (t_var (i := 0) (e := (e2 eI eI)) (v := pond') rfl)) (t_var (i := 1) (e := (eR (e2 eI eI))) (v := chances') rfl)))))
noncomputable def N_spill_first__r (pond' : (Int × Int)) (chances' : (List (Int × Int))) (level' : Int) : Option Bool := ((N_check_pond_and_chances pond' chances').bind fun _ => ((N_check_level pond' level').bind fun _ => (N_check_settles__r pond'.2 chances')))
theorem t_spill_first__r (pond' : (Int × Int)) (chances' : (List (Int × Int))) (level' : Int) : S_spill_first__r [(e2 eI eI) pond', (eR (e2 eI eI)) chances', eI level'] = (N_spill_first__r pond' chances' level').map eB := d_run (r_seq_expr (A := (N_check_pond_and_chances pond' chances')) (t_call2 (A := (some pond')) (B := (some chances')) (N := N_check_pond_and_chances) t_check_pond_and_chances (t_var (i := 0) (e := (e2 eI eI)) (v := pond') rfl) (t_var (i := 1) (e := (eR (e2 eI eI))) (v := chances') rfl)) (r_seq_expr (A := (N_check_level pond' level')) (t_call2 (A := (some pond')) (B := (some level')) (N := N_check_level) t_check_level (t_var (i := 0) (e := (e2 eI eI)) (v := pond') rfl) (t_var (i := 2) (e := eI) (v := level') rfl)) (r_ret (A := (N_check_settles__r pond'.2 chances')) (t_call2 (A := (some pond'.2)) (B := (some chances')) (N := N_check_settles__r) t_check_settles__r (t_ixc (A := (some pond')) (k := 1) (pr := fun x1 => x1.2) (eb := eI) (fun _ => rfl) (t_var (i := 0) (e := (e2 eI eI)) (v := pond') rfl)) (t_var (i := 1) (e := (eR (e2 eI eI))) (v := chances') rfl)))))
def F__law_pond (c__law_ratio : List PyData → Option PyData) : LF := (lSeq (lSet 1 (w2 gPlus (wP 0 (fLit (.int 1))) (wDraw 1 cTaken (wCons (wP 0 (fLit (.int 8))) wNil)))) (lSeq (lSet 2 (w2 gPlus (wP 0 (fLit (.int 1))) (wDraw 1 cPick (wCons (wLst (wCons (wP 0 (fLit (.int 0))) (wCons (wDraw 1 cTaken (wCons (wP 0 (fVar 1)) wNil)) wNil))) wNil)))) (lSeq (lOwnW 3 (wLc (wRange1 (w2 gPlus (wP 0 (fLit (.int 2))) (wDraw 1 cTaken (wCons (wP 0 (fLit (.int 5))) wNil)))) (bName 4) wYes (wDraw 1 cPick (wCons (wLst (wCons (wP 0 (fLit (.int 0))) (wCons (wP 0 (fLit (.int 1))) (wCons (wP 0 (fLit (.int 2))) (wCons (wDraw 1 cTaken (wCons (wP 0 (fLit (.int 8))) wNil)) wNil))))) wNil)) [4])) (lSeq (lIf (wT 0 (fT (fEq (fSum (fOwn 3)) (fLit (.int 0))))) (lPut 0 3 (fNeg (fLit (.int 1))) (fLit (.int 1))) lNil) (lSeq (lRel 3) (lRetV (wP 0 (fTup (fCons (fTup (fCons (fVar 1) (fCons (fVar 2) fNil))) (fCons (fTuple (fLc (iSeq (fVar 3)) (bName 5) kYes (fCall 2 c__law_ratio (fCons (fVar 5) (fCons (fSum (fVar 3)) fNil))) [5])) fNil))))))))))
def W__law_pond  (K : ((Int × Int) × (List (Int × Int))) → Prop) : Prop := (∀ r87 : Int, 0 ≤ r87 → r87 < 8 → (0 < ((1 : Int) + r87) ∧ ((1 : Int) + r87) ≤ 1000000 ∧ ∀ r90 : Int, 0 ≤ r90 → r90 < ((1 : Int) + r87) → (∀ r93 : Int, r93 ∈ [(0 : Int), r90] → (∀ r97 : Int, 0 ≤ r97 → r97 < 5 → (-1000000 ≤ ((2 : Int) + r97) ∧ ((2 : Int) + r97) ≤ 1000000 ∧ ∀ l95 : List Int, All2 (fun (i100 : Int) (y : Int) => ∀ R : Int → Prop, ((∀ r101 : Int, 0 ≤ r101 → r101 < 8 → (∀ r104 : Int, r104 ∈ [(0 : Int), (1 : Int), (2 : Int), r101] → R r104))) → R y) (rangeI ((2 : Int) + r97)) l95 → (∃ b109 : Bool, (some (decide ((List.sum l95) = (0 : Int)))) = some b109 ∧ (b109 = true → (∃ w114 : List Int, putO l95 (-(1 : Int)) (1 : Int) = some w114 ∧ (∃ v121 : ((Int × Int) × (List (Int × Int))), ((some (((1 : Int) + r87), ((1 : Int) + r93))).bind fun x119 => ((compL (fun (i116 : Int) => (some true)) (fun (i116 : Int) => (N__law_ratio i116 (List.sum w114))) w114).bind (fun x118 => some x118)).bind fun x120 => some (x119, x120)) = some v121 ∧ K (v121)))) ∧ (b109 = false → (∃ v128 : ((Int × Int) × (List (Int × Int))), ((some (((1 : Int) + r87), ((1 : Int) + r93))).bind fun x126 => ((compL (fun (i123 : Int) => (some true)) (fun (i123 : Int) => (N__law_ratio i123 (List.sum l95))) l95).bind (fun x125 => some x125)).bind fun x127 => some (x126, x127)) = some v128 ∧ K (v128)))))))))
theorem w__law_pond  (K : ((Int × Int) × (List (Int × Int))) → Prop) (Qd : PyData → Prop) (hK : ∀ v, K v → Qd ((e2 (e2 eI eI) (eR (e2 eI eI))) v)) (H : W__law_pond  K) : runV 6 (F__law_pond S__law_ratio) [] Qd := ⟨eI (1 : Int), fun rw => (t_int (i := 1)), ⟨eI (8 : Int), fun rw => (t_int (i := 8)), ⟨rfl, (8 : Int), rfl, (by decide), (by decide), fun r87 g88 g89 => ⟨eI ((1 : Int) + r87), rfl, ⟨_, rfl, ⟨eI (1 : Int), fun rw => (t_int (i := 1)), ⟨eI (0 : Int), fun rw => (t_int (i := 0)), ⟨eI ((1 : Int) + r87), fun rw => (t_var (i := 1) (e := eI) (v := ((1 : Int) + r87)) rfl), ⟨rfl, ((1 : Int) + r87), rfl, (H r87 g88 g89).1, (H r87 g88 g89).2.1, fun r90 g91 g92 => ⟨Nat.le_of_ble_eq_true rfl, rfl, List.map eI [(0 : Int), r90], rfl, Nat.le_of_ble_eq_true rfl, Nat.le_of_ble_eq_true rfl, pick_of (fun r93 g94 => ⟨eI ((1 : Int) + r93), rfl, ⟨_, rfl, ⟨(noown1 (i := 4) rfl), ⟨eI (2 : Int), fun rw => (t_int (i := 2)), ⟨eI (5 : Int), fun rw => (t_int (i := 5)), ⟨rfl, (5 : Int), rfl, (by decide), (by decide), fun r97 g98 g99 => ⟨eI ((2 : Int) + r97), rfl, ⟨((2 : Int) + r97), rfl, ((((H r87 g88 g89).2.2 r90 g91 g92) r93 g94) r97 g98 g99).1, ((((H r87 g88 g89).2.2 r90 g91 g92) r93 g94) r97 g98 g99).2.1, rangeD_len ((((H r87 g88 g89).2.2 r90 g91 g92) r93 g94) r97 g98 g99).2.1, wlc_range (P := (fun (i100 : Int) (y : Int) => ∀ R : Int → Prop, ((∀ r101 : Int, 0 ≤ r101 → r101 < 8 → (∀ r104 : Int, r104 ∈ [(0 : Int), (1 : Int), (2 : Int), r101] → R r104))) → R y)) (eb := eI) (fun i100 => ⟨[.no, .dat (eI ((1 : Int) + r87)), .dat (eI ((1 : Int) + r93)), .no, .dat (eI i100), .no], rfl, fun Q hR => ⟨eI (0 : Int), fun rw => (t_int (i := 0)), ⟨eI (1 : Int), fun rw => (t_int (i := 1)), ⟨eI (2 : Int), fun rw => (t_int (i := 2)), ⟨eI (8 : Int), fun rw => (t_int (i := 8)), ⟨rfl, (8 : Int), rfl, (by decide), (by decide), fun r101 g102 g103 => ⟨Nat.le_of_ble_eq_true rfl, rfl, List.map eI [(0 : Int), (1 : Int), (2 : Int), r101], rfl, Nat.le_of_ble_eq_true rfl, Nat.le_of_ble_eq_true rfl, pick_of (fun r104 g105 => (hR r104 (fun R hh => ((hh r101 g102 g103) r104 g105))))⟩⟩⟩⟩⟩⟩⟩) (fun l95 g96 => ⟨_, rfl, lt_of rfl, (Exists.elim (((((H r87 g88 g89).2.2 r90 g91 g92) r93 g94) r97 g98 g99).2.2 l95 g96) fun b109 h110 => ⟨b109, fun rw => Eq.trans (t_T (P := (some (decide ((List.sum l95) = (0 : Int))))) (t_f2 (A := (some (List.sum l95))) (B := (some (0 : Int))) (h := (fun x107 y108 => some (decide (x107 = y108)))) (g_eq enc_I rfl) (t_f1 (A := (some l95)) (h := (fun x106 => some (List.sum x106))) g_sumL (t_own (i := 3) (e := eI) (v := l95) rfl)) (t_int (i := 0)))) h110.1, if_of (fun e111 => (Exists.elim (h110.2.1 e111) fun w114 h115 => w_put (i := 3) (e := eI) (v := l95) (w := w114) (x := (1 : Int)) (k := (-(1 : Int))) rfl (fun rw => (t_int (i := 1))) (fun rw => (t_f1 (A := (some (1 : Int))) (h := (fun x113 => some (-x113))) g_neg (t_int (i := 1)))) h115.1 ⟨List.map eI w114, rfl, (Exists.elim h115.2 fun v121 h122 => ⟨(e2 (e2 eI eI) (eR (e2 eI eI))) v121, fun rw => Eq.trans (t_tup2 (A := (some (((1 : Int) + r87), ((1 : Int) + r93)))) (B := ((compL (fun (i116 : Int) => (some true)) (fun (i116 : Int) => (N__law_ratio i116 (List.sum w114))) w114).bind (fun x118 => some x118))) (t_tup2 (A := (some ((1 : Int) + r87))) (B := (some ((1 : Int) + r93))) (t_var (i := 1) (e := eI) (v := ((1 : Int) + r87)) rfl) (t_var (i := 2) (e := eI) (v := ((1 : Int) + r93)) rfl)) (t_f1 (A := (compL (fun (i116 : Int) => (some true)) (fun (i116 : Int) => (N__law_ratio i116 (List.sum w114))) w114)) (h := (fun x118 => some x118)) g_tupL (t_lc (L := (some w114)) (ea := eI) (eb := (e2 eI eI)) (T := fun (i116 : Int) => (some true)) (Bf := fun (i116 : Int) => (N__law_ratio i116 (List.sum w114))) (i_seqL (A := (some w114)) (e := eI) (t_var (i := 3) (e := (eL eI)) (v := w114) rfl)) (fun i116 => ⟨[(.own rw), .dat (eI ((1 : Int) + r87)), .dat (eI ((1 : Int) + r93)), .dat ((eL eI) w114), .no, .dat (eI i116)], rfl, t_yes, (t_call2 (A := (some i116)) (B := (some (List.sum w114))) (N := N__law_ratio) t__law_ratio (t_var (i := 5) (e := eI) (v := i116) rfl) (t_f1 (A := (some w114)) (h := (fun x117 => some (List.sum x117))) g_sumL (t_var (i := 3) (e := (eL eI)) (v := w114) rfl)))⟩)))) (congrArg (Option.map (e2 (e2 eI eI) (eR (e2 eI eI)))) h122.1), ⟨_, rfl, hK _ h122.2⟩⟩)⟩)) (fun e112 => ⟨List.map eI l95, rfl, (Exists.elim (h110.2.2 e112) fun v128 h129 => ⟨(e2 (e2 eI eI) (eR (e2 eI eI))) v128, fun rw => Eq.trans (t_tup2 (A := (some (((1 : Int) + r87), ((1 : Int) + r93)))) (B := ((compL (fun (i123 : Int) => (some true)) (fun (i123 : Int) => (N__law_ratio i123 (List.sum l95))) l95).bind (fun x125 => some x125))) (t_tup2 (A := (some ((1 : Int) + r87))) (B := (some ((1 : Int) + r93))) (t_var (i := 1) (e := eI) (v := ((1 : Int) + r87)) rfl) (t_var (i := 2) (e := eI) (v := ((1 : Int) + r93)) rfl)) (t_f1 (A := (compL (fun (i123 : Int) => (some true)) (fun (i123 : Int) => (N__law_ratio i123 (List.sum l95))) l95)) (h := (fun x125 => some x125)) g_tupL (t_lc (L := (some l95)) (ea := eI) (eb := (e2 eI eI)) (T := fun (i123 : Int) => (some true)) (Bf := fun (i123 : Int) => (N__law_ratio i123 (List.sum l95))) (i_seqL (A := (some l95)) (e := eI) (t_var (i := 3) (e := (eL eI)) (v := l95) rfl)) (fun i123 => ⟨[(.own rw), .dat (eI ((1 : Int) + r87)), .dat (eI ((1 : Int) + r93)), .dat ((eL eI) l95), .no, .dat (eI i123)], rfl, t_yes, (t_call2 (A := (some i123)) (B := (some (List.sum l95))) (N := N__law_ratio) t__law_ratio (t_var (i := 5) (e := eI) (v := i123) rfl) (t_f1 (A := (some l95)) (h := (fun x124 => some (List.sum x124))) g_sumL (t_var (i := 3) (e := (eL eI)) (v := l95) rfl)))⟩)))) (congrArg (Option.map (e2 (e2 eI eI) (eR (e2 eI eI)))) h129.1), ⟨_, rfl, hK _ h129.2⟩⟩)⟩)⟩)⟩)⟩⟩⟩⟩⟩⟩⟩⟩)⟩⟩⟩⟩⟩⟩⟩⟩⟩⟩
abbrev Q2 : Type := Int × Int
def val (q : Q2) : Rat := (q.1 : Rat) / (q.2 : Rat)
structure Sz (n : Nat) (q : Q2) : Prop where
  pos : 0 < q.2
  top : q.1.natAbs < 2 ^ n
  bot : q.2.natAbs < 2 ^ n
  low : Nat.gcd q.1.natAbs q.2.natAbs = 1
theorem Sz.mono {n m : Nat} {q : Q2} (h : Sz n q) (hm : n ≤ m) : Sz m q :=
  ⟨h.pos, Nat.lt_of_lt_of_le h.top (Nat.pow_le_pow_right (by decide) hm), Nat.lt_of_lt_of_le h.bot (Nat.pow_le_pow_right (by decide) hm), h.low⟩
def rt (a b : Int) : Q2 := (a / (Nat.gcd a.natAbs b.natAbs : Nat), b / (Nat.gcd a.natAbs b.natAbs : Nat))
theorem cast_pos {b : Int} (h : 0 < b) : (0 : Rat) < (b : Rat) := by
  have := Rat.intCast_lt_intCast (a := 0) (b := b)
  simpa using this.mpr h
theorem cast_ne {b : Int} (h : 0 < b) : (b : Rat) ≠ 0 := fun e => by
  have := cast_pos h
  rw [e] at this
  exact absurd this (by decide)
theorem gcd_pos {a b : Int} (hb : 0 < b) : 0 < Nat.gcd a.natAbs b.natAbs := Nat.gcd_pos_of_pos_right _ (by omega)
theorem rt_parts (a b : Int) (hb : 0 < b) : ∃ g : Int, 0 < g ∧ a = g * (rt a b).1 ∧ b = g * (rt a b).2 ∧ g = (Nat.gcd a.natAbs b.natAbs : Nat) := by
  have hg := gcd_pos (a := a) hb
  have d1 : ((Nat.gcd a.natAbs b.natAbs : Nat) : Int) ∣ a := Int.ofNat_dvd_left.mpr (Nat.gcd_dvd_left _ _)
  have d2 : ((Nat.gcd a.natAbs b.natAbs : Nat) : Int) ∣ b := Int.ofNat_dvd_left.mpr (Nat.gcd_dvd_right _ _)
  exact ⟨_, by omega, (Int.mul_ediv_cancel' d1).symm, (Int.mul_ediv_cancel' d2).symm, rfl⟩
theorem rt_pos {a b : Int} (hb : 0 < b) : 0 < (rt a b).2 := by
  obtain ⟨g, hg, _, h2, _⟩ := rt_parts a b hb
  by_cases h : 0 < (rt a b).2
  · exact h
  · have := Int.mul_le_mul_of_nonneg_left (show (rt a b).2 ≤ 0 by omega) (Int.le_of_lt hg)
    rw [Int.mul_zero] at this
    omega
theorem rt_val {a b : Int} (hb : 0 < b) : val (rt a b) = (a : Rat) / b := by
  obtain ⟨g, hg, h1, h2, _⟩ := rt_parts a b hb
  have hp := cast_ne (rt_pos (a := a) hb)
  have hg' := cast_ne hg
  have e1 : (a : Rat) = (g : Rat) * ((rt a b).1 : Rat) := by rw [← Rat.intCast_mul, ← h1]
  have e2 : (b : Rat) = (g : Rat) * ((rt a b).2 : Rat) := by rw [← Rat.intCast_mul, ← h2]
  unfold val
  rw [e1, e2]
  grind
theorem rt_low {a b : Int} (hb : 0 < b) : Nat.gcd (rt a b).1.natAbs (rt a b).2.natAbs = 1 := by
  obtain ⟨g, hg, h1, h2, h3⟩ := rt_parts a b hb
  have e1 : a.natAbs = g.natAbs * (rt a b).1.natAbs := by rw [← Int.natAbs_mul, ← h1]
  have e2 : b.natAbs = g.natAbs * (rt a b).2.natAbs := by rw [← Int.natAbs_mul, ← h2]
  have e3 : g.natAbs = Nat.gcd a.natAbs b.natAbs := by rw [h3]; simp
  have : Nat.gcd a.natAbs b.natAbs = g.natAbs * Nat.gcd (rt a b).1.natAbs (rt a b).2.natAbs := by
    rw [← Nat.gcd_mul_left, ← e1, ← e2]
  rw [← e3] at this
  have hgn : 0 < g.natAbs := by omega
  exact Nat.eq_of_mul_eq_mul_left hgn (by omega)
theorem rt_small {a b : Int} (hb : 0 < b) : (rt a b).1.natAbs ≤ a.natAbs ∧ (rt a b).2.natAbs ≤ b.natAbs := by
  obtain ⟨g, hg, h1, h2, h3⟩ := rt_parts a b hb
  have e1 : a.natAbs = g.natAbs * (rt a b).1.natAbs := by rw [← Int.natAbs_mul, ← h1]
  have e2 : b.natAbs = g.natAbs * (rt a b).2.natAbs := by rw [← Int.natAbs_mul, ← h2]
  have hgn : 1 ≤ g.natAbs := by omega
  constructor
  · rw [e1]; exact Nat.le_mul_of_pos_left _ hgn
  · rw [e2]; exact Nat.le_mul_of_pos_left _ hgn
theorem rt_sz {a b : Int} {n : Nat} (hb : 0 < b) (h1 : a.natAbs < 2 ^ n) (h2 : b.natAbs < 2 ^ n) : Sz n (rt a b) :=
  ⟨rt_pos hb, Nat.lt_of_le_of_lt (rt_small hb).1 h1, Nat.lt_of_le_of_lt (rt_small hb).2 h2, rt_low hb⟩
theorem low_unique {p q : Q2} (hp : 0 < p.2) (hq : 0 < q.2) (gp : Nat.gcd p.1.natAbs p.2.natAbs = 1) (gq : Nat.gcd q.1.natAbs q.2.natAbs = 1) (h : p.1 * q.2 = q.1 * p.2) : p = q := by
  have d1 : p.2.natAbs ∣ q.2.natAbs := by
    have : p.2.natAbs ∣ p.1.natAbs * q.2.natAbs := by
      rw [← Int.natAbs_mul, h, Int.natAbs_mul]
      exact Nat.dvd_mul_left _ _
    exact (Nat.Coprime.dvd_of_dvd_mul_left (show Nat.Coprime p.2.natAbs p.1.natAbs by rw [Nat.Coprime, Nat.gcd_comm]; exact gp) this)
  have d2 : q.2.natAbs ∣ p.2.natAbs := by
    have : q.2.natAbs ∣ q.1.natAbs * p.2.natAbs := by
      rw [← Int.natAbs_mul, ← h, Int.natAbs_mul]
      exact Nat.dvd_mul_left _ _
    exact (Nat.Coprime.dvd_of_dvd_mul_left (show Nat.Coprime q.2.natAbs q.1.natAbs by rw [Nat.Coprime, Nat.gcd_comm]; exact gq) this)
  have e : p.2 = q.2 := by
    have := Nat.dvd_antisymm d1 d2
    omega
  refine Prod.ext ?_ e
  rw [e] at h
  exact Int.eq_of_mul_eq_mul_right (by omega) h
theorem val_inj {n m : Nat} {p q : Q2} (hp : Sz n p) (hq : Sz m q) (h : val p = val q) : p = q := by
  refine low_unique hp.pos hq.pos hp.low hq.low ?_
  have a := cast_ne hp.pos
  have b := cast_ne hq.pos
  unfold val at h
  have : ((p.1 * q.2 : Int) : Rat) = ((q.1 * p.2 : Int) : Rat) := by
    rw [Rat.intCast_mul, Rat.intCast_mul]
    grind
  exact Rat.intCast_inj.mp this
theorem val_lt {p q : Q2} (hp : 0 < p.2) (hq : 0 < q.2) : val p < val q ↔ p.1 * q.2 < q.1 * p.2 := by
  have a := cast_pos hp
  have b := cast_pos hq
  unfold val
  rw [Rat.div_lt_iff a, ← Rat.intCast_lt_intCast, Rat.intCast_mul, Rat.intCast_mul]
  have e : (q.1 : Rat) / q.2 * p.2 = (q.1 * p.2 : Rat) / q.2 := by
    have := cast_ne hq
    grind
  rw [e, Rat.lt_div_iff b]
theorem sz_int {i : Int} {n : Nat} (h : i.natAbs < 2 ^ n) (hn : 0 < n) : Sz n (i, 1) := ⟨by show (0:Int) < 1; decide, h, by
  show 1 < 2 ^ n
  exact Nat.one_lt_two_pow (by omega), by simp⟩
theorem val_int (i : Int) : val (i, 1) = (i : Rat) := by
  unfold val
  show (i : Rat) / ((1 : Int) : Rat) = i
  have : ((1 : Int) : Rat) = 1 := rfl
  rw [this]
  grind
theorem log2_lt {a : Int} {k : Nat} (h : a.natAbs < 2 ^ k) (hk : 0 < k) : a.natAbs.log2 < k := by
  by_cases h0 : a.natAbs = 0
  · rw [h0]; simpa using hk
  · exact (Nat.log2_lt h0).mpr h
theorem mul_bits {a b : Int} {n m : Nat} (ha : a.natAbs < 2 ^ n) (hb : b.natAbs < 2 ^ m) : (a * b).natAbs < 2 ^ (n + m) := by
  rw [Int.natAbs_mul, Nat.pow_add]
  exact Nat.mul_lt_mul'' ha hb
theorem mul_ok {x y : Int} {n m : Nat} (hx : x.natAbs < 2 ^ n) (hy : y.natAbs < 2 ^ m) (h : n + m ≤ 900000) : mulO x y = some (x * y) := by
  have h1 := log2_lt (k := n + 1) (Nat.lt_of_lt_of_le hx (Nat.pow_le_pow_right (by decide) (by omega))) (by omega)
  have h2 := log2_lt (k := m + 1) (Nat.lt_of_lt_of_le hy (Nat.pow_le_pow_right (by decide) (by omega))) (by omega)
  unfold mulO cMul
  rw [if_pos (decide_eq_true (by omega))]
theorem div_ok {x y : Int} {m : Nat} (h0 : 0 < y) (hy : y.natAbs < 2 ^ m) (h : m ≤ 8990) : divO x y = some (x / y) := by
  have h2 := log2_lt (k := m + 1) (Nat.lt_of_lt_of_le hy (Nat.pow_le_pow_right (by decide) (by omega))) (by omega)
  unfold divO cDiv
  rw [if_pos (decide_eq_true ⟨h0, by omega⟩)]
theorem gcd_bits {a b : Int} {n : Nat} (hb : 0 < b) (h : b.natAbs < 2 ^ n) : ((Nat.gcd a.natAbs b.natAbs : Nat) : Int).natAbs < 2 ^ n := by
  rw [Int.natAbs_natCast]
  exact Nat.lt_of_le_of_lt (Nat.le_of_dvd (by omega) (Nat.gcd_dvd_right _ _)) h
theorem ratio_ok {a b : Int} {n : Nat} (hb : 0 < b) (h : b.natAbs < 2 ^ n) (hn : n ≤ 8990) : N_ratio a b = some (rt a b) := by
  have hg := gcd_pos (a := a) hb
  unfold N_ratio
  rw [Option.bind_some, div_ok (by omega) (gcd_bits hb h) hn, div_ok (by omega) (gcd_bits hb h) hn]
  rfl
theorem gcd_step (a b : Nat) : Nat.gcd a b = Nat.gcd b (a % b) := by
  rw [Nat.gcd_comm a b, Nat.gcd_rec b a, Nat.gcd_comm]
theorem euc_go {T : Int × Int → Option Bool} {Bd : Int × Int → Option (Int × Int)} (hT : ∀ s, T s = some (!decide (s.2 = 0))) (hB : ∀ i j : Nat, 0 < j → Bd ((i : Int), (j : Int)) = some ((j : Int), ((i % j : Nat) : Int))) :
    ∀ (k i j n : Nat), j < 2 ^ k → 2 * k + 1 ≤ n → whileO T Bd n ((i : Int), (j : Int)) = some (((Nat.gcd i j : Nat) : Int), 0) := by
  have stop : ∀ (i n : Nat), 1 ≤ n → whileO T Bd n ((i : Int), ((0 : Nat) : Int)) = some (((Nat.gcd i 0 : Nat) : Int), 0) := by
    intro i n hn
    obtain ⟨n, rfl⟩ : ∃ m, n = m + 1 := ⟨n - 1, by omega⟩
    unfold whileO
    rw [hT]
    simp
  have step : ∀ (i j n : Nat), 0 < j → whileO T Bd (n + 1) ((i : Int), (j : Int)) = whileO T Bd n ((j : Int), ((i % j : Nat) : Int)) := by
    intro i j n hj
    have ew : whileO T Bd (n + 1) ((i : Int), (j : Int)) = (T ((i : Int), (j : Int))).bind fun k => match k with
      | true => (Bd ((i : Int), (j : Int))).bind (whileO T Bd n)
      | false => some ((i : Int), (j : Int)) := rfl
    rw [ew, hT, hB i j hj]
    have : (!decide (((i : Int), (j : Int)).2 = 0)) = true := by simp; omega
    rw [this]
    rfl
  intro k
  induction k with
  | zero =>
    intro i j n hj hn
    have : j = 0 := by simp at hj; omega
    subst this
    exact stop i n (by omega)
  | succ k ih =>
    intro i j n hj hn
    by_cases h0 : j = 0
    · subst h0; exact stop i n (by omega)
    · obtain ⟨n, rfl⟩ : ∃ m, n = m + 1 := ⟨n - 1, by omega⟩
      rw [step i j n (by omega)]
      by_cases h1 : i % j = 0
      · rw [h1, stop j n (by omega)]
        rw [gcd_step i j, h1]
      · obtain ⟨n, rfl⟩ : ∃ m, n = m + 1 := ⟨n - 1, by omega⟩
        rw [step j (i % j) n (by omega)]
        have hr : i % j < j := Nat.mod_lt _ (by omega)
        have hs : j % (i % j) < 2 ^ k := by
          have h2 : j % (i % j) < i % j := Nat.mod_lt _ (by omega)
          have h3 : j % (i % j) + (i % j) ≤ j := by
            have := Nat.div_add_mod j (i % j)
            have h4 : 1 ≤ j / (i % j) := (Nat.le_div_iff_mul_le (by omega)).mpr (by omega)
            have h5 := Nat.mul_le_mul_left (i % j) h4
            omega
          rw [Nat.pow_succ] at hj
          omega
        rw [ih (i % j) (j % (i % j)) n hs (by omega)]
        rw [gcd_step i j, gcd_step j (i % j)]
theorem abs1_eq (a : Int) : abs1 a = (a.natAbs : Int) := by
  unfold abs1
  split <;> omega
theorem law_ratio_ok {a b : Int} {n : Nat} (hb : 0 < b) (h : b.natAbs < 2 ^ n) (hn : n ≤ 8990) : N__law_ratio a b = some (rt a b) := by
  unfold N__law_ratio
  rw [Option.bind_some, Option.bind_some, abs1_eq, abs1_eq]
  have e := euc_go (T := fun s5 : Int × Int => (some (!decide (s5.2 = (0 : Int))))) (Bd := fun s5 : Int × Int => ((some s5.2).bind fun one_12 => (modO s5.1 s5.2).bind fun other_13 => some (one_12, other_13))) (fun s => rfl) (fun i j hj => by
    unfold modO cMod
    rw [if_pos (decide_eq_true (by show ((j : Nat) : Int) ≠ 0; omega))]
    show some (((j : Nat) : Int), ((i : Nat) : Int).fmod ((j : Nat) : Int)) = _
    rw [Int.fmod_eq_emod_of_nonneg _ (by omega)]
    rfl) n a.natAbs b.natAbs FUEL h (by unfold FUEL; omega)
  have e2 : ∀ (f : Int × Int → Option (Int × Int)), ((whileO (fun s5 : Int × Int => (some (!decide (s5.2 = (0 : Int))))) (fun s5 : Int × Int => ((some s5.2).bind fun one_12 => (modO s5.1 s5.2).bind fun other_13 => some (one_12, other_13))) FUEL ((a.natAbs : Int), (b.natAbs : Int))).bind f) = f (((Nat.gcd a.natAbs b.natAbs : Nat) : Int), 0) := fun f => by rw [e]; rfl
  refine (e2 _).trans ?_
  have hg := gcd_pos (a := a) hb
  rw [decide_eq_true hb]
  show (divO a _).bind _ = _
  rw [div_ok (by omega) (gcd_bits hb h) hn, div_ok (by omega) (gcd_bits hb h) hn]
  rfl
theorem cross_bits {p q : Q2} {n m : Nat} (hp : Sz n p) (hq : Sz m q) : (p.1 * q.2 + q.1 * p.2).natAbs < 2 ^ (n + m + 1) ∧ (p.2 * q.2).natAbs < 2 ^ (n + m) ∧ 0 < p.2 * q.2 := by
  refine ⟨?_, mul_bits hp.bot hq.bot, Int.mul_pos hp.pos hq.pos⟩
  have h1 := mul_bits hp.top hq.bot
  have h2 := mul_bits hq.top hp.bot
  rw [Nat.add_comm m n] at h2
  have h3 := Int.natAbs_add_le (p.1 * q.2) (q.1 * p.2)
  rw [Nat.pow_succ]
  omega
theorem pow_up {a : Int} {n m : Nat} (h : a.natAbs < 2 ^ n) (hm : n ≤ m) : a.natAbs < 2 ^ m := Nat.lt_of_lt_of_le h (Nat.pow_le_pow_right (by decide) hm)
theorem plus_val {p q : Q2} (hp : 0 < p.2) (hq : 0 < q.2) : ((p.1 * q.2 + q.1 * p.2 : Int) : Rat) / ((p.2 * q.2 : Int) : Rat) = val p + val q := by
  have a := cast_ne hp
  have b := cast_ne hq
  unfold val
  rw [Rat.intCast_add, Rat.intCast_mul, Rat.intCast_mul, Rat.intCast_mul]
  grind
theorem law_plus_ok {p q : Q2} {n m : Nat} (hp : Sz n p) (hq : Sz m q) (h : n + m + 1 ≤ 8990) : ∃ r, N__law_plus p q = some r ∧ val r = val p + val q ∧ Sz (n + m + 1) r := by
  obtain ⟨h1, h2, h3⟩ := cross_bits hp hq
  refine ⟨rt (p.1 * q.2 + q.1 * p.2) (p.2 * q.2), ?_, (rt_val h3).trans (plus_val hp.pos hq.pos), rt_sz h3 h1 (pow_up h2 (by omega))⟩
  unfold N__law_plus
  rw [mul_ok hp.top hq.bot (by omega), mul_ok hq.top hp.bot (by omega), mul_ok hp.bot hq.bot (by omega)]
  exact law_ratio_ok h3 h2 (by omega)
theorem law_by_ok {p q : Q2} {n m : Nat} (hp : Sz n p) (hq : Sz m q) (h : n + m ≤ 8990) : ∃ r, N__law_by p q = some r ∧ val r = val p * val q ∧ Sz (n + m) r := by
  have h1 := mul_bits hp.top hq.top
  have h2 := mul_bits hp.bot hq.bot
  have h3 : 0 < p.2 * q.2 := Int.mul_pos hp.pos hq.pos
  refine ⟨rt (p.1 * q.1) (p.2 * q.2), ?_, ?_, rt_sz h3 h1 h2⟩
  · unfold N__law_by
    rw [mul_ok hp.top hq.top (by omega), mul_ok hp.bot hq.bot (by omega)]
    exact law_ratio_ok h3 h2 (by omega)
  · rw [rt_val h3]
    have a := cast_ne hp.pos
    have b := cast_ne hq.pos
    unfold val
    rw [Rat.intCast_mul, Rat.intCast_mul]
    grind
theorem law_less_ok {p q : Q2} {n m : Nat} (hp : Sz n p) (hq : Sz m q) (h : n + m ≤ 900000) : N__law_less p q = some (decide (val p < val q)) := by
  unfold N__law_less
  rw [mul_ok hp.top hq.bot (by omega), mul_ok hq.top hp.bot (by omega)]
  simp only [Option.bind_some]
  rw [decide_eq_decide.mpr (val_lt hp.pos hq.pos)]
theorem law_is_ratio_ok {p : Q2} {n : Nat} (hp : Sz n p) (hn : n ≤ 8990) : N__law_is_ratio p = some true := by
  unfold N__law_is_ratio
  have e : compL (fun i7 : Int => (some ((!true) || false))) (fun i7 => (some i7)) [p.1, p.2] = some [] := by
    unfold compL
    rw [if_pos (by simp)]
    rfl
  show iteO (some false) _ (iteO (some (!decide ((2 : Int) = 2))) _ (iteO ((compL _ _ [p.1, p.2]).bind _) _ _)) = _
  rw [iteO_f]
  show iteO (some false) _ (iteO ((compL _ _ [p.1, p.2]).bind _) _ _) = _
  rw [iteO_f, e]
  show iteO (some false) _ (andO (some (decide (0 < p.2))) ((N__law_ratio p.1 p.2).bind _)) = _
  rw [iteO_f, decide_eq_true hp.pos, andO_t, law_ratio_ok hp.pos hp.bot hn, Option.bind_some]
  have e2 : rt p.1 p.2 = p := by
    unfold rt
    rw [hp.low]
    simp
  rw [e2]
  simp
section
variable {α β γ σ : Type}
theorem compO_all {B : α → Option β} {g : α → β} : ∀ l : List α, (∀ x ∈ l, B x = some (g x)) → compO (fun _ => some true) B l = some (l.map g)
  | [], _ => rfl
  | x :: r, h => by
    rw [compO_cons, Option.bind_some, h x List.mem_cons_self]
    show ((compO (fun _ => some true) B r).bind fun ys => some (g x :: ys)) = _
    rw [compO_all r fun y hy => h y (List.mem_cons_of_mem _ hy)]
    rfl
theorem compL_all {B : α → Option β} {g : α → β} {l : List α} (hl : l.length ≤ 1000000) (h : ∀ x ∈ l, B x = some (g x)) : compL (fun _ => some true) B l = some (l.map g) := by
  unfold compL
  rw [if_pos hl, compO_all l h]
theorem compL_filter {T : α → Option Bool} {t : α → Bool} {l : List α} (hl : l.length ≤ 1000000) (h : ∀ x ∈ l, T x = some (t x)) : compL T (fun i => some i) l = some (l.filter t) := by
  unfold compL
  rw [if_pos hl, compO_filter l h]
theorem allO_true {B : α → Option Bool} : ∀ l : List α, (∀ x ∈ l, B x = some true) → allO true B l = some true
  | [], _ => rfl
  | x :: r, h => by
    rw [allO_cons, h x List.mem_cons_self, Option.bind_some, if_pos rfl]
    exact allO_true r fun y hy => h y (List.mem_cons_of_mem _ hy)
end
theorem range1_nat {n : Nat} (h : n ≤ 1000000) : range1O (n : Int) = some ((List.range n).map fun i : Nat => (0 + (i : Int))) := range_self n h
theorem between_ok {i lo hi : Int} : N_is_between i lo hi = some (decide (lo ≤ i) && decide (i ≤ hi)) := by
  unfold N_is_between N_is_whole
  rfl
theorem DamIn.len {m : Int} {d : DamT} (h : DamIn m d) (hm : m ≤ 12) : d.2.2.2.length ≤ 12 := by
  have := h.l1
  omega
theorem neg_sz {n : Nat} {q : Q2} (h : Sz n q) : Sz n (0 - q.1, q.2) ∧ val (0 - q.1, q.2) = - val q := by
  refine ⟨⟨h.pos, by show (0 - q.1).natAbs < _; have := h.top; omega, h.bot, ?_⟩, ?_⟩
  · show Nat.gcd (0 - q.1).natAbs q.2.natAbs = 1
    have : (0 - q.1).natAbs = q.1.natAbs := by omega
    rw [this]
    exact h.low
  · unfold val
    show ((0 - q.1 : Int) : Rat) / (q.2 : Rat) = _
    rw [Rat.intCast_sub]
    have : ((0 : Int) : Rat) = 0 := rfl
    rw [this]
    grind
theorem val_neg_iff {n : Nat} {q : Q2} (h : Sz n q) : q.1 < 0 ↔ val q < 0 := by
  have := val_lt (p := q) (q := (0, 1)) h.pos (by show (0 : Int) < 1; decide)
  rw [val_int] at this
  have z : ((0 : Int) : Rat) = 0 := rfl
  rw [z] at this
  rw [this]
  simp
theorem repL_ok {α : Type} {q : α} {k : Nat} (h : k ≤ 1000) : repL [q] (k : Int) = some (List.replicate k q) := by
  unfold repL
  rw [if_pos ⟨by omega, by omega, by simp⟩, Int.toNat_natCast, List.flatten_replicate_singleton]
theorem foldJ_all {α β σ : Type} {Bd : α → σ → Option (β ⊕ σ)} {s : σ} : ∀ l : List α, (∀ x ∈ l, Bd x s = some (.inr s)) → foldJ Bd l s = some (.inr s)
  | [], _ => rfl
  | x :: r, h => by
    have e : foldJ Bd (x :: r) s = (Bd x s).bind (thenJ (foldJ Bd r)) := rfl
    rw [e, h x List.mem_cons_self]
    exact foldJ_all r fun y hy => h y (List.mem_cons_of_mem _ hy)
theorem filter_none {α : Type} {t : α → Bool} {l : List α} (h : ∀ x ∈ l, t x = false) : l.filter t = [] := by
  rw [List.filter_eq_nil_iff]
  intro x hx
  rw [h x hx]
  decide
theorem compL_none {α : Type} {T : α → Option Bool} {l : List α} (hl : l.length ≤ 1000000) (h : ∀ x ∈ l, T x = some false) : compL T (fun i => some i) l = some [] := by
  rw [compL_filter (t := fun _ => false) hl h, filter_none fun _ _ => rfl]
theorem alk_Q : Alk 3 (e2 eI eI) := alk_2 (alk_I 2) (alk_I 2)
structure Is (n : Nat) (p : Q2) (v : Rat) : Prop where
  sz : Sz n p
  eq : val p = v
theorem Is.uniq {n m : Nat} {p q : Q2} {v : Rat} (a : Is n p v) (b : Is m q v) : p = q := val_inj a.sz b.sz (a.eq.trans b.eq.symm)
theorem Is.mono {n m : Nat} {p : Q2} {v : Rat} (a : Is n p v) (h : n ≤ m) : Is m p v := ⟨a.sz.mono h, a.eq⟩
theorem is_int {i : Int} {n : Nat} (h : i.natAbs < 2 ^ n) (hn : 0 < n) : Is n (i, 1) (i : Rat) := ⟨sz_int h hn, val_int i⟩
theorem is_neg {n : Nat} {p : Q2} {v : Rat} (a : Is n p v) : Is n (0 - p.1, p.2) (-v) := ⟨(neg_sz a.sz).1, by rw [(neg_sz a.sz).2, a.eq]⟩
section
variable {n m : Nat} {p q : Q2} {a b : Rat}
theorem lplus (hp : Is n p a) (hq : Is m q b) (h : n + m + 1 ≤ 8990) : ∃ r, N__law_plus p q = some r ∧ Is (n + m + 1) r (a + b) := by
  obtain ⟨r, h1, h2, h3⟩ := law_plus_ok hp.sz hq.sz h
  exact ⟨r, h1, h3, by rw [h2, hp.eq, hq.eq]⟩
theorem lby (hp : Is n p a) (hq : Is m q b) (h : n + m ≤ 8990) : ∃ r, N__law_by p q = some r ∧ Is (n + m) r (a * b) := by
  obtain ⟨r, h1, h2, h3⟩ := law_by_ok hp.sz hq.sz h
  exact ⟨r, h1, h3, by rw [h2, hp.eq, hq.eq]⟩
theorem lless (hp : Is n p a) (hq : Is m q b) (h : n + m ≤ 900000) : N__law_less p q = some (decide (a < b)) := by rw [law_less_ok hp.sz hq.sz h, hp.eq, hq.eq]
theorem pplus (hp : Is n p a) (hq : Is m q b) (h : n + m + 1 ≤ 8990) : ∃ r, N_plus p q = some r ∧ Is (n + m + 1) r (a + b) := by
  obtain ⟨h1, h2, h3⟩ := cross_bits hp.sz hq.sz
  refine ⟨rt (p.1 * q.2 + q.1 * p.2) (p.2 * q.2), ?_, rt_sz h3 h1 (pow_up h2 (by omega)), by rw [rt_val h3, plus_val hp.sz.pos hq.sz.pos, hp.eq, hq.eq]⟩
  unfold N_plus
  rw [mul_ok hp.sz.top hq.sz.bot (by omega), mul_ok hq.sz.top hp.sz.bot (by omega), mul_ok hp.sz.bot hq.sz.bot (by omega)]
  exact ratio_ok h3 h2 (by omega)
theorem pminus (hp : Is n p a) (hq : Is m q b) (h : n + m + 1 ≤ 8990) : ∃ r, N_minus p q = some r ∧ Is (n + m + 1) r (a - b) := by
  have hq' := is_neg hq
  obtain ⟨h1, h2, h3⟩ := cross_bits hp.sz hq'.sz
  have e : p.1 * q.2 + (0 - q.1) * p.2 = p.1 * q.2 - q.1 * p.2 := by rw [Int.zero_sub, Int.neg_mul]; omega
  have hv := plus_val hp.sz.pos hq'.sz.pos
  show ∃ r, N_minus p q = some r ∧ _
  rw [hp.eq, hq'.eq] at hv
  simp only at hv h1 h2 h3
  rw [e] at hv h1
  refine ⟨rt (p.1 * q.2 - q.1 * p.2) (p.2 * q.2), ?_, rt_sz h3 h1 (pow_up h2 (by omega)), by rw [rt_val h3, hv]; grind⟩
  unfold N_minus
  rw [mul_ok hp.sz.top hq.sz.bot (by omega), mul_ok hq.sz.top hp.sz.bot (by omega), mul_ok hp.sz.bot hq.sz.bot (by omega)]
  exact ratio_ok h3 h2 (by omega)
theorem ptimes (hp : Is n p a) (hq : Is m q b) (h : n + m ≤ 8990) : ∃ r, N_times p q = some r ∧ Is (n + m) r (a * b) := by
  have h1 := mul_bits hp.sz.top hq.sz.top
  have h2 := mul_bits hp.sz.bot hq.sz.bot
  have h3 : 0 < p.2 * q.2 := Int.mul_pos hp.sz.pos hq.sz.pos
  refine ⟨rt (p.1 * q.1) (p.2 * q.2), ?_, rt_sz h3 h1 h2, ?_⟩
  · unfold N_times
    rw [mul_ok hp.sz.top hq.sz.top (by omega), mul_ok hp.sz.bot hq.sz.bot (by omega)]
    exact ratio_ok h3 h2 (by omega)
  · rw [rt_val h3, ← hp.eq, ← hq.eq]
    have a := cast_ne hp.sz.pos
    have b := cast_ne hq.sz.pos
    unfold val
    rw [Rat.intCast_mul, Rat.intCast_mul]
    grind
theorem val_pos_iff (hp : 0 < p.2) : 0 < val p ↔ 0 < p.1 := by
  have h := val_lt (p := (0, 1)) (q := p) (by decide) hp
  have e : val (0, 1) = 0 := by rw [val_int]; rfl
  rw [e] at h
  simp only [Int.zero_mul, Int.mul_one] at h
  exact h
theorem pdivided (hp : Is n p a) (hq : Is m q b) (hb : 0 < b) (h : n + m ≤ 8990) : ∃ r, N_divided p q = some r ∧ Is (n + m) r (a / b) := by
  have hq1 : 0 < q.1 := (val_pos_iff hq.sz.pos).mp (by rw [hq.eq]; exact hb)
  have h1 := mul_bits hp.sz.top hq.sz.bot
  have h2 := mul_bits hp.sz.bot hq.sz.top
  have h3 : 0 < p.2 * q.1 := Int.mul_pos hp.sz.pos hq1
  refine ⟨rt (p.1 * q.2) (p.2 * q.1), ?_, rt_sz h3 h1 h2, ?_⟩
  · unfold N_divided
    rw [mul_ok hp.sz.top hq.sz.bot (by omega), mul_ok hp.sz.bot hq.sz.top (by omega), Option.bind_some, Option.bind_some, decide_eq_true h3]
    exact ratio_ok h3 h2 (by omega)
  · rw [rt_val h3, ← hp.eq, ← hq.eq]
    have a := cast_ne hp.sz.pos
    have b := cast_ne hq.sz.pos
    have c := cast_ne hq1
    unfold val
    rw [Rat.intCast_mul, Rat.intCast_mul]
    grind
theorem is_ratio_ok (hp : Sz n p) : N_is_ratio p = some true := by
  unfold N_is_ratio
  show (andO (N_is_whole p.1) (andO (N_is_whole p.2) (some ((decide ((0 : Int) < p.2)) && (decide (((Nat.gcd (p.1).natAbs (p.2).natAbs : Nat) : Int) = (1 : Int))))))) = _
  rw [decide_eq_true hp.pos, decide_eq_true (by have := hp.low; omega)]
  rfl
end
def G (s : Rat) : Rat → List Rat → Rat
  | v, [] => v
  | v, z :: r => G s (v * s + z) r
abbrev PondT : Type := Int × Int
structure Chn (l : List Q2) (ns : List Int) (S : Int) : Prop where
  pos : 0 < S
  top : S ≤ 42
  len : 2 ≤ ns.length ∧ ns.length ≤ 6
  nn : ∀ x ∈ ns, 0 ≤ x
  sum : ns.sum = S
  eq : l = ns.map fun x => rt x S
def ChIn (l : List Q2) : Prop := ∃ ns S, Chn l ns S
structure PondIn (p : PondT) : Prop where
  c0 : 1 ≤ p.1
  c1 : p.1 ≤ 8
  r0 : 1 ≤ p.2
  r1 : p.2 ≤ p.1
def cPond : List PyData → (PyData → Prop) → Prop := fun ds Q => ds = [] ∧ ∀ (p : PondT) (l : List Q2), PondIn p → ChIn l → Q (e2 (e2 eI eI) (eR (e2 eI eI)) (p, l))
theorem sum_bd : ∀ {l : List Int}, (∀ x ∈ l, 0 ≤ x ∧ x ≤ 7) → 0 ≤ l.sum ∧ l.sum ≤ 7 * (l.length : Int)
  | [], _ => ⟨Int.le_refl _, by decide⟩
  | x :: l, h => by
    obtain ⟨a, b⟩ := sum_bd (l := l) fun y hy => h y (List.mem_cons_of_mem _ hy)
    have := h x List.mem_cons_self
    rw [List.sum_cons, List.length_cons]
    omega
theorem sum_le {l : List Int} (h : ∀ x ∈ l, 0 ≤ x) : ∀ x ∈ l, x ≤ l.sum := by
  induction l with
  | nil => intro x hx; cases hx
  | cons y l ih =>
    intro x hx
    have h0 : 0 ≤ l.sum := by
      clear ih hx
      have h' : ∀ x ∈ l, 0 ≤ x := fun z hz => h z (List.mem_cons_of_mem _ hz)
      clear h
      induction l with
      | nil => exact Int.le_refl _
      | cons z l ih =>
        rw [List.sum_cons]
        have := h' z List.mem_cons_self
        have := ih fun w hw => h' w (List.mem_cons_of_mem _ hw)
        omega
    rw [List.sum_cons]
    rcases List.mem_cons.mp hx with e | e
    · subst e; omega
    · have := ih (fun z hz => h z (List.mem_cons_of_mem _ hz)) x e
      have := h y List.mem_cons_self
      omega
theorem chn_of {ns : List Int} (len : 2 ≤ ns.length ∧ ns.length ≤ 6) (hb : ∀ x ∈ ns, 0 ≤ x ∧ x ≤ 7) (pos : 0 < ns.sum) : (compL (fun (_ : Int) => (some true)) (fun (i : Int) => (N__law_ratio i (List.sum ns))) ns) = some (ns.map fun x => rt x ns.sum) ∧ ChIn (ns.map fun x => rt x ns.sum) := by
  obtain ⟨a, b⟩ := sum_bd hb
  have t : ns.sum ≤ 42 := by omega
  refine ⟨compL_all (by omega) fun x hx => law_ratio_ok (n := 6) pos (by omega) (by decide), ns, ns.sum, pos, t, len, fun x hx => (hb x hx).1, rfl, rfl⟩
theorem pond_ok : ∀ ds Q, cPond ds Q → runV 6 (F__law_pond S__law_ratio) ds Q := by
  rintro ds Q ⟨rfl, hq⟩
  refine w__law_pond (fun v => Q (e2 (e2 eI eI) (eR (e2 eI eI)) v)) Q (fun v hv => hv) ?_
  intro c c0 c1
  refine ⟨by omega, by omega, fun r r0 r1 rl hr n n0 n1 => ⟨by omega, by omega, fun l hl => ?_⟩⟩
  have hl1 : (l.length : Int) = 2 + n := by
    have := hl.len
    rw [rangeI_len] at this
    omega
  have hb : ∀ y ∈ l, 0 ≤ y ∧ y ≤ 7 := hl.all (R := fun y => 0 ≤ y ∧ y ≤ 7) fun a b hab => hab (fun y => 0 ≤ y ∧ y ≤ 7) fun r r0 r1 c hc => by
    simp only [List.mem_cons, List.not_mem_nil, or_false] at hc
    rcases hc with rfl | rfl | rfl | rfl <;> omega
  have hrl : 0 ≤ rl ∧ rl ≤ c := by
    simp only [List.mem_cons, List.not_mem_nil, or_false] at hr
    rcases hr with rfl | rfl <;> omega
  have P : PondIn ((1 : Int) + c, (1 : Int) + rl) := ⟨by show 1 ≤ 1 + c; omega, by show 1 + c ≤ 8; omega, by show 1 ≤ 1 + rl; omega, by show 1 + rl ≤ 1 + c; omega⟩
  refine ⟨_, rfl, fun h => ?_, fun h => ?_⟩
  · have z : l.sum = 0 := by simpa using h
    have ne : l ≠ [] := fun e => by rw [e] at hl1; simp at hl1; omega
    obtain ⟨w, hw⟩ : ∃ w, w = l.set (l.length - 1) 1 := ⟨_, rfl⟩
    have pw : putO l (-(1 : Int)) (1 : Int) = some w := by
      unfold putO ixN
      rw [hw]
      have e1 : ¬ (0 : Int) ≤ -1 := by decide
      simp
      refine ⟨by omega, ?_⟩
      congr 1
      omega
    have wl : w.length = l.length := by rw [hw, List.length_set]
    have wb : ∀ y ∈ w, 0 ≤ y ∧ y ≤ 7 := fun y hy => by
      rw [hw] at hy
      rcases List.mem_or_eq_of_mem_set hy with q | q
      · exact hb y q
      · omega
    have w1 : (1 : Int) ∈ w := by
      rw [hw]
      exact List.mem_set (by omega) 1
    have ws : 0 < w.sum := by
      have := sum_le (l := w) (fun y hy => (wb y hy).1) 1 w1
      omega
    obtain ⟨g1, g2⟩ := chn_of (by omega) wb ws
    refine ⟨w, pw, ((1 + c, 1 + rl), w.map fun x => rt x w.sum), ?_, hq _ _ P g2⟩
    rw [g1]
    rfl
  · have z : l.sum ≠ 0 := by simpa using h
    obtain ⟨s0, _⟩ := sum_bd hb
    obtain ⟨g1, g2⟩ := chn_of (by omega) hb (by omega)
    refine ⟨((1 + c, 1 + rl), l.map fun x => rt x l.sum), ?_, hq _ _ P g2⟩
    rw [g1]
    rfl
end Ty
namespace DN
open PySem PySem.Spec PyProof.Rows L2
end DN
namespace Ty
open PySem PySem.Spec PyProof.Rows L2 DN
section
variable {α β γ δ : Type} {en : En} {f g k : En → Option PyData} {ea : α → PyData} {eb : β → PyData} {ec : γ → PyData} {ed : δ → PyData} {A : Option α} {ret : Str} {S Sr : List PyData → Option PyData}
theorem t_told3 {B : Option γ} {C : Option δ} {N : α → γ → δ → Option β} {NR : α → γ → δ → Option Bool} (h : ∀ x y z, S [ea x, ec y, ed z] = (N x y z).map eb) (hr : ∀ x y z, Sr [ea x, ec y, ed z] = (NR x y z).map eB) (p : f en = A.map ea) (p2 : g en = B.map ec) (p3 : k en = C.map ed) : fTold 3 S (isT Sr) ret (fCons f (fCons g (fCons k fNil))) en = (A.bind fun x => B.bind fun y => C.bind fun z => toldO eb (N x y z) (NR x y z) ret).map eA := by
  have no : (fCons f (fCons g (fCons k fNil))) en = none → fTold 3 S (isT Sr) ret (fCons f (fCons g (fCons k fNil))) en = none := fun e => by
    unfold fTold
    rw [e]
    rfl
  cases A with
  | none => exact no (by unfold fCons; rw [p]; rfl)
  | some x => cases B with
    | none => exact no (by unfold fCons; rw [p, p2]; rfl)
    | some y => cases C with
      | none => exact no (by unfold fCons; rw [p, p2, p3]; rfl)
      | some z =>
        have e : (fCons f (fCons g (fCons k fNil))) en = some [ea x, ec y, ed z] := by unfold fCons; rw [p, p2, p3]; rfl
        rw [told_one (h x y z) (hr x y z) e 3 rfl]
        show _ = (toldO eb (N x y z) (NR x y z) ret).map eA
        cases toldO eb (N x y z) (NR x y z) ret <;> rfl
end
end Ty
namespace L26
open PySem PySem.Spec PyProof.Rows L2 DN Ty
def F_row : En → Option PyData := (fLst (fCons (fVar 0) (fCons (fLit (.int 0)) (fCons (fLit (.int 4426)) (fCons (fLit (.int 0)) fNil)))))
def F_tail (c__law_settles c_mean_wait c_mean_wait__r c_spill_first c_spill_first__r c__law_is_ratio c__law_month c__law_plus c__law_by c__law_alike c__law_less : List PyData → Option PyData) : En → Option Fl := (sSeq (sSet 4 (fPlus (fSub (fIx (fVar 2) (fLit (.int 0))) (fIx (fVar 2) (fLit (.int 1)))) (fLit (.int 1)))) (sSeq (sIf (kNot (fT (fCall 2 c__law_settles (fCons (fVar 2) (fCons (fVar 3) fNil))))) (sSeq (sOwn 5 (fLst (fCons (fTold 3 c_mean_wait (isT c_mean_wait__r) "unsettled" (fCons (fVar 2) (fCons (fVar 3) (fCons (fLit (.int 0)) fNil)))) fNil))) (sSeq (sApp 5 (fTold 3 c_spill_first (isT c_spill_first__r) "unsettled" (fCons (fVar 2) (fCons (fVar 3) (fCons (fLit (.int 0)) fNil))))) (sRet (fEq (fOwn 5) (fLst (fCons (fLit (.str "unsettled")) (fCons (fLit (.str "unsettled")) fNil))))))) sNil) (sSeq (sPar 6 7 (fLc (iRange1 (fVar 4)) (bName 15) kYes (fCall 3 c_mean_wait (fCons (fVar 2) (fCons (fVar 3) (fCons (fVar 15) fNil)))) [15]) (fLc (iRange1 (fVar 4)) (bName 15) kYes (fCall 3 c_spill_first (fCons (fVar 2) (fCons (fVar 3) (fCons (fVar 15) fNil)))) [15])) (sSeq (sIf (fT (fNe (fLc (iSeq (fPlus (fVar 6) (fVar 7))) (bName 16) (kOr (kNot (fT (fCall 1 c__law_is_ratio (fCons (fVar 16) fNil)))) (fT (fLt (fIx (fVar 16) (fLit (.int 0))) (fLit (.int 0))))) (fVar 16) [16]) (fLst fNil))) (sRet (fLit (.bool false))) sNil) (sSeq (sFor (iRange1 (fVar 4)) (bName 8) (sSeq (sPar 9 10 (fTup (fCons (fLit (.int 1)) (fCons (fLit (.int 1)) fNil))) (fTup (fCons (fLit (.int 0)) (fCons (fLit (.int 1)) fNil)))) (sSeq (sFor (iRange1 (fLen (fVar 3))) (bName 11) (sSeq (sBind (bTup [12, 13, 14]) (fCall 3 c__law_month (fCons (fVar 2) (fCons (fVar 8) (fCons (fVar 11) fNil))))) (sSeq (sIf (fT (fEq (fVar 12) (fIx (fVar 2) (fLit (.int 1))))) (sSet 9 (fCall 2 c__law_plus (fCons (fVar 9) (fCons (fCall 2 c__law_by (fCons (fIx (fVar 3) (fVar 11)) (fCons (fIx (fVar 6) (fVar 14)) fNil))) fNil)))) sNil) (sIf (fT (fGt (fVar 13) (fLit (.int 0)))) (sSet 10 (fCall 2 c__law_plus (fCons (fVar 10) (fCons (fIx (fVar 3) (fVar 11)) fNil)))) (sIf (fT (fEq (fVar 12) (fIx (fVar 2) (fLit (.int 1))))) (sSet 10 (fCall 2 c__law_plus (fCons (fVar 10) (fCons (fCall 2 c__law_by (fCons (fIx (fVar 3) (fVar 11)) (fCons (fIx (fVar 7) (fVar 14)) fNil))) fNil)))) sNil))))) (sSeq (sIf (kOr (kNot (fT (fCall 2 c__law_alike (fCons (fIx (fVar 6) (fVar 8)) (fCons (fVar 9) fNil))))) (kOr (kNot (fT (fCall 2 c__law_alike (fCons (fIx (fVar 7) (fVar 8)) (fCons (fVar 10) fNil))))) (fT (fCall 2 c__law_less (fCons (fTup (fCons (fLit (.int 1)) (fCons (fLit (.int 1)) fNil))) (fCons (fVar 10) fNil)))))) (sRet (fLit (.bool false))) sNil) (sIf (kAnd (fT (fGt (fVar 8) (fLit (.int 0)))) (kOr (fT (fCall 2 c__law_less (fCons (fIx (fVar 6) (fVar 8)) (fCons (fIx (fVar 6) (fSub (fVar 8) (fLit (.int 1)))) fNil)))) (fT (fCall 2 c__law_less (fCons (fIx (fVar 7) (fVar 8)) (fCons (fIx (fVar 7) (fSub (fVar 8) (fLit (.int 1)))) fNil)))))) (sRet (fLit (.bool false))) sNil))))) (sRet (fLit (.bool true))))))))
def F_law (c__law_settles c_mean_wait c_mean_wait__r c_spill_first c_spill_first__r c__law_is_ratio c__law_month c__law_plus c__law_by c__law_alike c__law_less : List PyData → Option PyData) : LF := (lSeq (lBind (bTup [2, 3]) (wDraw 0 cPond wNil)) (lEnd 1 (F_tail c__law_settles c_mean_wait c_mean_wait__r c_spill_first c_spill_first__r c__law_is_ratio c__law_month c__law_plus c__law_by c__law_alike c__law_less)))
noncomputable def N_tail (pond' : (Int × Int)) (chances' : (List (Int × Int))) : Option Bool := ((some ((pond'.1 - pond'.2) + (1 : Int))).bind fun many_5 => (iteO ((N__law_settles pond' chances').bind fun b12 => some (!b12)) (((((some pond').bind fun a14 => (some chances').bind fun a15 => (some (0 : Int)).bind fun a16 => toldO (e2 eI eI) (N_mean_wait a14 a15 a16) (N_mean_wait__r a14 a15 a16) "unsettled").bind fun x17 => (some []).bind fun y18 => some (x17 :: y18)).bind dispO).bind fun told_13 => ((((some pond').bind fun a19 => (some chances').bind fun a20 => (some (0 : Int)).bind fun a21 => toldO (e2 eI eI) (N_spill_first a19 a20 a21) (N_spill_first__r a19 a20 a21) "unsettled").bind fun x23 => (appO told_13 x23).bind fun told_22 => some told_22).bind fun s24 => (eqO ((eL eA) s24) ((eL eS) [("unsettled" : Str), ("unsettled" : Str)])))) (((range1O many_5).bind fun l => compL (fun (i28 : Int) => (some true)) (fun (i28 : Int) => (N_mean_wait pond' chances' i28)) l).bind fun waits_30 => ((range1O many_5).bind fun l => compL (fun (i29 : Int) => (some true)) (fun (i29 : Int) => (N_spill_first pond' chances' i29)) l).bind fun firsts_31 => (iteO (((catO waits_30 firsts_31).bind fun l => compL (fun (i34 : (Int × Int)) => (orO ((N__law_is_ratio i34).bind fun b35 => some (!b35)) (some (decide (i34.1 < (0 : Int)))))) (fun (i34 : (Int × Int)) => (some i34)) l).bind fun x41 => (some ([] : (List (Int × Int)))).bind fun y42 => some (!decide (x41 = y42))) (some false) (bindJ ((range1O many_5).bind fun l => foldJ (fun (i45 : Int) (s43 : Unit) => ((some ((1 : Int), (1 : Int))).bind fun wait_46 => (some ((0 : Int), (1 : Int))).bind fun first_47 => (((range1O ((chances').length : Int)).bind fun l => foldO (fun (i53 : Int) (s51 : ((Int × Int) × (Int × Int))) => ((N__law_month pond' i45 i53).bind fun p54 => ((iteO (some (decide (p54.1 = pond'.2))) (((some s51.1).bind fun a65 => ((atI chances' i53).bind fun a63 => (atI waits_30 p54.2.2).bind fun a64 => N__law_by a63 a64).bind fun a66 => N__law_plus a65 a66).bind fun wait_58 => some wait_58) (some s51.1)).bind fun s67 => (iteO (some (decide ((0 : Int) < p54.2.1))) (((some s51.2).bind fun a76 => (atI chances' i53).bind fun a77 => N__law_plus a76 a77).bind fun first_73 => some (s67, first_73)) (iteO (some (decide (p54.1 = pond'.2))) (((some s51.2).bind fun a88 => ((atI chances' i53).bind fun a86 => (atI firsts_31 p54.2.2).bind fun a87 => N__law_by a86 a87).bind fun a89 => N__law_plus a88 a89).bind fun first_81 => some (s67, first_81)) (some (s67, s51.2))))))) l (wait_46, first_47)).bind fun s48 => (iteO (orO (((atI waits_30 i45).bind fun a92 => (some s48.1).bind fun a93 => alikeT 3 (e2 eI eI) (e2 eI eI) a92 a93).bind fun b94 => some (!b94)) (orO (((atI firsts_31 i45).bind fun a97 => (some s48.2).bind fun a98 => alikeT 3 (e2 eI eI) (e2 eI eI) a97 a98).bind fun b99 => some (!b99)) (N__law_less ((1 : Int), (1 : Int)) s48.2))) ((some false).bind fun v121 => some (.inl v121)) (iteO (andO (some (decide ((0 : Int) < i45))) (orO ((atI waits_30 i45).bind fun a110 => (atI waits_30 (i45 - (1 : Int))).bind fun a111 => N__law_less a110 a111) ((atI firsts_31 i45).bind fun a118 => (atI firsts_31 (i45 - (1 : Int))).bind fun a119 => N__law_less a118 a119))) ((some false).bind fun v120 => some (.inl v120)) (some (.inr ()))))))) l ()) (fun s122 => (some true)))))))
theorem t_tail (ad : Str → Nat) (ns : List Int) (rw : List PyData) (pond' : (Int × Int)) (chances' : (List (Int × Int))) : F_tail S__law_settles (S_mean_wait ad) S_mean_wait__r (S_spill_first ad) S_spill_first__r S__law_is_ratio S__law_month S__law_plus S__law_by (S__law_alike 3) S__law_less [(.dat (.list (List.map PyData.int ns))), (.own rw), .dat ((e2 eI eI) pond'), .dat ((eR (e2 eI eI)) chances'), .no, .no, .no, .no, .no, .no, .no, .no, .no, .no, .no, .no, .no] = rtO eB (N_tail pond' chances') := (r_seq_set (i := 4) (A := (some ((pond'.1 - pond'.2) + (1 : Int)))) (t_f2 (A := (some (pond'.1 - pond'.2))) (B := (some (1 : Int))) (h := (fun x10 y11 => some (x10 + y11))) g_add (t_f2 (A := (some pond'.1)) (B := (some pond'.2)) (h := (fun x8 y9 => some (x8 - y9))) g_sub (t_ixc (A := (some pond')) (k := 0) (pr := fun x6 => x6.1) (eb := eI) (fun _ => rfl) (t_var (i := 2) (e := (e2 eI eI)) (v := pond') rfl)) (t_ixc (A := (some pond')) (k := 1) (pr := fun x7 => x7.2) (eb := eI) (fun _ => rfl) (t_var (i := 2) (e := (e2 eI eI)) (v := pond') rfl))) (t_int (i := 1))) (lt_of rfl) (fun many_5 => (r_seq_ifret (P := ((N__law_settles pond' chances').bind fun b12 => some (!b12))) (A := (((((some pond').bind fun a14 => (some chances').bind fun a15 => (some (0 : Int)).bind fun a16 => toldO (e2 eI eI) (N_mean_wait a14 a15 a16) (N_mean_wait__r a14 a15 a16) "unsettled").bind fun x17 => (some []).bind fun y18 => some (x17 :: y18)).bind dispO).bind fun told_13 => ((((some pond').bind fun a19 => (some chances').bind fun a20 => (some (0 : Int)).bind fun a21 => toldO (e2 eI eI) (N_spill_first a19 a20 a21) (N_spill_first__r a19 a20 a21) "unsettled").bind fun x23 => (appO told_13 x23).bind fun told_22 => some told_22).bind fun s24 => (eqO ((eL eA) s24) ((eL eS) [("unsettled" : Str), ("unsettled" : Str)]))))) (t_knot (P := (N__law_settles pond' chances')) (t_T (P := (N__law_settles pond' chances')) (t_call2 (A := (some pond')) (B := (some chances')) (N := N__law_settles) t__law_settles (t_var (i := 2) (e := (e2 eI eI)) (v := pond') rfl) (t_var (i := 3) (e := (eR (e2 eI eI))) (v := chances') rfl)))) (r_seq_own (i := 5) (ea := eA) (A := ((((some pond').bind fun a14 => (some chances').bind fun a15 => (some (0 : Int)).bind fun a16 => toldO (e2 eI eI) (N_mean_wait a14 a15 a16) (N_mean_wait__r a14 a15 a16) "unsettled").bind fun x17 => (some []).bind fun y18 => some (x17 :: y18)).bind dispO)) (t_lstL (L := (((some pond').bind fun a14 => (some chances').bind fun a15 => (some (0 : Int)).bind fun a16 => toldO (e2 eI eI) (N_mean_wait a14 a15 a16) (N_mean_wait__r a14 a15 a16) "unsettled").bind fun x17 => (some []).bind fun y18 => some (x17 :: y18))) (t_cons (A := ((some pond').bind fun a14 => (some chances').bind fun a15 => (some (0 : Int)).bind fun a16 => toldO (e2 eI eI) (N_mean_wait a14 a15 a16) (N_mean_wait__r a14 a15 a16) "unsettled")) (L := (some [])) (t_told3 (A := (some pond')) (B := (some chances')) (N := N_mean_wait) (NR := N_mean_wait__r) (t_mean_wait ad) t_mean_wait__r (t_var (i := 2) (e := (e2 eI eI)) (v := pond') rfl) (t_var (i := 3) (e := (eR (e2 eI eI))) (v := chances') rfl) (t_int (i := 0))) (t_nil (α := PyData) (e := eA)))) (lt_of rfl) (fun told_13 => (r_seq_nx (env := (fun (s : ((List PyData))) (z : Unit) => [(.dat (.list (List.map PyData.int ns))), (.own rw), .dat ((e2 eI eI) pond'), .dat ((eR (e2 eI eI)) chances'), .dat (eI many_5), .own (List.map eA s), .no, .no, .no, .no, .no, .no, .no, .no, .no, .no, .no])) (n_app (i := 5) (A := ((some pond').bind fun a19 => (some chances').bind fun a20 => (some (0 : Int)).bind fun a21 => toldO (e2 eI eI) (N_spill_first a19 a20 a21) (N_spill_first__r a19 a20 a21) "unsettled")) (v := told_13) (K := fun told_22 => told_22) (t_told3 (A := (some pond')) (B := (some chances')) (N := N_spill_first) (NR := N_spill_first__r) (t_spill_first ad) t_spill_first__r (t_var (i := 2) (e := (e2 eI eI)) (v := pond') rfl) (t_var (i := 3) (e := (eR (e2 eI eI))) (v := chances') rfl) (t_int (i := 0))) rfl (fun told_22 => ⟨(), rfl⟩)) (fun s24 z25 => (r_ret (A := (eqO ((eL eA) s24) ((eL eS) [("unsettled" : Str), ("unsettled" : Str)]))) (t_f2 (A := (some s24)) (B := (some [("unsettled" : Str), ("unsettled" : Str)])) (h := (fun x26 y27 => (eqO ((eL eA) x26) ((eL eS) y27)))) g_eqA (t_own (i := 5) (e := eA) (v := s24) rfl) (t_lstL (L := (some [("unsettled" : Str), ("unsettled" : Str)])) (t_cons (A := (some ("unsettled" : Str))) (L := (some [("unsettled" : Str)])) (t_str (s := "unsettled")) (t_cons (A := (some ("unsettled" : Str))) (L := (some [])) (t_str (s := "unsettled")) (t_nil (α := Str) (e := eS))))))))))) (r_seq_par (i := 6) (j := 7) (A := ((range1O many_5).bind fun l => compL (fun (i28 : Int) => (some true)) (fun (i28 : Int) => (N_mean_wait pond' chances' i28)) l)) (B := ((range1O many_5).bind fun l => compL (fun (i29 : Int) => (some true)) (fun (i29 : Int) => (N_spill_first pond' chances' i29)) l)) (t_lc (L := (range1O many_5)) (ea := eI) (eb := (e2 eI eI)) (T := fun (i28 : Int) => (some true)) (Bf := fun (i28 : Int) => (N_mean_wait pond' chances' i28)) (i_range1 (A := (some many_5)) (t_var (i := 4) (e := eI) (v := many_5) rfl)) (fun i28 => ⟨[(.dat (.list (List.map PyData.int ns))), (.own rw), .dat ((e2 eI eI) pond'), .dat ((eR (e2 eI eI)) chances'), .dat (eI many_5), .no, .no, .no, .no, .no, .no, .no, .no, .no, .no, .dat (eI i28), .no], rfl, t_yes, (t_call3 (A := (some pond')) (B := (some chances')) (C := (some i28)) (N := N_mean_wait) (t_mean_wait ad) (t_var (i := 2) (e := (e2 eI eI)) (v := pond') rfl) (t_var (i := 3) (e := (eR (e2 eI eI))) (v := chances') rfl) (t_var (i := 15) (e := eI) (v := i28) rfl))⟩)) (t_lc (L := (range1O many_5)) (ea := eI) (eb := (e2 eI eI)) (T := fun (i29 : Int) => (some true)) (Bf := fun (i29 : Int) => (N_spill_first pond' chances' i29)) (i_range1 (A := (some many_5)) (t_var (i := 4) (e := eI) (v := many_5) rfl)) (fun i29 => ⟨[(.dat (.list (List.map PyData.int ns))), (.own rw), .dat ((e2 eI eI) pond'), .dat ((eR (e2 eI eI)) chances'), .dat (eI many_5), .no, .no, .no, .no, .no, .no, .no, .no, .no, .no, .dat (eI i29), .no], rfl, t_yes, (t_call3 (A := (some pond')) (B := (some chances')) (C := (some i29)) (N := N_spill_first) (t_spill_first ad) (t_var (i := 2) (e := (e2 eI eI)) (v := pond') rfl) (t_var (i := 3) (e := (eR (e2 eI eI))) (v := chances') rfl) (t_var (i := 15) (e := eI) (v := i29) rfl))⟩)) (lt_of rfl) (lt_of rfl) (fun waits_30 firsts_31 => (r_seq_ifret (P := (((catO waits_30 firsts_31).bind fun l => compL (fun (i34 : (Int × Int)) => (orO ((N__law_is_ratio i34).bind fun b35 => some (!b35)) (some (decide (i34.1 < (0 : Int)))))) (fun (i34 : (Int × Int)) => (some i34)) l).bind fun x41 => (some ([] : (List (Int × Int)))).bind fun y42 => some (!decide (x41 = y42)))) (A := (some false)) (t_T (P := (((catO waits_30 firsts_31).bind fun l => compL (fun (i34 : (Int × Int)) => (orO ((N__law_is_ratio i34).bind fun b35 => some (!b35)) (some (decide (i34.1 < (0 : Int)))))) (fun (i34 : (Int × Int)) => (some i34)) l).bind fun x41 => (some ([] : (List (Int × Int)))).bind fun y42 => some (!decide (x41 = y42)))) (t_f2 (A := ((catO waits_30 firsts_31).bind fun l => compL (fun (i34 : (Int × Int)) => (orO ((N__law_is_ratio i34).bind fun b35 => some (!b35)) (some (decide (i34.1 < (0 : Int)))))) (fun (i34 : (Int × Int)) => (some i34)) l)) (B := (some ([] : (List (Int × Int))))) (h := (fun x41 y42 => some (!decide (x41 = y42)))) (g_ne (enc_L (enc_2 enc_I enc_I)) rfl) (t_lc (L := (catO waits_30 firsts_31)) (ea := (e2 eI eI)) (eb := (e2 eI eI)) (T := fun (i34 : (Int × Int)) => (orO ((N__law_is_ratio i34).bind fun b35 => some (!b35)) (some (decide (i34.1 < (0 : Int)))))) (Bf := fun (i34 : (Int × Int)) => (some i34)) (i_seqL (A := (catO waits_30 firsts_31)) (e := (e2 eI eI)) (t_f2 (A := (some waits_30)) (B := (some firsts_31)) (h := (fun x32 y33 => (catO x32 y33))) g_addL (t_var (i := 6) (e := (eL (e2 eI eI))) (v := waits_30) rfl) (t_var (i := 7) (e := (eL (e2 eI eI))) (v := firsts_31) rfl))) (fun i34 => ⟨[(.dat (.list (List.map PyData.int ns))), (.own rw), .dat ((e2 eI eI) pond'), .dat ((eR (e2 eI eI)) chances'), .dat (eI many_5), .no, .dat ((eL (e2 eI eI)) waits_30), .dat ((eL (e2 eI eI)) firsts_31), .no, .no, .no, .no, .no, .no, .no, .no, .dat ((e2 eI eI) i34)], rfl, (t_kor (P := ((N__law_is_ratio i34).bind fun b35 => some (!b35))) (Q := (some (decide (i34.1 < (0 : Int))))) (t_knot (P := (N__law_is_ratio i34)) (t_T (P := (N__law_is_ratio i34)) (t_call1 (A := (some i34)) (N := N__law_is_ratio) t__law_is_ratio (t_var (i := 16) (e := (e2 eI eI)) (v := i34) rfl)))) (t_T (P := (some (decide (i34.1 < (0 : Int))))) (t_f2 (A := (some i34.1)) (B := (some (0 : Int))) (h := (fun x39 y40 => some (decide (x39 < y40)))) g_lt (t_ixc (A := (some i34)) (k := 0) (pr := fun x36 => x36.1) (eb := eI) (fun _ => rfl) (t_var (i := 16) (e := (e2 eI eI)) (v := i34) rfl)) (t_int (i := 0))))), (t_var (i := 16) (e := (e2 eI eI)) (v := i34) rfl)⟩)) (t_lstL (L := some []) (t_nil (α := (Int × Int)) (e := (e2 eI eI)))))) (r_ret (A := (some false)) (t_bl (b := false))) (r_seq_bj (env := (fun (s : Unit) (z : (Slot × Slot × Slot × Slot × Slot × Slot × Slot)) => [(.dat (.list (List.map PyData.int ns))), (.own rw), .dat ((e2 eI eI) pond'), .dat ((eR (e2 eI eI)) chances'), .dat (eI many_5), .no, .dat ((eL (e2 eI eI)) waits_30), .dat ((eL (e2 eI eI)) firsts_31), z.1, z.2.1, z.2.2.1, z.2.2.2.1, z.2.2.2.2.1, z.2.2.2.2.2.1, z.2.2.2.2.2.2, .no, .no])) (j_for (env := (fun (s : Unit) (z : (Slot × Slot × Slot × Slot × Slot × Slot × Slot)) => [(.dat (.list (List.map PyData.int ns))), (.own rw), .dat ((e2 eI eI) pond'), .dat ((eR (e2 eI eI)) chances'), .dat (eI many_5), .no, .dat ((eL (e2 eI eI)) waits_30), .dat ((eL (e2 eI eI)) firsts_31), z.1, z.2.1, z.2.2.1, z.2.2.2.1, z.2.2.2.2.1, z.2.2.2.2.2.1, z.2.2.2.2.2.2, .no, .no])) (s := ()) (z := ((.no : Slot), (.no : Slot), (.no : Slot), (.no : Slot), (.no : Slot), (.no : Slot), (.no : Slot))) (L := (range1O many_5)) (ea := eI) (Bd := (fun (i45 : Int) (s43 : Unit) => ((some ((1 : Int), (1 : Int))).bind fun wait_46 => (some ((0 : Int), (1 : Int))).bind fun first_47 => (((range1O ((chances').length : Int)).bind fun l => foldO (fun (i53 : Int) (s51 : ((Int × Int) × (Int × Int))) => ((N__law_month pond' i45 i53).bind fun p54 => ((iteO (some (decide (p54.1 = pond'.2))) (((some s51.1).bind fun a65 => ((atI chances' i53).bind fun a63 => (atI waits_30 p54.2.2).bind fun a64 => N__law_by a63 a64).bind fun a66 => N__law_plus a65 a66).bind fun wait_58 => some wait_58) (some s51.1)).bind fun s67 => (iteO (some (decide ((0 : Int) < p54.2.1))) (((some s51.2).bind fun a76 => (atI chances' i53).bind fun a77 => N__law_plus a76 a77).bind fun first_73 => some (s67, first_73)) (iteO (some (decide (p54.1 = pond'.2))) (((some s51.2).bind fun a88 => ((atI chances' i53).bind fun a86 => (atI firsts_31 p54.2.2).bind fun a87 => N__law_by a86 a87).bind fun a89 => N__law_plus a88 a89).bind fun first_81 => some (s67, first_81)) (some (s67, s51.2))))))) l (wait_46, first_47)).bind fun s48 => (iteO (orO (((atI waits_30 i45).bind fun a92 => (some s48.1).bind fun a93 => alikeT 3 (e2 eI eI) (e2 eI eI) a92 a93).bind fun b94 => some (!b94)) (orO (((atI firsts_31 i45).bind fun a97 => (some s48.2).bind fun a98 => alikeT 3 (e2 eI eI) (e2 eI eI) a97 a98).bind fun b99 => some (!b99)) (N__law_less ((1 : Int), (1 : Int)) s48.2))) ((some false).bind fun v121 => some (.inl v121)) (iteO (andO (some (decide ((0 : Int) < i45))) (orO ((atI waits_30 i45).bind fun a110 => (atI waits_30 (i45 - (1 : Int))).bind fun a111 => N__law_less a110 a111) ((atI firsts_31 i45).bind fun a118 => (atI firsts_31 (i45 - (1 : Int))).bind fun a119 => N__law_less a118 a119))) ((some false).bind fun v120 => some (.inl v120)) (some (.inr ())))))))) rfl (i_range1 (A := (some many_5)) (t_var (i := 4) (e := eI) (v := many_5) rfl)) (fun i45 s43 z44 => ⟨[(.dat (.list (List.map PyData.int ns))), (.own rw), .dat ((e2 eI eI) pond'), .dat ((eR (e2 eI eI)) chances'), .dat (eI many_5), .no, .dat ((eL (e2 eI eI)) waits_30), .dat ((eL (e2 eI eI)) firsts_31), .dat (eI i45), z44.2.1, z44.2.2.1, z44.2.2.2.1, z44.2.2.2.2.1, z44.2.2.2.2.2.1, z44.2.2.2.2.2.2, .no, .no], rfl, (j_seq_par (i := 9) (j := 10) (A := (some ((1 : Int), (1 : Int)))) (B := (some ((0 : Int), (1 : Int)))) (t_tup2 (A := (some (1 : Int))) (B := (some (1 : Int))) (t_int (i := 1)) (t_int (i := 1))) (t_tup2 (A := (some (0 : Int))) (B := (some (1 : Int))) (t_int (i := 0)) (t_int (i := 1))) (lt_of rfl) (lt_of rfl) (fun wait_46 first_47 => (j_seq_n (env2 := (fun (s : ((Int × Int) × (Int × Int))) (z : (Slot × Slot × Slot × Slot)) => [(.dat (.list (List.map PyData.int ns))), (.own rw), .dat ((e2 eI eI) pond'), .dat ((eR (e2 eI eI)) chances'), .dat (eI many_5), .no, .dat ((eL (e2 eI eI)) waits_30), .dat ((eL (e2 eI eI)) firsts_31), .dat (eI i45), .dat ((e2 eI eI) s.1), .dat ((e2 eI eI) s.2), z.1, z.2.1, z.2.2.1, z.2.2.2, .no, .no])) (A := ((range1O ((chances').length : Int)).bind fun l => foldO (fun (i53 : Int) (s51 : ((Int × Int) × (Int × Int))) => ((N__law_month pond' i45 i53).bind fun p54 => ((iteO (some (decide (p54.1 = pond'.2))) (((some s51.1).bind fun a65 => ((atI chances' i53).bind fun a63 => (atI waits_30 p54.2.2).bind fun a64 => N__law_by a63 a64).bind fun a66 => N__law_plus a65 a66).bind fun wait_58 => some wait_58) (some s51.1)).bind fun s67 => (iteO (some (decide ((0 : Int) < p54.2.1))) (((some s51.2).bind fun a76 => (atI chances' i53).bind fun a77 => N__law_plus a76 a77).bind fun first_73 => some (s67, first_73)) (iteO (some (decide (p54.1 = pond'.2))) (((some s51.2).bind fun a88 => ((atI chances' i53).bind fun a86 => (atI firsts_31 p54.2.2).bind fun a87 => N__law_by a86 a87).bind fun a89 => N__law_plus a88 a89).bind fun first_81 => some (s67, first_81)) (some (s67, s51.2))))))) l (wait_46, first_47))) (n_for (env := (fun (s : ((Int × Int) × (Int × Int))) (z : (Slot × Slot × Slot × Slot)) => [(.dat (.list (List.map PyData.int ns))), (.own rw), .dat ((e2 eI eI) pond'), .dat ((eR (e2 eI eI)) chances'), .dat (eI many_5), .no, .dat ((eL (e2 eI eI)) waits_30), .dat ((eL (e2 eI eI)) firsts_31), .dat (eI i45), .dat ((e2 eI eI) s.1), .dat ((e2 eI eI) s.2), z.1, z.2.1, z.2.2.1, z.2.2.2, .no, .no])) (s := (wait_46, first_47)) (z := ((z44.2.2.2.1 : Slot), (z44.2.2.2.2.1 : Slot), (z44.2.2.2.2.2.1 : Slot), (z44.2.2.2.2.2.2 : Slot))) (L := (range1O ((chances').length : Int))) (ea := eI) (Bd := (fun (i53 : Int) (s51 : ((Int × Int) × (Int × Int))) => ((N__law_month pond' i45 i53).bind fun p54 => ((iteO (some (decide (p54.1 = pond'.2))) (((some s51.1).bind fun a65 => ((atI chances' i53).bind fun a63 => (atI waits_30 p54.2.2).bind fun a64 => N__law_by a63 a64).bind fun a66 => N__law_plus a65 a66).bind fun wait_58 => some wait_58) (some s51.1)).bind fun s67 => (iteO (some (decide ((0 : Int) < p54.2.1))) (((some s51.2).bind fun a76 => (atI chances' i53).bind fun a77 => N__law_plus a76 a77).bind fun first_73 => some (s67, first_73)) (iteO (some (decide (p54.1 = pond'.2))) (((some s51.2).bind fun a88 => ((atI chances' i53).bind fun a86 => (atI firsts_31 p54.2.2).bind fun a87 => N__law_by a86 a87).bind fun a89 => N__law_plus a88 a89).bind fun first_81 => some (s67, first_81)) (some (s67, s51.2)))))))) rfl (i_range1 (A := (some ((chances').length : Int))) (t_f1 (A := (some chances')) (h := (fun x50 => some ((x50).length : Int))) g_lenR (t_var (i := 3) (e := (eR (e2 eI eI))) (v := chances') rfl))) (fun i53 s51 z52 => ⟨[(.dat (.list (List.map PyData.int ns))), (.own rw), .dat ((e2 eI eI) pond'), .dat ((eR (e2 eI eI)) chances'), .dat (eI many_5), .no, .dat ((eL (e2 eI eI)) waits_30), .dat ((eL (e2 eI eI)) firsts_31), .dat (eI i45), .dat ((e2 eI eI) s51.1), .dat ((e2 eI eI) s51.2), .dat (eI i53), z52.2.1, z52.2.2.1, z52.2.2.2, .no, .no], rfl, (n_seq_bind (A := (N__law_month pond' i45 i53)) (envb := fun p54 => [(.dat (.list (List.map PyData.int ns))), (.own rw), .dat ((e2 eI eI) pond'), .dat ((eR (e2 eI eI)) chances'), .dat (eI many_5), .no, .dat ((eL (e2 eI eI)) waits_30), .dat ((eL (e2 eI eI)) firsts_31), .dat (eI i45), .dat ((e2 eI eI) s51.1), .dat ((e2 eI eI) s51.2), .dat (eI i53), .dat (eI p54.1), .dat (eI p54.2.1), .dat (eI p54.2.2), .no, .no]) (t_call3 (A := (some pond')) (B := (some i45)) (C := (some i53)) (N := N__law_month) t__law_month (t_var (i := 2) (e := (e2 eI eI)) (v := pond') rfl) (t_var (i := 8) (e := eI) (v := i45) rfl) (t_var (i := 11) (e := eI) (v := i53) rfl)) (fun _ => rfl) (fun p54 => (n_seq (env2 := (fun (s : ((Int × Int))) (z : Unit) => [(.dat (.list (List.map PyData.int ns))), (.own rw), .dat ((e2 eI eI) pond'), .dat ((eR (e2 eI eI)) chances'), .dat (eI many_5), .no, .dat ((eL (e2 eI eI)) waits_30), .dat ((eL (e2 eI eI)) firsts_31), .dat (eI i45), .dat ((e2 eI eI) s), .dat ((e2 eI eI) s51.2), .dat (eI i53), .dat (eI p54.1), .dat (eI p54.2.1), .dat (eI p54.2.2), .no, .no])) (A := (iteO (some (decide (p54.1 = pond'.2))) (((some s51.1).bind fun a65 => ((atI chances' i53).bind fun a63 => (atI waits_30 p54.2.2).bind fun a64 => N__law_by a63 a64).bind fun a66 => N__law_plus a65 a66).bind fun wait_58 => some wait_58) (some s51.1))) (n_if (P := (some (decide (p54.1 = pond'.2)))) (A := (((some s51.1).bind fun a65 => ((atI chances' i53).bind fun a63 => (atI waits_30 p54.2.2).bind fun a64 => N__law_by a63 a64).bind fun a66 => N__law_plus a65 a66).bind fun wait_58 => some wait_58)) (B := (some s51.1)) (t_T (P := (some (decide (p54.1 = pond'.2)))) (t_f2 (A := (some p54.1)) (B := (some pond'.2)) (h := (fun x56 y57 => some (decide (x56 = y57)))) (g_eq enc_I rfl) (t_var (i := 12) (e := eI) (v := p54.1) rfl) (t_ixc (A := (some pond')) (k := 1) (pr := fun x55 => x55.2) (eb := eI) (fun _ => rfl) (t_var (i := 2) (e := (e2 eI eI)) (v := pond') rfl)))) (n_set  (K := fun wait_58 => wait_58) (i := 9) (A := ((some s51.1).bind fun a65 => ((atI chances' i53).bind fun a63 => (atI waits_30 p54.2.2).bind fun a64 => N__law_by a63 a64).bind fun a66 => N__law_plus a65 a66)) (t_call2 (A := (some s51.1)) (B := ((atI chances' i53).bind fun a63 => (atI waits_30 p54.2.2).bind fun a64 => N__law_by a63 a64)) (N := N__law_plus) t__law_plus (t_var (i := 9) (e := (e2 eI eI)) (v := s51.1) rfl) (t_call2 (A := (atI chances' i53)) (B := (atI waits_30 p54.2.2)) (N := N__law_by) t__law_by (t_f2 (A := (some chances')) (B := (some i53)) (h := (fun x59 y60 => (atI x59 y60))) g_ixR (t_var (i := 3) (e := (eR (e2 eI eI))) (v := chances') rfl) (t_var (i := 11) (e := eI) (v := i53) rfl)) (t_f2 (A := (some waits_30)) (B := (some p54.2.2)) (h := (fun x61 y62 => (atI x61 y62))) g_ixL (t_var (i := 6) (e := (eL (e2 eI eI))) (v := waits_30) rfl) (t_var (i := 14) (e := eI) (v := p54.2.2) rfl)))) (lt_of rfl) (fun wait_58 => ⟨(), rfl⟩)) (n_nil (s := s51.1) (z := ()) rfl)) (fun s67 z68 => (n_if (P := (some (decide ((0 : Int) < p54.2.1)))) (A := (((some s51.2).bind fun a76 => (atI chances' i53).bind fun a77 => N__law_plus a76 a77).bind fun first_73 => some (s67, first_73))) (B := (iteO (some (decide (p54.1 = pond'.2))) (((some s51.2).bind fun a88 => ((atI chances' i53).bind fun a86 => (atI firsts_31 p54.2.2).bind fun a87 => N__law_by a86 a87).bind fun a89 => N__law_plus a88 a89).bind fun first_81 => some (s67, first_81)) (some (s67, s51.2)))) (t_T (P := (some (decide ((0 : Int) < p54.2.1)))) (t_f2 (A := (some p54.2.1)) (B := (some (0 : Int))) (h := (fun x71 y72 => some (decide (y72 < x71)))) g_gt (t_var (i := 13) (e := eI) (v := p54.2.1) rfl) (t_int (i := 0)))) (n_set  (K := fun first_73 => (s67, first_73)) (i := 10) (A := ((some s51.2).bind fun a76 => (atI chances' i53).bind fun a77 => N__law_plus a76 a77)) (t_call2 (A := (some s51.2)) (B := (atI chances' i53)) (N := N__law_plus) t__law_plus (t_var (i := 10) (e := (e2 eI eI)) (v := s51.2) rfl) (t_f2 (A := (some chances')) (B := (some i53)) (h := (fun x74 y75 => (atI x74 y75))) g_ixR (t_var (i := 3) (e := (eR (e2 eI eI))) (v := chances') rfl) (t_var (i := 11) (e := eI) (v := i53) rfl))) (lt_of rfl) (fun first_73 => ⟨((.dat (eI i53) : Slot), (.dat (eI p54.1) : Slot), (.dat (eI p54.2.1) : Slot), (.dat (eI p54.2.2) : Slot)), rfl⟩)) (n_if (P := (some (decide (p54.1 = pond'.2)))) (A := (((some s51.2).bind fun a88 => ((atI chances' i53).bind fun a86 => (atI firsts_31 p54.2.2).bind fun a87 => N__law_by a86 a87).bind fun a89 => N__law_plus a88 a89).bind fun first_81 => some (s67, first_81))) (B := (some (s67, s51.2))) (t_T (P := (some (decide (p54.1 = pond'.2)))) (t_f2 (A := (some p54.1)) (B := (some pond'.2)) (h := (fun x79 y80 => some (decide (x79 = y80)))) (g_eq enc_I rfl) (t_var (i := 12) (e := eI) (v := p54.1) rfl) (t_ixc (A := (some pond')) (k := 1) (pr := fun x78 => x78.2) (eb := eI) (fun _ => rfl) (t_var (i := 2) (e := (e2 eI eI)) (v := pond') rfl)))) (n_set  (K := fun first_81 => (s67, first_81)) (i := 10) (A := ((some s51.2).bind fun a88 => ((atI chances' i53).bind fun a86 => (atI firsts_31 p54.2.2).bind fun a87 => N__law_by a86 a87).bind fun a89 => N__law_plus a88 a89)) (t_call2 (A := (some s51.2)) (B := ((atI chances' i53).bind fun a86 => (atI firsts_31 p54.2.2).bind fun a87 => N__law_by a86 a87)) (N := N__law_plus) t__law_plus (t_var (i := 10) (e := (e2 eI eI)) (v := s51.2) rfl) (t_call2 (A := (atI chances' i53)) (B := (atI firsts_31 p54.2.2)) (N := N__law_by) t__law_by (t_f2 (A := (some chances')) (B := (some i53)) (h := (fun x82 y83 => (atI x82 y83))) g_ixR (t_var (i := 3) (e := (eR (e2 eI eI))) (v := chances') rfl) (t_var (i := 11) (e := eI) (v := i53) rfl)) (t_f2 (A := (some firsts_31)) (B := (some p54.2.2)) (h := (fun x84 y85 => (atI x84 y85))) g_ixL (t_var (i := 7) (e := (eL (e2 eI eI))) (v := firsts_31) rfl) (t_var (i := 14) (e := eI) (v := p54.2.2) rfl)))) (lt_of rfl) (fun first_81 => ⟨((.dat (eI i53) : Slot), (.dat (eI p54.1) : Slot), (.dat (eI p54.2.1) : Slot), (.dat (eI p54.2.2) : Slot)), rfl⟩)) (n_nil (s := (s67, s51.2)) (z := ((.dat (eI i53) : Slot), (.dat (eI p54.1) : Slot), (.dat (eI p54.2.1) : Slot), (.dat (eI p54.2.2) : Slot))) rfl)))))))⟩)) (fun s48 z49 => (j_seq_ifret (P := (orO (((atI waits_30 i45).bind fun a92 => (some s48.1).bind fun a93 => alikeT 3 (e2 eI eI) (e2 eI eI) a92 a93).bind fun b94 => some (!b94)) (orO (((atI firsts_31 i45).bind fun a97 => (some s48.2).bind fun a98 => alikeT 3 (e2 eI eI) (e2 eI eI) a97 a98).bind fun b99 => some (!b99)) (N__law_less ((1 : Int), (1 : Int)) s48.2)))) (A := (some false)) (t_kor (P := (((atI waits_30 i45).bind fun a92 => (some s48.1).bind fun a93 => alikeT 3 (e2 eI eI) (e2 eI eI) a92 a93).bind fun b94 => some (!b94))) (Q := (orO (((atI firsts_31 i45).bind fun a97 => (some s48.2).bind fun a98 => alikeT 3 (e2 eI eI) (e2 eI eI) a97 a98).bind fun b99 => some (!b99)) (N__law_less ((1 : Int), (1 : Int)) s48.2))) (t_knot (P := ((atI waits_30 i45).bind fun a92 => (some s48.1).bind fun a93 => alikeT 3 (e2 eI eI) (e2 eI eI) a92 a93)) (t_T (P := ((atI waits_30 i45).bind fun a92 => (some s48.1).bind fun a93 => alikeT 3 (e2 eI eI) (e2 eI eI) a92 a93)) (t_call2 (A := (atI waits_30 i45)) (B := (some s48.1)) (N := alikeT 3 (e2 eI eI) (e2 eI eI)) (t_alikeT 3 (e2 eI eI) (e2 eI eI)) (t_f2 (A := (some waits_30)) (B := (some i45)) (h := (fun x90 y91 => (atI x90 y91))) g_ixL (t_var (i := 6) (e := (eL (e2 eI eI))) (v := waits_30) rfl) (t_var (i := 8) (e := eI) (v := i45) rfl)) (t_var (i := 9) (e := (e2 eI eI)) (v := s48.1) rfl)))) (t_kor (P := (((atI firsts_31 i45).bind fun a97 => (some s48.2).bind fun a98 => alikeT 3 (e2 eI eI) (e2 eI eI) a97 a98).bind fun b99 => some (!b99))) (Q := (N__law_less ((1 : Int), (1 : Int)) s48.2)) (t_knot (P := ((atI firsts_31 i45).bind fun a97 => (some s48.2).bind fun a98 => alikeT 3 (e2 eI eI) (e2 eI eI) a97 a98)) (t_T (P := ((atI firsts_31 i45).bind fun a97 => (some s48.2).bind fun a98 => alikeT 3 (e2 eI eI) (e2 eI eI) a97 a98)) (t_call2 (A := (atI firsts_31 i45)) (B := (some s48.2)) (N := alikeT 3 (e2 eI eI) (e2 eI eI)) (t_alikeT 3 (e2 eI eI) (e2 eI eI)) (t_f2 (A := (some firsts_31)) (B := (some i45)) (h := (fun x95 y96 => (atI x95 y96))) g_ixL (t_var (i := 7) (e := (eL (e2 eI eI))) (v := firsts_31) rfl) (t_var (i := 8) (e := eI) (v := i45) rfl)) (t_var (i := 10) (e := (e2 eI eI)) (v := s48.2) rfl)))) (t_T (P := (N__law_less ((1 : Int), (1 : Int)) s48.2)) (t_call2 (A := (some ((1 : Int), (1 : Int)))) (B := (some s48.2)) (N := N__law_less) t__law_less (t_tup2 (A := (some (1 : Int))) (B := (some (1 : Int))) (t_int (i := 1)) (t_int (i := 1))) (t_var (i := 10) (e := (e2 eI eI)) (v := s48.2) rfl))))) (r_ret (A := (some false)) (t_bl (b := false))) (j_if (P := (andO (some (decide ((0 : Int) < i45))) (orO ((atI waits_30 i45).bind fun a110 => (atI waits_30 (i45 - (1 : Int))).bind fun a111 => N__law_less a110 a111) ((atI firsts_31 i45).bind fun a118 => (atI firsts_31 (i45 - (1 : Int))).bind fun a119 => N__law_less a118 a119)))) (A := ((some false).bind fun v120 => some (.inl v120))) (B := (some (.inr ()))) (t_kand (P := (some (decide ((0 : Int) < i45)))) (Q := (orO ((atI waits_30 i45).bind fun a110 => (atI waits_30 (i45 - (1 : Int))).bind fun a111 => N__law_less a110 a111) ((atI firsts_31 i45).bind fun a118 => (atI firsts_31 (i45 - (1 : Int))).bind fun a119 => N__law_less a118 a119))) (t_T (P := (some (decide ((0 : Int) < i45)))) (t_f2 (A := (some i45)) (B := (some (0 : Int))) (h := (fun x102 y103 => some (decide (y103 < x102)))) g_gt (t_var (i := 8) (e := eI) (v := i45) rfl) (t_int (i := 0)))) (t_kor (P := ((atI waits_30 i45).bind fun a110 => (atI waits_30 (i45 - (1 : Int))).bind fun a111 => N__law_less a110 a111)) (Q := ((atI firsts_31 i45).bind fun a118 => (atI firsts_31 (i45 - (1 : Int))).bind fun a119 => N__law_less a118 a119)) (t_T (P := ((atI waits_30 i45).bind fun a110 => (atI waits_30 (i45 - (1 : Int))).bind fun a111 => N__law_less a110 a111)) (t_call2 (A := (atI waits_30 i45)) (B := (atI waits_30 (i45 - (1 : Int)))) (N := N__law_less) t__law_less (t_f2 (A := (some waits_30)) (B := (some i45)) (h := (fun x104 y105 => (atI x104 y105))) g_ixL (t_var (i := 6) (e := (eL (e2 eI eI))) (v := waits_30) rfl) (t_var (i := 8) (e := eI) (v := i45) rfl)) (t_f2 (A := (some waits_30)) (B := (some (i45 - (1 : Int)))) (h := (fun x108 y109 => (atI x108 y109))) g_ixL (t_var (i := 6) (e := (eL (e2 eI eI))) (v := waits_30) rfl) (t_f2 (A := (some i45)) (B := (some (1 : Int))) (h := (fun x106 y107 => some (x106 - y107))) g_sub (t_var (i := 8) (e := eI) (v := i45) rfl) (t_int (i := 1)))))) (t_T (P := ((atI firsts_31 i45).bind fun a118 => (atI firsts_31 (i45 - (1 : Int))).bind fun a119 => N__law_less a118 a119)) (t_call2 (A := (atI firsts_31 i45)) (B := (atI firsts_31 (i45 - (1 : Int)))) (N := N__law_less) t__law_less (t_f2 (A := (some firsts_31)) (B := (some i45)) (h := (fun x112 y113 => (atI x112 y113))) g_ixL (t_var (i := 7) (e := (eL (e2 eI eI))) (v := firsts_31) rfl) (t_var (i := 8) (e := eI) (v := i45) rfl)) (t_f2 (A := (some firsts_31)) (B := (some (i45 - (1 : Int)))) (h := (fun x116 y117 => (atI x116 y117))) g_ixL (t_var (i := 7) (e := (eL (e2 eI eI))) (v := firsts_31) rfl) (t_f2 (A := (some i45)) (B := (some (1 : Int))) (h := (fun x114 y115 => some (x114 - y115))) g_sub (t_var (i := 8) (e := eI) (v := i45) rfl) (t_int (i := 1)))))))) (j_of_r (A := (some false)) (r_ret (A := (some false)) (t_bl (b := false)))) (j_of_n (A := some ()) (n_nil (s := ()) (z := ((.dat (eI i45) : Slot), (.dat ((e2 eI eI) s48.1) : Slot), (.dat ((e2 eI eI) s48.2) : Slot), (z49.1 : Slot), (z49.2.1 : Slot), (z49.2.2.1 : Slot), (z49.2.2.2 : Slot))) rfl))))))))⟩)) (fun s122 z123 => (r_ret (A := (some true)) (t_bl (b := true)))))))))))
def Law : Prop := (∀ (d1 : PondT) (o2 : List (Int × Int)), PondIn d1 → ChIn o2 → (N_tail ((d1, o2).1) ((d1, o2).2) = some true))
theorem law_of (ad : Str → Nat) (H : Law) : ∀ ns : List Int, ns.length ≤ 63 → ∃ rw, RowOk rw ∧ F_row (lawEn 17 ns) = some (.list rw) ∧ ∀ en', (∃ rw', en' = (lawEn 17 ns).set 1 (.own rw')) → F_law S__law_settles (S_mean_wait ad) S_mean_wait__r (S_spill_first ad) S_spill_first__r S__law_is_ratio S__law_month S__law_plus S__law_by (S__law_alike 3) S__law_less en' fun r => r = .rt (.bool true) := by
  intro ns hns
  refine ⟨_, rowOk (ns := ns) (i := 0) (m := 4426) (c := 0) hns (by decide) (by decide) (by decide) (by decide), rfl, ?_⟩
  rintro en' ⟨rw, rfl⟩
  exact ⟨rfl, rfl, fun d1 o2 g3 g4 => ⟨_, rfl, (fun rw _ => ⟨true, Eq.trans (t_tail ad ns rw ((d1, o2).1) ((d1, o2).2)) (congrArg (rtO eB) (H d1 o2 g3 g4)), rfl⟩)⟩⟩
structure Txt (K : PySem.W.Frag) (mg : Str → Option Value) : Prop where
  b_abs : mg "abs" = none
  b_all : mg "all" = none
  b_any : mg "any" = none
  b_bool : mg "bool" = none
  b_enumerate : mg "enumerate" = none
  b_int : mg "int" = none
  b_isinstance : mg "isinstance" = none
  b_len : mg "len" = none
  b_list : mg "list" = none
  b_min : mg "min" = none
  b_range : mg "range" = none
  b_str : mg "str" = none
  b_sum : mg "sum" = none
  b_tuple : mg "tuple" = none
  b_zip : mg "zip" = none
  m_gcd : mg "gcd" = some (.builtin "math.gcd")
  k_LEAST_INFLOWS : ∃ t, mg "LEAST_INFLOWS" = some (.int 2 t)
  k_MOST_CAPACITY : ∃ t, mg "MOST_CAPACITY" = some (.int 8 t)
  k_MOST_INFLOWS : ∃ t, mg "MOST_INFLOWS" = some (.int 6 t)
  k_MOST_OF_CHANCE : ∃ t, mg "MOST_OF_CHANCE" = some (.int 100 t)
section
variable {P : Program} {w : World} {K : PySem.W.Frag} {mg : Str → Option Value} {base : Heap} {Ts : TsT}
abbrev s_is_whole : Stmt := top 8
theorem sc_is_whole : FnScope ["value"] ["value"] (defScope s_is_whole) := ⟨rfl, rfl, rfl, by decide +kernel, rfl, by decide +kernel, by decide +kernel⟩
theorem ok_is_whole (T : Txt K mg) {f : Addr} {fd : FuncData} {cdv : Value} (D : DF K "is_whole" "is_whole" s_is_whole f fd cdv) : FnOk P w K mg base CX0 1 f fd ["value"] (spD K Ts 1 (runD 1 (F_is_whole))) := by
  refine D.ok sc_is_whole fun A outer s H E hr => ?_
  exact (s_one (s_ret (d_and (d_isi isi_int (by rfl) T.b_isinstance (by decide +kernel) (by rfl) T.b_int (by decide +kernel) (d_var 0)) (d_one (d_not (d_isi isi_bool (by rfl) T.b_isinstance (by decide +kernel) (by rfl) T.b_bool (by decide +kernel) (d_var 0)))))))
abbrev s_is_between : Stmt := top 9
theorem sc_is_between : FnScope ["value", "least", "most"] ["value", "least", "most"] (defScope s_is_between) := ⟨rfl, rfl, rfl, by decide +kernel, rfl, by decide +kernel, by decide +kernel⟩
theorem ok_is_between {c_is_whole : List PyData → Option PyData} (T : Txt K mg) {f : Addr} {fd : FuncData} {cdv : Value} (D : DF K "is_between" "is_between" s_is_between f fd cdv) (h_is_whole : CF P w K mg base Ts 1 "is_whole" 1 c_is_whole) : FnOk P w K mg base CX0 2 f fd ["value", "least", "most"] (spD K Ts 3 (runD 3 (F_is_between c_is_whole))) := by
  refine D.ok sc_is_between fun A outer s H E hr => ?_
  have l_is_whole : 1 ≤ 1 := by decide
  exact (s_one (s_ret (d_and (d_call hr (CF.call h_is_whole) l_is_whole (by rfl) (da_cons (d_var 0) da_nil)) (d_one (d_lele (d_var 1) (d_var 0) (d_var 2))))))
abbrev s_is_ratio : Stmt := top 10
theorem sc_is_ratio : FnScope ["value", "top", "bottom"] ["value"] (defScope s_is_ratio) := ⟨rfl, rfl, rfl, by decide +kernel, rfl, by decide +kernel, by decide +kernel⟩
theorem ok_is_ratio {c_is_whole : List PyData → Option PyData} (T : Txt K mg) {f : Addr} {fd : FuncData} {cdv : Value} (D : DF K "is_ratio" "is_ratio" s_is_ratio f fd cdv) (h_is_whole : CF P w K mg base Ts 1 "is_whole" 1 c_is_whole) : FnOk P w K mg base CX0 2 f fd ["value"] (spD K Ts 1 (runD 3 (F_is_ratio c_is_whole))) := by
  refine D.ok sc_is_ratio fun A outer s H E hr => ?_
  have l_is_whole : 1 ≤ 1 := by decide
  exact (s_cons (s_if (dt_not (dt_w (dw_and (dt_val (d_isi isi_tuple (by rfl) T.b_isinstance (by decide +kernel) (by rfl) T.b_tuple (by decide +kernel) (d_var 0))) (dw_and1 (dt_eq hr (d_len (by rfl) T.b_len (d_b (d_var 0))) d_int))))) (s_one (s_ret d_bl)) s_nil) (s_cons (s_bind (vs := [1, 2]) (d_var 0) (dg_tup rfl (dgs_cons (dg_name 1 sc_is_ratio.nd rfl (by first | exact Or.inl rfl | exact Or.inr rfl) (by decide)) (dgs_cons (dg_name 2 sc_is_ratio.nd rfl (by first | exact Or.inl rfl | exact Or.inr rfl) (by decide)) dgs_nil)))) (s_one (s_ret (d_and (d_call hr (CF.call h_is_whole) l_is_whole (by rfl) (da_cons (d_var 1) da_nil)) (d_and (d_call hr (CF.call h_is_whole) l_is_whole (by rfl) (da_cons (d_var 2) da_nil)) (d_and (d_gt (d_var 2) d_int) (d_one (d_eq hr (d_gcd (by rfl) T.m_gcd (d_var 1) (d_var 2)) d_int)))))))))
abbrev s_is_row_of_ratios : Stmt := top 11
theorem sc_is_row_of_ratios : FnScope ["value", "count", "one"] ["value", "count"] (defScope s_is_row_of_ratios) := ⟨rfl, rfl, rfl, by decide +kernel, rfl, by decide +kernel, by decide +kernel⟩
theorem ok_is_row_of_ratios {c_is_ratio : List PyData → Option PyData} (T : Txt K mg) {f : Addr} {fd : FuncData} {c Pt : Addr} (TB : LamX.TabB base mg c Pt) (hP : Pt ∈ Ts.gs) (D : DF K "is_row_of_ratios" "is_row_of_ratios" s_is_row_of_ratios f fd (.ref c)) (h_is_ratio : CF P w K mg base Ts 2 "is_ratio" 1 c_is_ratio) : FnOk P w K mg base CX0 4 f fd ["value", "count"] (spD K Ts 2 (runD 3 (F_is_row_of_ratios c_is_ratio))) := by
  refine D.ok sc_is_row_of_ratios fun A outer s H E hr => ?_
  have l_is_ratio : 2 ≤ 3 := by decide
  have l_is_ratiog : 2 ≤ 2 := by decide
  have l_gen : 2 + 1 ≤ 3 := by decide
  exact (s_cons (s_if (dt_not (dt_w (dw_and (dt_val (d_isi isi_tuple (by rfl) T.b_isinstance (by decide +kernel) (by rfl) T.b_tuple (by decide +kernel) (d_var 0))) (dw_and1 (dt_eq hr (d_len (by rfl) T.b_len (d_b (d_var 0))) (d_var 1)))))) (s_one (s_ret d_bl)) s_nil) (s_one (s_ret (d_all (own := [("one", 2)]) hr (by rfl) T.b_all (by decide +kernel) TB hP rfl rfl sc_is_row_of_ratios.nd (di_seq (d_var 0)) (blkOk_by (own := [("one", 2)]) (N := ["value", "count", "one"]) (sc := defScope s_is_row_of_ratios) (by decide +kernel)) (GA.genK_by (by decide +kernel)) (fun _ _ _ _ _ _ _ => (dg_name 2 sc_is_row_of_ratios.nd rfl (by first | exact Or.inl rfl | exact Or.inr rfl) (by decide))) (fun _ _ _ _ _ _ _ => (d_and (d_call (room_gen (hr.mono l_gen) _) (CF.call h_is_ratio) l_is_ratiog (by rfl) (da_cons (d_var 2) da_nil)) (d_one (d_ge (b_ix (d_b (d_var 2)) d_int) d_int))))))))
abbrev s_ratio : Stmt := top 12
theorem sc_ratio : FnScope ["top", "bottom", "shared"] ["top", "bottom"] (defScope s_ratio) := ⟨rfl, rfl, rfl, by decide +kernel, rfl, by decide +kernel, by decide +kernel⟩
theorem ok_ratio (T : Txt K mg) {f : Addr} {fd : FuncData} {cdv : Value} (D : DF K "ratio" "ratio" s_ratio f fd cdv) : FnOk P w K mg base CX0 1 f fd ["top", "bottom"] (spD K Ts 2 (runD 3 (F_ratio))) := by
  refine D.ok sc_ratio fun A outer s H E hr => ?_
  exact (s_cons (s_set (i := 2) sc_ratio.nd rfl (by first | exact Or.inl rfl | exact Or.inr rfl) (d_gcd (by rfl) T.m_gcd (d_var 0) (d_var 1))) (s_one (s_ret (d_tup (da_cons (d_div (d_var 0) (d_var 2)) (da_cons (d_div (d_var 1) (d_var 2)) da_nil))))))
abbrev s_plus : Stmt := top 13
theorem sc_plus : FnScope ["one", "other"] ["one", "other"] (defScope s_plus) := ⟨rfl, rfl, rfl, by decide +kernel, rfl, by decide +kernel, by decide +kernel⟩
theorem ok_plus {c_ratio : List PyData → Option PyData} (T : Txt K mg) {f : Addr} {fd : FuncData} {cdv : Value} (D : DF K "plus" "plus" s_plus f fd cdv) (h_ratio : CF P w K mg base Ts 1 "ratio" 2 c_ratio) : FnOk P w K mg base CX0 2 f fd ["one", "other"] (spD K Ts 2 (runD 2 (F_plus c_ratio))) := by
  refine D.ok sc_plus fun A outer s H E hr => ?_
  have l_ratio : 1 ≤ 1 := by decide
  exact (s_one (s_ret (d_call hr (CF.call h_ratio) l_ratio (by rfl) (da_cons (d_plus (d_times (b_ix (d_b (d_var 0)) d_int) (b_ix (d_b (d_var 1)) d_int)) (d_times (b_ix (d_b (d_var 1)) d_int) (b_ix (d_b (d_var 0)) d_int))) (da_cons (d_times (b_ix (d_b (d_var 0)) d_int) (b_ix (d_b (d_var 1)) d_int)) da_nil)))))
abbrev s_minus : Stmt := top 14
theorem sc_minus : FnScope ["one", "other"] ["one", "other"] (defScope s_minus) := ⟨rfl, rfl, rfl, by decide +kernel, rfl, by decide +kernel, by decide +kernel⟩
theorem ok_minus {c_ratio : List PyData → Option PyData} (T : Txt K mg) {f : Addr} {fd : FuncData} {cdv : Value} (D : DF K "minus" "minus" s_minus f fd cdv) (h_ratio : CF P w K mg base Ts 1 "ratio" 2 c_ratio) : FnOk P w K mg base CX0 2 f fd ["one", "other"] (spD K Ts 2 (runD 2 (F_minus c_ratio))) := by
  refine D.ok sc_minus fun A outer s H E hr => ?_
  have l_ratio : 1 ≤ 1 := by decide
  exact (s_one (s_ret (d_call hr (CF.call h_ratio) l_ratio (by rfl) (da_cons (d_sub (d_times (b_ix (d_b (d_var 0)) d_int) (b_ix (d_b (d_var 1)) d_int)) (d_times (b_ix (d_b (d_var 1)) d_int) (b_ix (d_b (d_var 0)) d_int))) (da_cons (d_times (b_ix (d_b (d_var 0)) d_int) (b_ix (d_b (d_var 1)) d_int)) da_nil)))))
abbrev s_times : Stmt := top 15
theorem sc_times : FnScope ["one", "other"] ["one", "other"] (defScope s_times) := ⟨rfl, rfl, rfl, by decide +kernel, rfl, by decide +kernel, by decide +kernel⟩
theorem ok_times {c_ratio : List PyData → Option PyData} (T : Txt K mg) {f : Addr} {fd : FuncData} {cdv : Value} (D : DF K "times" "times" s_times f fd cdv) (h_ratio : CF P w K mg base Ts 1 "ratio" 2 c_ratio) : FnOk P w K mg base CX0 2 f fd ["one", "other"] (spD K Ts 2 (runD 2 (F_times c_ratio))) := by
  refine D.ok sc_times fun A outer s H E hr => ?_
  have l_ratio : 1 ≤ 1 := by decide
  exact (s_one (s_ret (d_call hr (CF.call h_ratio) l_ratio (by rfl) (da_cons (d_times (b_ix (d_b (d_var 0)) d_int) (b_ix (d_b (d_var 1)) d_int)) (da_cons (d_times (b_ix (d_b (d_var 0)) d_int) (b_ix (d_b (d_var 1)) d_int)) da_nil)))))
abbrev s_divided : Stmt := top 16
theorem sc_divided : FnScope ["one", "other", "top", "bottom"] ["one", "other"] (defScope s_divided) := ⟨rfl, rfl, rfl, by decide +kernel, rfl, by decide +kernel, by decide +kernel⟩
theorem ok_divided {c_ratio : List PyData → Option PyData} (T : Txt K mg) {f : Addr} {fd : FuncData} {cdv : Value} (D : DF K "divided" "divided" s_divided f fd cdv) (h_ratio : CF P w K mg base Ts 1 "ratio" 2 c_ratio) : FnOk P w K mg base CX0 2 f fd ["one", "other"] (spD K Ts 2 (runD 4 (F_divided c_ratio))) := by
  refine D.ok sc_divided fun A outer s H E hr => ?_
  have l_ratio : 1 ≤ 1 := by decide
  exact (s_cons (s_par (i := 2) (j := 3) rfl sc_divided.nd rfl rfl (by decide) rfl rfl (d_times (b_ix (d_b (d_var 0)) d_int) (b_ix (d_b (d_var 1)) d_int)) (d_times (b_ix (d_b (d_var 0)) d_int) (b_ix (d_b (d_var 1)) d_int)) (by rfl)) (s_one (s_ret (d_if (dt_gt (d_var 3) d_int) (d_call hr (CF.call h_ratio) l_ratio (by rfl) (da_cons (d_var 2) (da_cons (d_var 3) da_nil))) (d_call hr (CF.call h_ratio) l_ratio (by rfl) (da_cons (d_neg (d_var 2)) (da_cons (d_neg (d_var 3)) da_nil)))))))
abbrev s_sum_of_ratios : Stmt := top 17
theorem sc_sum_of_ratios : FnScope ["ratios", "total", "one"] ["ratios"] (defScope s_sum_of_ratios) := ⟨rfl, rfl, rfl, by decide +kernel, rfl, by decide +kernel, by decide +kernel⟩
theorem ok_sum_of_ratios {c_plus : List PyData → Option PyData} (T : Txt K mg) {f : Addr} {fd : FuncData} {cdv : Value} (D : DF K "sum_of_ratios" "sum_of_ratios" s_sum_of_ratios f fd cdv) (h_plus : CF P w K mg base Ts 2 "plus" 2 c_plus) : FnOk P w K mg base CX0 3 f fd ["ratios"] (spD K Ts 1 (runD 3 (F_sum_of_ratios c_plus))) := by
  refine D.ok sc_sum_of_ratios fun A outer s H E hr => ?_
  have l_plus : 2 ≤ 2 := by decide
  exact (s_cons (s_set (i := 1) sc_sum_of_ratios.nd rfl (by first | exact Or.inl rfl | exact Or.inr rfl) (d_tup (da_cons d_int (da_cons d_int da_nil)))) (s_cons (s_for (vs := [2]) PassesOwn.never rfl (di_seq (d_var 0)) (dg_name 2 sc_sum_of_ratios.nd rfl (by first | exact Or.inl rfl | exact Or.inr rfl) (by decide)) (s_one (s_set (i := 1) sc_sum_of_ratios.nd rfl (by first | exact Or.inl rfl | exact Or.inr rfl) (d_call hr (CF.call h_plus) l_plus (by rfl) (da_cons (d_var 1) (da_cons (d_var 2) da_nil)))))) (s_one (s_ret (d_var 1)))))
abbrev s_equation_of : Stmt := top 18
theorem sc_equation_of : FnScope ["count", "place", "others", "total", "row", "other", "factor"] ["count", "place", "others", "total"] (defScope s_equation_of) := ⟨rfl, rfl, rfl, by decide +kernel, rfl, by decide +kernel, by decide +kernel⟩
theorem ok_equation_of {c_minus : List PyData → Option PyData} (T : Txt K mg) {f : Addr} {fd : FuncData} {cdv : Value} (D : DF K "equation_of" "equation_of" s_equation_of f fd cdv) (h_minus : CF P w K mg base Ts 2 "minus" 2 c_minus) : FnOk P w K mg base CX0 3 f fd ["count", "place", "others", "total"] (spD K Ts 4 (runD 7 (F_equation_of c_minus))) := by
  refine D.ok sc_equation_of fun A outer s H E hr => ?_
  have l_minus : 2 ≤ 2 := by decide
  exact (s_cons (s_own (i := 4) sc_equation_of.nd rfl (by first | exact Or.inl rfl | exact Or.inr rfl) (n_plus (d_repL (n_lst (da_cons (d_tup (da_cons d_int (da_cons d_int da_nil))) da_nil)) (d_var 0)) (d_lst (da_cons (d_var 3) da_nil)))) (s_cons (s_put (i := 4) (d_tup (da_cons d_int (da_cons d_int da_nil))) (d_var 1)) (s_cons (s_for (vs := [5, 6]) PassesOwn.never rfl (di_seq (d_var 2)) (dg_tup rfl (dgs_cons (dg_name 5 sc_equation_of.nd rfl (by first | exact Or.inl rfl | exact Or.inr rfl) (by decide)) (dgs_cons (dg_name 6 sc_equation_of.nd rfl (by first | exact Or.inl rfl | exact Or.inr rfl) (by decide)) dgs_nil))) (s_one (s_put (i := 4) (d_call hr (CF.call h_minus) l_minus (by rfl) (da_cons (b_ix (b_own 4) (d_var 5)) (da_cons (d_var 6) da_nil))) (d_var 5)))) (s_rel 4 (s_one (s_ret (d_var 4)))))))
abbrev s_without_unknown : Stmt := top 19
theorem sc_without_unknown : FnScope ["row", "place", "solved", "one", "other"] ["row", "place", "solved"] (defScope s_without_unknown) := ⟨rfl, rfl, rfl, by decide +kernel, rfl, by decide +kernel, by decide +kernel⟩
theorem ok_without_unknown {c_minus c_times : List PyData → Option PyData} (T : Txt K mg) {f : Addr} {fd : FuncData} {cdv : Value} (D : DF K "without_unknown" "without_unknown" s_without_unknown f fd cdv) (h_minus : CF P w K mg base Ts 2 "minus" 2 c_minus) (h_times : CF P w K mg base Ts 2 "times" 2 c_times) : FnOk P w K mg base CX0 3 f fd ["row", "place", "solved"] (spD K Ts 3 (runD 5 (F_without_unknown c_minus c_times))) := by
  refine D.ok sc_without_unknown fun A outer s H E hr => ?_
  have l_minus : 2 ≤ 2 := by decide
  have l_times : 2 ≤ 2 := by decide
  exact (s_cons (s_if (dt_eq hr (b_ix (d_b (d_var 0)) (d_var 1)) (d_tup (da_cons d_int (da_cons d_int da_nil)))) (s_one (s_ret (d_var 0))) s_nil) (s_one (s_ret (d_lc (own := [("one", 3), ("other", 4)]) rfl sc_without_unknown.nd (di_zip (by rfl) T.b_zip (d_var 0) (d_var 2)) (blkOk_by (own := [("one", 3), ("other", 4)]) (N := ["row", "place", "solved", "one", "other"]) (sc := defScope s_without_unknown) (by decide +kernel)) (fun _ _ _ _ _ => (dg_tup rfl (dgs_cons (dg_name 3 sc_without_unknown.nd rfl (by first | exact Or.inl rfl | exact Or.inr rfl) (by decide)) (dgs_cons (dg_name 4 sc_without_unknown.nd rfl (by first | exact Or.inl rfl | exact Or.inr rfl) (by decide)) dgs_nil)))) (fun _ _ _ _ _ => dts_nil) (fun _ _ _ _ _ => (d_call hr (CF.call h_minus) l_minus (by rfl) (da_cons (d_var 3) (da_cons (d_call hr (CF.call h_times) l_times (by rfl) (da_cons (b_ix (d_b (d_var 0)) (d_var 1)) (da_cons (d_var 4) da_nil))) da_nil))))))))
abbrev s_solutions : Stmt := top 20
theorem sc_solutions : FnScope ["equations", "rows", "done", "place", "chosen", "solved", "one", "row"] ["equations"] (defScope s_solutions) := ⟨rfl, rfl, rfl, by decide +kernel, rfl, by decide +kernel, by decide +kernel⟩
theorem ok_solutions {c_divided c_without_unknown : List PyData → Option PyData} (T : Txt K mg) {f : Addr} {fd : FuncData} {cdv : Value} (D : DF K "solutions" "solutions" s_solutions f fd cdv) (h_divided : CF P w K mg base Ts 2 "divided" 2 c_divided) (h_without_unknown : CF P w K mg base Ts 3 "without_unknown" 3 c_without_unknown) : FnOk P w K mg base CX0 4 f fd ["equations"] (spD K Ts 1 (runD 8 (F_solutions c_divided c_without_unknown))) := by
  refine D.ok sc_solutions fun A outer s H E hr => ?_
  have l_divided : 2 ≤ 3 := by decide
  have l_without_unknown : 3 ≤ 3 := by decide
  exact (s_cons (s_own (i := 1) sc_solutions.nd rfl (by first | exact Or.inl rfl | exact Or.inr rfl) (n_list (by rfl) T.b_list (by decide +kernel) (d_b (d_var 0)))) (s_cons (s_set (i := 2) sc_solutions.nd rfl (by first | exact Or.inl rfl | exact Or.inr rfl) (d_lst da_nil)) (s_cons (s_for (vs := [3]) PassesOwn.never rfl (di_range1 (by rfl) T.b_range (d_len (by rfl) T.b_len (d_b (d_var 0)))) (dg_name 3 sc_solutions.nd rfl (by first | exact Or.inl rfl | exact Or.inr rfl) (by decide)) (s_cons (s_set (i := 4) sc_solutions.nd rfl (by first | exact Or.inl rfl | exact Or.inr rfl) (b_ix (d_b (d_lcX (own := [("row", 7)]) rfl sc_solutions.nd (di_ownX (b_own 1)) (blkOk_by (own := [("row", 7)]) (N := ["equations", "rows", "done", "place", "chosen", "solved", "one", "row"]) (sc := defScope s_solutions) (by decide +kernel)) (fun _ _ _ _ _ => (dg_name 7 sc_solutions.nd rfl (by first | exact Or.inl rfl | exact Or.inr rfl) (by decide))) (fun _ _ _ _ _ => (dts_one (dt_ne hr (b_ix (d_b (d_var 7)) (d_var 3)) (d_tup (da_cons d_int (da_cons d_int da_nil)))))) (fun _ _ _ _ _ => (d_var 7)))) d_int)) (s_cons (s_rem hr (i := 1) (d_var 4)) (s_cons (s_set (i := 5) sc_solutions.nd rfl (by first | exact Or.inl rfl | exact Or.inr rfl) (d_lc (own := [("one", 6)]) rfl sc_solutions.nd (di_seq (d_var 4)) (blkOk_by (own := [("one", 6)]) (N := ["equations", "rows", "done", "place", "chosen", "solved", "one", "row"]) (sc := defScope s_solutions) (by decide +kernel)) (fun _ _ _ _ _ => (dg_name 6 sc_solutions.nd rfl (by first | exact Or.inl rfl | exact Or.inr rfl) (by decide))) (fun _ _ _ _ _ => dts_nil) (fun _ _ _ _ _ => (d_call hr (CF.call h_divided) l_divided (by rfl) (da_cons (d_var 6) (da_cons (b_ix (d_b (d_var 4)) (d_var 3)) da_nil)))))) (s_cons (s_ownLcX (i := 1) (own := [("row", 7)]) rfl sc_solutions.nd rfl rfl (sw_true rfl rfl rfl (by decide +kernel)) (di_ownX (b_own 1)) (blkOk_by (own := [("row", 7)]) (N := ["equations", "rows", "done", "place", "chosen", "solved", "one", "row"]) (sc := defScope s_solutions) (by decide +kernel)) (fun _ _ _ _ _ => (dg_name 7 sc_solutions.nd rfl (by first | exact Or.inl rfl | exact Or.inr rfl) (by decide))) (fun _ _ _ _ _ => dts_nil) (fun _ _ _ _ _ => (d_call hr (CF.call h_without_unknown) l_without_unknown (by rfl) (da_cons (d_var 7) (da_cons (d_var 3) (da_cons (d_var 5) da_nil)))))) (s_one (s_set (i := 2) sc_solutions.nd rfl (by first | exact Or.inl rfl | exact Or.inr rfl) (d_plus (d_lc (own := [("row", 7)]) rfl sc_solutions.nd (di_seq (d_var 2)) (blkOk_by (own := [("row", 7)]) (N := ["equations", "rows", "done", "place", "chosen", "solved", "one", "row"]) (sc := defScope s_solutions) (by decide +kernel)) (fun _ _ _ _ _ => (dg_name 7 sc_solutions.nd rfl (by first | exact Or.inl rfl | exact Or.inr rfl) (by decide))) (fun _ _ _ _ _ => dts_nil) (fun _ _ _ _ _ => (d_call hr (CF.call h_without_unknown) l_without_unknown (by rfl) (da_cons (d_var 7) (da_cons (d_var 3) (da_cons (d_var 5) da_nil)))))) (d_lst (da_cons (d_var 5) da_nil)))))))))) (s_one (s_ret (d_tuple (by rfl) T.b_tuple (by decide +kernel) (d_b (d_lc (own := [("row", 7)]) rfl sc_solutions.nd (di_seq (d_var 2)) (blkOk_by (own := [("row", 7)]) (N := ["equations", "rows", "done", "place", "chosen", "solved", "one", "row"]) (sc := defScope s_solutions) (by decide +kernel)) (fun _ _ _ _ _ => (dg_name 7 sc_solutions.nd rfl (by first | exact Or.inl rfl | exact Or.inr rfl) (by decide))) (fun _ _ _ _ _ => dts_nil) (fun _ _ _ _ _ => (b_ix (d_b (d_var 7)) (d_neg d_int)))))))))))
abbrev s_is_pond : Stmt := top 26
theorem sc_is_pond : FnScope ["value"] ["value"] (defScope s_is_pond) := ⟨rfl, rfl, rfl, by decide +kernel, rfl, by decide +kernel, by decide +kernel⟩
theorem ok_is_pond {c_is_between : List PyData → Option PyData} (T : Txt K mg) {f : Addr} {fd : FuncData} {cdv : Value} (D : DF K "is_pond" "is_pond" s_is_pond f fd cdv) (h_is_between : CF P w K mg base Ts 2 "is_between" 3 c_is_between) : FnOk P w K mg base CX0 3 f fd ["value"] (spD K Ts 1 (runD 1 (F_is_pond c_is_between))) := by
  refine D.ok sc_is_pond fun A outer s H E hr => ?_
  have l_is_between : 2 ≤ 2 := by decide
  exact (s_cons (s_if (dt_not (dt_w (dw_and (dt_val (d_isi isi_tuple (by rfl) T.b_isinstance (by decide +kernel) (by rfl) T.b_tuple (by decide +kernel) (d_var 0))) (dw_and1 (dt_eq hr (d_len (by rfl) T.b_len (d_b (d_var 0))) d_int))))) (s_one (s_ret d_bl)) s_nil) (s_one (s_ret (d_and (d_call hr (CF.call h_is_between) l_is_between (by rfl) (da_cons (b_ix (d_b (d_var 0)) d_int) (da_cons d_int (da_cons (d_globE (by rfl) T.k_MOST_CAPACITY) da_nil)))) (d_one (d_call hr (CF.call h_is_between) l_is_between (by rfl) (da_cons (b_ix (d_b (d_var 0)) d_int) (da_cons d_int (da_cons (b_ix (d_b (d_var 0)) d_int) da_nil)))))))))
abbrev s_is_chances : Stmt := top 27
theorem sc_is_chances : FnScope ["value", "chance"] ["value"] (defScope s_is_chances) := ⟨rfl, rfl, rfl, by decide +kernel, rfl, by decide +kernel, by decide +kernel⟩
theorem ok_is_chances {c_is_row_of_ratios c_sum_of_ratios : List PyData → Option PyData} (T : Txt K mg) {f : Addr} {fd : FuncData} {cdv : Value} (D : DF K "is_chances" "is_chances" s_is_chances f fd cdv) (h_is_row_of_ratios : CF P w K mg base Ts 4 "is_row_of_ratios" 2 c_is_row_of_ratios) (h_sum_of_ratios : CF P w K mg base Ts 3 "sum_of_ratios" 1 c_sum_of_ratios) : FnOk P w K mg base CX0 5 f fd ["value"] (spD K Ts 1 (runD 2 (F_is_chances c_is_row_of_ratios c_sum_of_ratios))) := by
  refine D.ok sc_is_chances fun A outer s H E hr => ?_
  have l_is_row_of_ratios : 4 ≤ 4 := by decide
  have l_sum_of_ratios : 3 ≤ 4 := by decide
  exact (s_cons (s_if (dt_not (dt_w (dw_and (dt_val (d_isi isi_tuple (by rfl) T.b_isinstance (by decide +kernel) (by rfl) T.b_tuple (by decide +kernel) (d_var 0))) (dw_and1 (dt_lele (d_globE (by rfl) T.k_LEAST_INFLOWS) (d_len (by rfl) T.b_len (d_b (d_var 0))) (d_globE (by rfl) T.k_MOST_INFLOWS)))))) (s_one (s_ret d_bl)) s_nil) (s_cons (s_if (dt_w (dw_or (dt_not (dt_val (d_call hr (CF.call h_is_row_of_ratios) l_is_row_of_ratios (by rfl) (da_cons (d_var 0) (da_cons (d_len (by rfl) T.b_len (d_b (d_var 0))) da_nil))))) (dw_or1 (dt_val (d_anyL rfl (by rfl) T.b_any (by decide +kernel) (d_b (d_lc (own := [("chance", 1)]) rfl sc_is_chances.nd (di_seq (d_var 0)) (blkOk_by (own := [("chance", 1)]) (N := ["value", "chance"]) (sc := defScope s_is_chances) (by decide +kernel)) (fun _ _ _ _ _ => (dg_name 1 sc_is_chances.nd rfl (by first | exact Or.inl rfl | exact Or.inr rfl) (by decide))) (fun _ _ _ _ _ => dts_nil) (fun _ _ _ _ _ => (d_gt (b_ix (d_b (d_var 1)) d_int) (d_globE (by rfl) T.k_MOST_OF_CHANCE)))))))))) (s_one (s_ret d_bl)) s_nil) (s_one (s_ret (d_eq hr (d_call hr (CF.call h_sum_of_ratios) l_sum_of_ratios (by rfl) (da_cons (d_var 0) da_nil)) (d_tup (da_cons d_int (da_cons d_int da_nil))))))))
abbrev s_check_chances : Stmt := top 28
theorem sc_check_chances : FnScope ["chances"] ["chances"] (defScope s_check_chances) := ⟨rfl, rfl, rfl, by decide +kernel, rfl, by decide +kernel, by decide +kernel⟩
theorem ok_check_chances {c_is_chances : List PyData → Option PyData} (T : Txt K mg) {f : Addr} {fd : FuncData} {cdv : Value} (D : DF K "check_chances" "check_chances" s_check_chances f fd cdv) (h_is_chances : CF P w K mg base Ts 5 "is_chances" 1 c_is_chances) : FnOk P w K mg base CX0 6 f fd ["chances"] (spD K Ts 1 (runD 1 (F_check_chances c_is_chances))) := by
  refine D.ok sc_check_chances fun A outer s H E hr => ?_
  have l_is_chances : 5 ≤ 5 := by decide
  exact (s_one (s_if (dt_not (dt_val (d_call hr (CF.call h_is_chances) l_is_chances (by rfl) (da_cons (d_var 0) da_nil)))) (s_one s_never) s_nil))
abbrev s_check_pond : Stmt := top 29
theorem sc_check_pond : FnScope ["pond"] ["pond"] (defScope s_check_pond) := ⟨rfl, rfl, rfl, by decide +kernel, rfl, by decide +kernel, by decide +kernel⟩
theorem ok_check_pond {c_is_pond : List PyData → Option PyData} (T : Txt K mg) {f : Addr} {fd : FuncData} {cdv : Value} (D : DF K "check_pond" "check_pond" s_check_pond f fd cdv) (h_is_pond : CF P w K mg base Ts 3 "is_pond" 1 c_is_pond) : FnOk P w K mg base CX0 4 f fd ["pond"] (spD K Ts 1 (runD 1 (F_check_pond c_is_pond))) := by
  refine D.ok sc_check_pond fun A outer s H E hr => ?_
  have l_is_pond : 3 ≤ 3 := by decide
  exact (s_one (s_if (dt_not (dt_val (d_call hr (CF.call h_is_pond) l_is_pond (by rfl) (da_cons (d_var 0) da_nil)))) (s_one s_never) s_nil))
abbrev s_check_pond_and_chances : Stmt := top 30
theorem sc_check_pond_and_chances : FnScope ["pond", "chances"] ["pond", "chances"] (defScope s_check_pond_and_chances) := ⟨rfl, rfl, rfl, by decide +kernel, rfl, by decide +kernel, by decide +kernel⟩
theorem ok_check_pond_and_chances {c_check_pond c_check_chances : List PyData → Option PyData} (T : Txt K mg) {f : Addr} {fd : FuncData} {cdv : Value} (D : DF K "check_pond_and_chances" "check_pond_and_chances" s_check_pond_and_chances f fd cdv) (h_check_pond : CF P w K mg base Ts 4 "check_pond" 1 c_check_pond) (h_check_chances : CF P w K mg base Ts 6 "check_chances" 1 c_check_chances) : FnOk P w K mg base CX0 7 f fd ["pond", "chances"] (spD K Ts 2 (runD 2 (F_check_pond_and_chances c_check_pond c_check_chances))) := by
  refine D.ok sc_check_pond_and_chances fun A outer s H E hr => ?_
  have l_check_pond : 4 ≤ 6 := by decide
  have l_check_chances : 6 ≤ 6 := by decide
  exact (s_cons (s_expr (d_call hr (CF.call h_check_pond) l_check_pond (by rfl) (da_cons (d_var 0) da_nil))) (s_one (s_expr (d_call hr (CF.call h_check_chances) l_check_chances (by rfl) (da_cons (d_var 1) da_nil)))))
abbrev s_count_of_levels : Stmt := top 31
theorem sc_count_of_levels : FnScope ["pond"] ["pond"] (defScope s_count_of_levels) := ⟨rfl, rfl, rfl, by decide +kernel, rfl, by decide +kernel, by decide +kernel⟩
theorem ok_count_of_levels (T : Txt K mg) {f : Addr} {fd : FuncData} {cdv : Value} (D : DF K "count_of_levels" "count_of_levels" s_count_of_levels f fd cdv) : FnOk P w K mg base CX0 1 f fd ["pond"] (spD K Ts 1 (runD 1 (F_count_of_levels))) := by
  refine D.ok sc_count_of_levels fun A outer s H E hr => ?_
  exact (s_one (s_ret (d_plus (d_sub (b_ix (d_b (d_var 0)) d_int) (b_ix (d_b (d_var 0)) d_int)) d_int)))
abbrev s_check_level : Stmt := top 32
theorem sc_check_level : FnScope ["pond", "level"] ["pond", "level"] (defScope s_check_level) := ⟨rfl, rfl, rfl, by decide +kernel, rfl, by decide +kernel, by decide +kernel⟩
theorem ok_check_level {c_is_between c_count_of_levels : List PyData → Option PyData} (T : Txt K mg) {f : Addr} {fd : FuncData} {cdv : Value} (D : DF K "check_level" "check_level" s_check_level f fd cdv) (h_is_between : CF P w K mg base Ts 2 "is_between" 3 c_is_between) (h_count_of_levels : CF P w K mg base Ts 1 "count_of_levels" 1 c_count_of_levels) : FnOk P w K mg base CX0 3 f fd ["pond", "level"] (spD K Ts 2 (runD 2 (F_check_level c_is_between c_count_of_levels))) := by
  refine D.ok sc_check_level fun A outer s H E hr => ?_
  have l_is_between : 2 ≤ 2 := by decide
  have l_count_of_levels : 1 ≤ 2 := by decide
  exact (s_one (s_if (dt_not (dt_val (d_call hr (CF.call h_is_between) l_is_between (by rfl) (da_cons (d_var 1) (da_cons d_int (da_cons (d_sub (d_call hr (CF.call h_count_of_levels) l_count_of_levels (by rfl) (da_cons (d_var 0) da_nil)) d_int) da_nil)))))) (s_one s_never) s_nil))
abbrev s_check_settles : Stmt := top 33
theorem sc_check_settles : FnScope ["release", "chances"] ["release", "chances"] (defScope s_check_settles) := ⟨rfl, rfl, rfl, by decide +kernel, rfl, by decide +kernel, by decide +kernel⟩
theorem ok_check_settles {c_sum_of_ratios : List PyData → Option PyData} (T : Txt K mg) {f : Addr} {fd : FuncData} {cdv : Value} (D : DF K "check_settles" "check_settles" s_check_settles f fd cdv) (h_sum_of_ratios : CF P w K mg base Ts 3 "sum_of_ratios" 1 c_sum_of_ratios) : FnOk P w K mg base CX0 4 f fd ["release", "chances"] (spD K Ts 2 (runD 2 (F_check_settles c_sum_of_ratios))) := by
  refine D.ok sc_check_settles fun A outer s H E hr => ?_
  have l_sum_of_ratios : 3 ≤ 3 := by decide
  exact (s_one (s_if (dt_eq hr (d_call hr (CF.call h_sum_of_ratios) l_sum_of_ratios (by rfl) (da_cons (b_cut (d_b (d_var 1)) dp_none (dp_some (d_var 0))) da_nil)) (d_tup (da_cons d_int (da_cons d_int da_nil)))) (s_one s_never) s_nil))
theorem okx_check_settles {c_sum_of_ratios : List PyData → Option PyData} (T : Txt K mg) {Ce f : Addr} {fd : FuncData} {cdv : Value} (D : DF K "check_settles" "check_settles" s_check_settles f fd cdv) (EX : ExcT K mg "Unsettled" Ce) (h_sum_of_ratios : CF P w K mg base Ts 3 "sum_of_ratios" 1 c_sum_of_ratios) : FnOk P w K mg base (L2.CX P w) 4 f fd ["release", "chances"] (spR K Ts 2 (.ref Ce) (isT (runD 2 (F_check_settles__r c_sum_of_ratios)))) := by
  refine FnOk.imp (D.okR (C := .ref Ce) (R := (rIf (fT (fEq (fCall 1 c_sum_of_ratios (fCons (fCut (fVar 1) fNoPart (fPart (fVar 0))) fNil)) (fTup (fCons (fLit (.int 0)) (fCons (fLit (.int 1)) fNil))))) rYes)) sc_check_settles fun A outer s H E hr => ?_) (spR.imp (lk_run lk_if))
  have l_sum_of_ratios : 3 ≤ 3 := by decide
  exact (xs_here (x_if (dt_eq hr (d_call hr (CF.call h_sum_of_ratios) l_sum_of_ratios (by rfl) (da_cons (b_cut (d_b (d_var 1)) dp_none (dp_some (d_var 0))) da_nil)) (d_tup (da_cons d_int (da_cons d_int da_nil)))) (xs_here (x_raiseE EX (by rfl) rfl tk_of))))
abbrev s_months_from : Stmt := top 34
theorem sc_months_from : FnScope ["pond", "chances", "level", "capacity", "release", "months", "inflow", "chance", "there", "given"] ["pond", "chances", "level"] (defScope s_months_from) := ⟨rfl, rfl, rfl, by decide +kernel, rfl, by decide +kernel, by decide +kernel⟩
theorem ok_months_from (T : Txt K mg) {f : Addr} {fd : FuncData} {cdv : Value} (D : DF K "months_from" "months_from" s_months_from f fd cdv) : FnOk P w K mg base CX0 1 f fd ["pond", "chances", "level"] (spD K Ts 3 (runD 10 (F_months_from))) := by
  refine D.ok sc_months_from fun A outer s H E hr => ?_
  exact (s_cons (s_bind (vs := [3, 4]) (d_var 0) (dg_tup rfl (dgs_cons (dg_name 3 sc_months_from.nd rfl (by first | exact Or.inl rfl | exact Or.inr rfl) (by decide)) (dgs_cons (dg_name 4 sc_months_from.nd rfl (by first | exact Or.inl rfl | exact Or.inr rfl) (by decide)) dgs_nil)))) (s_cons (s_own (i := 5) sc_months_from.nd rfl (by first | exact Or.inl rfl | exact Or.inr rfl) (n_lst da_nil)) (s_cons (s_for (vs := [6, 7]) PassesOwn.never rfl (di_enum (by rfl) T.b_enumerate (d_var 1)) (dg_tup rfl (dgs_cons (dg_name 6 sc_months_from.nd rfl (by first | exact Or.inl rfl | exact Or.inr rfl) (by decide)) (dgs_cons (dg_name 7 sc_months_from.nd rfl (by first | exact Or.inl rfl | exact Or.inr rfl) (by decide)) dgs_nil))) (s_cons (s_set (i := 8) sc_months_from.nd rfl (by first | exact Or.inl rfl | exact Or.inr rfl) (d_min2 rfl (by rfl) T.b_min (by decide +kernel) (d_var 3) (d_plus (d_var 2) (d_var 6)))) (s_cons (s_set (i := 9) sc_months_from.nd rfl (by first | exact Or.inl rfl | exact Or.inr rfl) (d_min2 rfl (by rfl) T.b_min (by decide +kernel) (d_var 4) (d_var 8))) (s_one (s_app (i := 5) (ha := (d_tup (da_cons (d_var 7) (da_cons (d_var 9) (da_cons (d_sub (d_plus (d_var 2) (d_var 6)) (d_var 8)) (da_cons (d_sub (d_var 8) (d_var 9)) da_nil))))))))))) (s_rel 5 (s_one (s_ret (d_var 5)))))))
abbrev s_does_not_fail : Stmt := top 35
theorem sc_does_not_fail : FnScope ["pond", "month"] ["pond", "month"] (defScope s_does_not_fail) := ⟨rfl, rfl, rfl, by decide +kernel, rfl, by decide +kernel, by decide +kernel⟩
theorem ok_does_not_fail (T : Txt K mg) {f : Addr} {fd : FuncData} {cdv : Value} (D : DF K "does_not_fail" "does_not_fail" s_does_not_fail f fd cdv) : FnOk P w K mg base CX0 1 f fd ["pond", "month"] (spD K Ts 2 (runD 2 (F_does_not_fail))) := by
  refine D.ok sc_does_not_fail fun A outer s H E hr => ?_
  exact (s_one (s_ret (d_eq hr (b_ix (d_b (d_var 1)) d_int) (b_ix (d_b (d_var 0)) d_int))))
abbrev s_only_gives : Stmt := top 36
theorem sc_only_gives : FnScope ["pond", "month"] ["pond", "month"] (defScope s_only_gives) := ⟨rfl, rfl, rfl, by decide +kernel, rfl, by decide +kernel, by decide +kernel⟩
theorem ok_only_gives (T : Txt K mg) {f : Addr} {fd : FuncData} {cdv : Value} (D : DF K "only_gives" "only_gives" s_only_gives f fd cdv) : FnOk P w K mg base CX0 1 f fd ["pond", "month"] (spD K Ts 2 (runD 2 (F_only_gives))) := by
  refine D.ok sc_only_gives fun A outer s H E hr => ?_
  exact (s_one (s_ret (d_and (d_eq hr (b_ix (d_b (d_var 1)) d_int) (b_ix (d_b (d_var 0)) d_int)) (d_one (d_eq hr (b_ix (d_b (d_var 1)) d_int) d_int)))))
abbrev s_count_of_month : Stmt := top 37
theorem sc_count_of_month : FnScope ["_"] ["_"] (defScope s_count_of_month) := ⟨rfl, rfl, rfl, by decide +kernel, rfl, by decide +kernel, by decide +kernel⟩
theorem ok_count_of_month (T : Txt K mg) {f : Addr} {fd : FuncData} {cdv : Value} (D : DF K "count_of_month" "count_of_month" s_count_of_month f fd cdv) : FnOk P w K mg base CX0 1 f fd ["_"] (spD K Ts 1 (runD 1 (F_count_of_month))) := by
  refine D.ok sc_count_of_month fun A outer s H E hr => ?_
  exact (s_one (s_ret (d_tup (da_cons d_int (da_cons d_int da_nil)))))
abbrev s_chance_of_spill : Stmt := top 38
theorem sc_chance_of_spill : FnScope ["months", "month"] ["months"] (defScope s_chance_of_spill) := ⟨rfl, rfl, rfl, by decide +kernel, rfl, by decide +kernel, by decide +kernel⟩
theorem ok_chance_of_spill {c_sum_of_ratios : List PyData → Option PyData} (T : Txt K mg) {f : Addr} {fd : FuncData} {cdv : Value} (D : DF K "chance_of_spill" "chance_of_spill" s_chance_of_spill f fd cdv) (h_sum_of_ratios : CF P w K mg base Ts 3 "sum_of_ratios" 1 c_sum_of_ratios) : FnOk P w K mg base CX0 4 f fd ["months"] (spD K Ts 1 (runD 2 (F_chance_of_spill c_sum_of_ratios))) := by
  refine D.ok sc_chance_of_spill fun A outer s H E hr => ?_
  have l_sum_of_ratios : 3 ≤ 3 := by decide
  exact (s_one (s_ret (d_call hr (CF.call h_sum_of_ratios) l_sum_of_ratios (by rfl) (da_cons (d_lc (own := [("month", 1)]) rfl sc_chance_of_spill.nd (di_seq (d_var 0)) (blkOk_by (own := [("month", 1)]) (N := ["months", "month"]) (sc := defScope s_chance_of_spill) (by decide +kernel)) (fun _ _ _ _ _ => (dg_name 1 sc_chance_of_spill.nd rfl (by first | exact Or.inl rfl | exact Or.inr rfl) (by decide))) (fun _ _ _ _ _ => (dts_one (dt_gt (b_ix (d_b (d_var 1)) d_int) d_int))) (fun _ _ _ _ _ => (b_ix (d_b (d_var 1)) d_int))) da_nil))))
abbrev s_sums_of_levels : Stmt := top 39
theorem sc_sums_of_levels : FnScope ["pond", "chances", "goes_on", "adds", "count", "rows", "level", "months", "going", "month"] ["pond", "chances", "goes_on", "adds"] (defScope s_sums_of_levels) := ⟨rfl, rfl, rfl, by decide +kernel, rfl, by decide +kernel, by decide +kernel⟩
theorem ok_sums_of_levels {ad : Str → Nat} {c_count_of_levels c_months_from c_does_not_fail c_only_gives c_equation_of c_count_of_month c_chance_of_spill c_solutions : List PyData → Option PyData} (T : Txt K mg) {f : Addr} {fd : FuncData} {cdv : Value} (D : DF K "sums_of_levels" "sums_of_levels" s_sums_of_levels f fd cdv) (g_does_not_fail : mg "does_not_fail" = some (.ref (ad "does_not_fail"))) (g_only_gives : mg "only_gives" = some (.ref (ad "only_gives"))) (g_count_of_month : mg "count_of_month" = some (.ref (ad "count_of_month"))) (g_chance_of_spill : mg "chance_of_spill" = some (.ref (ad "chance_of_spill"))) (h_count_of_levels : CF P w K mg base Ts 1 "count_of_levels" 1 c_count_of_levels) (h_months_from : CF P w K mg base Ts 1 "months_from" 3 c_months_from) (h_does_not_fail : CF P w K mg base Ts 1 "does_not_fail" 2 c_does_not_fail) (h_only_gives : CF P w K mg base Ts 1 "only_gives" 2 c_only_gives) (h_equation_of : CF P w K mg base Ts 3 "equation_of" 4 c_equation_of) (h_count_of_month : CF P w K mg base Ts 1 "count_of_month" 1 c_count_of_month) (h_chance_of_spill : CF P w K mg base Ts 4 "chance_of_spill" 1 c_chance_of_spill) (h_solutions : CF P w K mg base Ts 4 "solutions" 1 c_solutions) : FnOk P w K mg base CX0 5 f fd ["pond", "chances", "goes_on", "adds"] (spD K Ts 4 (runD 10 (F_sums_of_levels ad c_count_of_levels c_months_from c_does_not_fail c_only_gives c_equation_of c_count_of_month c_chance_of_spill c_solutions))) := by
  refine D.ok sc_sums_of_levels fun A outer s H E hr => ?_
  have l_count_of_levels : 1 ≤ 4 := by decide
  have l_months_from : 1 ≤ 4 := by decide
  have l_does_not_fail : 1 ≤ 4 := by decide
  have l_only_gives : 1 ≤ 4 := by decide
  have l_equation_of : 3 ≤ 4 := by decide
  have l_count_of_month : 1 ≤ 4 := by decide
  have l_chance_of_spill : 4 ≤ 4 := by decide
  have l_solutions : 4 ≤ 4 := by decide
  exact (s_cons (s_set (i := 4) sc_sums_of_levels.nd rfl (by first | exact Or.inl rfl | exact Or.inr rfl) (d_call hr (CF.call h_count_of_levels) l_count_of_levels (by rfl) (da_cons (d_var 0) da_nil))) (s_cons (s_own (i := 5) sc_sums_of_levels.nd rfl (by first | exact Or.inl rfl | exact Or.inr rfl) (n_lst da_nil)) (s_cons (s_for (vs := [6]) PassesOwn.never rfl (di_range1 (by rfl) T.b_range (d_var 4)) (dg_name 6 sc_sums_of_levels.nd rfl (by first | exact Or.inl rfl | exact Or.inr rfl) (by decide)) (s_cons (s_set (i := 7) sc_sums_of_levels.nd rfl (by first | exact Or.inl rfl | exact Or.inr rfl) (d_call hr (CF.call h_months_from) l_months_from (by rfl) (da_cons (d_var 0) (da_cons (d_var 1) (da_cons (d_var 6) da_nil))))) (s_cons (s_setLc (i := 8) (own := [("month", 9)]) rfl sc_sums_of_levels.nd rfl rfl (sw_true rfl rfl rfl (by decide +kernel)) (di_seq (d_var 7)) (blkOk_by (own := [("month", 9)]) (N := ["pond", "chances", "goes_on", "adds", "count", "rows", "level", "months", "going", "month"]) (sc := defScope s_sums_of_levels) (by decide +kernel)) (fun _ _ _ _ _ => (dg_name 9 sc_sums_of_levels.nd rfl (by first | exact Or.inl rfl | exact Or.inr rfl) (by decide))) (fun _ _ _ _ _ => (dts_one (dt_val (d_callV hr (tb_cons g_does_not_fail (CF.call h_does_not_fail) l_does_not_fail (tb_cons g_only_gives (CF.call h_only_gives) l_only_gives tb_nil)) rfl (by first | exact Or.inl rfl | exact Or.inr (Or.inl rfl) | exact Or.inr (Or.inr rfl)) (da_cons (d_var 0) (da_cons (d_var 9) da_nil)))))) (fun _ _ _ _ _ => (d_tup (da_cons (b_ix (d_b (d_var 9)) d_int) (da_cons (b_ix (d_b (d_var 9)) d_int) da_nil))))) (s_one (s_app (i := 5) (ha := (d_call hr (CF.call h_equation_of) l_equation_of (by rfl) (da_cons (d_var 4) (da_cons (d_var 6) (da_cons (d_var 8) (da_cons (d_callV hr (tb_cons g_count_of_month (CF.call h_count_of_month) l_count_of_month (tb_cons g_chance_of_spill (CF.call h_chance_of_spill) l_chance_of_spill tb_nil)) rfl (by first | exact Or.inl rfl | exact Or.inr (Or.inl rfl) | exact Or.inr (Or.inr rfl)) (da_cons (d_var 7) da_nil)) da_nil))))))))))) (s_rel 5 (s_one (s_ret (d_call hr (CF.call h_solutions) l_solutions (by rfl) (da_cons (d_var 5) da_nil))))))))
abbrev s_mean_wait : Stmt := top 40
theorem sc_mean_wait : FnScope ["pond", "chances", "level"] ["pond", "chances", "level"] (defScope s_mean_wait) := ⟨rfl, rfl, rfl, by decide +kernel, rfl, by decide +kernel, by decide +kernel⟩
theorem ok_mean_wait {ad : Str → Nat} {c_check_pond_and_chances c_check_level c_check_settles c_sums_of_levels : List PyData → Option PyData} (T : Txt K mg) {f : Addr} {fd : FuncData} {cdv : Value} (D : DF K "mean_wait" "mean_wait" s_mean_wait f fd cdv) (g_count_of_month : mg "count_of_month" = some (.ref (ad "count_of_month"))) (g_does_not_fail : mg "does_not_fail" = some (.ref (ad "does_not_fail"))) (h_check_pond_and_chances : CF P w K mg base Ts 7 "check_pond_and_chances" 2 c_check_pond_and_chances) (h_check_level : CF P w K mg base Ts 3 "check_level" 2 c_check_level) (h_check_settles : CF P w K mg base Ts 4 "check_settles" 2 c_check_settles) (h_sums_of_levels : CF P w K mg base Ts 5 "sums_of_levels" 4 c_sums_of_levels) : FnOk P w K mg base CX0 8 f fd ["pond", "chances", "level"] (spD K Ts 3 (runD 3 (F_mean_wait ad c_check_pond_and_chances c_check_level c_check_settles c_sums_of_levels))) := by
  refine D.ok sc_mean_wait fun A outer s H E hr => ?_
  have l_check_pond_and_chances : 7 ≤ 7 := by decide
  have l_check_level : 3 ≤ 7 := by decide
  have l_check_settles : 4 ≤ 7 := by decide
  have l_sums_of_levels : 5 ≤ 7 := by decide
  exact (s_cons (s_expr (d_call hr (CF.call h_check_pond_and_chances) l_check_pond_and_chances (by rfl) (da_cons (d_var 0) (da_cons (d_var 1) da_nil)))) (s_cons (s_expr (d_call hr (CF.call h_check_level) l_check_level (by rfl) (da_cons (d_var 0) (da_cons (d_var 2) da_nil)))) (s_cons (s_expr (d_call hr (CF.call h_check_settles) l_check_settles (by rfl) (da_cons (b_ix (d_b (d_var 0)) d_int) (da_cons (d_var 1) da_nil)))) (s_one (s_ret (b_ix (d_b (d_call hr (CF.call h_sums_of_levels) l_sums_of_levels (by rfl) (da_cons (d_var 0) (da_cons (d_var 1) (da_cons (d_fn (i := 0) (by rfl) g_does_not_fail) (da_cons (d_fn (i := 0) (by rfl) g_count_of_month) da_nil)))))) (d_var 2)))))))
theorem okx_mean_wait {c_check_pond_and_chances c_check_level c_check_settles__r : List PyData → Option PyData} (T : Txt K mg) {Ce f : Addr} {fd : FuncData} {cdv : Value} (D : DF K "mean_wait" "mean_wait" s_mean_wait f fd cdv) (EX : ExcT K mg "Unsettled" Ce) (h_check_pond_and_chances : CF P w K mg base Ts 7 "check_pond_and_chances" 2 c_check_pond_and_chances) (h_check_level : CF P w K mg base Ts 3 "check_level" 2 c_check_level) (h_check_settles__r : CR P w K mg base Ts 4 "check_settles" 2 (.ref Ce) (isT c_check_settles__r)) : FnOk P w K mg base (L2.CX P w) 8 f fd ["pond", "chances", "level"] (spR K Ts 3 (.ref Ce) (isT (runD 3 (F_mean_wait__r c_check_pond_and_chances c_check_level c_check_settles__r)))) := by
  refine FnOk.imp (D.okR (C := .ref Ce) (R := (rLater (sExpr (fCall 2 c_check_pond_and_chances (fCons (fVar 0) (fCons (fVar 1) fNil)))) (rLater (sExpr (fCall 2 c_check_level (fCons (fVar 0) (fCons (fVar 2) fNil)))) (rCall 2 (isT c_check_settles__r) (fCons (fIx (fVar 0) (fLit (.int 1))) (fCons (fVar 1) fNil)))))) sc_mean_wait fun A outer s H E hr => ?_) (spR.imp (lk_run (lk_later nr_expr (lk_later nr_expr lk_call))))
  have l_check_pond_and_chances : 7 ≤ 7 := by decide
  have l_check_level : 3 ≤ 7 := by decide
  have l_check_settles__r : 4 ≤ 7 := by decide
  exact (xs_later (s_expr (d_call hr (CF.call h_check_pond_and_chances) l_check_pond_and_chances (by rfl) (da_cons (d_var 0) (da_cons (d_var 1) da_nil)))) (xs_later (s_expr (d_call hr (CF.call h_check_level) l_check_level (by rfl) (da_cons (d_var 0) (da_cons (d_var 2) da_nil)))) (xs_here (x_expr (x_call hr h_check_settles__r l_check_settles__r (by rfl) tk_of (da_cons (b_ix (d_b (d_var 0)) d_int) (da_cons (d_var 1) da_nil)))))))
abbrev s_spill_first : Stmt := top 41
theorem sc_spill_first : FnScope ["pond", "chances", "level"] ["pond", "chances", "level"] (defScope s_spill_first) := ⟨rfl, rfl, rfl, by decide +kernel, rfl, by decide +kernel, by decide +kernel⟩
theorem ok_spill_first {ad : Str → Nat} {c_check_pond_and_chances c_check_level c_check_settles c_sums_of_levels : List PyData → Option PyData} (T : Txt K mg) {f : Addr} {fd : FuncData} {cdv : Value} (D : DF K "spill_first" "spill_first" s_spill_first f fd cdv) (g_chance_of_spill : mg "chance_of_spill" = some (.ref (ad "chance_of_spill"))) (g_only_gives : mg "only_gives" = some (.ref (ad "only_gives"))) (h_check_pond_and_chances : CF P w K mg base Ts 7 "check_pond_and_chances" 2 c_check_pond_and_chances) (h_check_level : CF P w K mg base Ts 3 "check_level" 2 c_check_level) (h_check_settles : CF P w K mg base Ts 4 "check_settles" 2 c_check_settles) (h_sums_of_levels : CF P w K mg base Ts 5 "sums_of_levels" 4 c_sums_of_levels) : FnOk P w K mg base CX0 8 f fd ["pond", "chances", "level"] (spD K Ts 3 (runD 3 (F_spill_first ad c_check_pond_and_chances c_check_level c_check_settles c_sums_of_levels))) := by
  refine D.ok sc_spill_first fun A outer s H E hr => ?_
  have l_check_pond_and_chances : 7 ≤ 7 := by decide
  have l_check_level : 3 ≤ 7 := by decide
  have l_check_settles : 4 ≤ 7 := by decide
  have l_sums_of_levels : 5 ≤ 7 := by decide
  exact (s_cons (s_expr (d_call hr (CF.call h_check_pond_and_chances) l_check_pond_and_chances (by rfl) (da_cons (d_var 0) (da_cons (d_var 1) da_nil)))) (s_cons (s_expr (d_call hr (CF.call h_check_level) l_check_level (by rfl) (da_cons (d_var 0) (da_cons (d_var 2) da_nil)))) (s_cons (s_expr (d_call hr (CF.call h_check_settles) l_check_settles (by rfl) (da_cons (b_ix (d_b (d_var 0)) d_int) (da_cons (d_var 1) da_nil)))) (s_one (s_ret (b_ix (d_b (d_call hr (CF.call h_sums_of_levels) l_sums_of_levels (by rfl) (da_cons (d_var 0) (da_cons (d_var 1) (da_cons (d_fn (i := 1) (by rfl) g_only_gives) (da_cons (d_fn (i := 1) (by rfl) g_chance_of_spill) da_nil)))))) (d_var 2)))))))
theorem okx_spill_first {c_check_pond_and_chances c_check_level c_check_settles__r : List PyData → Option PyData} (T : Txt K mg) {Ce f : Addr} {fd : FuncData} {cdv : Value} (D : DF K "spill_first" "spill_first" s_spill_first f fd cdv) (EX : ExcT K mg "Unsettled" Ce) (h_check_pond_and_chances : CF P w K mg base Ts 7 "check_pond_and_chances" 2 c_check_pond_and_chances) (h_check_level : CF P w K mg base Ts 3 "check_level" 2 c_check_level) (h_check_settles__r : CR P w K mg base Ts 4 "check_settles" 2 (.ref Ce) (isT c_check_settles__r)) : FnOk P w K mg base (L2.CX P w) 8 f fd ["pond", "chances", "level"] (spR K Ts 3 (.ref Ce) (isT (runD 3 (F_spill_first__r c_check_pond_and_chances c_check_level c_check_settles__r)))) := by
  refine FnOk.imp (D.okR (C := .ref Ce) (R := (rLater (sExpr (fCall 2 c_check_pond_and_chances (fCons (fVar 0) (fCons (fVar 1) fNil)))) (rLater (sExpr (fCall 2 c_check_level (fCons (fVar 0) (fCons (fVar 2) fNil)))) (rCall 2 (isT c_check_settles__r) (fCons (fIx (fVar 0) (fLit (.int 1))) (fCons (fVar 1) fNil)))))) sc_spill_first fun A outer s H E hr => ?_) (spR.imp (lk_run (lk_later nr_expr (lk_later nr_expr lk_call))))
  have l_check_pond_and_chances : 7 ≤ 7 := by decide
  have l_check_level : 3 ≤ 7 := by decide
  have l_check_settles__r : 4 ≤ 7 := by decide
  exact (xs_later (s_expr (d_call hr (CF.call h_check_pond_and_chances) l_check_pond_and_chances (by rfl) (da_cons (d_var 0) (da_cons (d_var 1) da_nil)))) (xs_later (s_expr (d_call hr (CF.call h_check_level) l_check_level (by rfl) (da_cons (d_var 0) (da_cons (d_var 2) da_nil)))) (xs_here (x_expr (x_call hr h_check_settles__r l_check_settles__r (by rfl) tk_of (da_cons (b_ix (d_b (d_var 0)) d_int) (da_cons (d_var 1) da_nil)))))))
abbrev s__law_alike : Stmt := top 45
theorem sc__law_alike : FnScope ["found", "due", "k"] ["found", "due"] (defScope s__law_alike) := ⟨rfl, rfl, rfl, by decide +kernel, rfl, by decide +kernel, by decide +kernel⟩
theorem ok__law_alike (T : Txt K mg) {f : Addr} {fd : FuncData} {cdv : Value} (D : DF K "_law_alike" "_law_alike" s__law_alike f fd cdv) : FnOk P w K mg base CX0 1 f fd ["found", "due"] (spD K Ts 2 (runD 3 (F__law_alike0))) := by
  refine D.ok sc__law_alike fun A outer s H E hr => ?_
  exact (s_cons (s_if (dt_val (d_isi2 isi_tuple isi_list (by rfl) T.b_isinstance (by decide +kernel) (by rfl) T.b_tuple (by decide +kernel) (by rfl) T.b_list (by decide +kernel) (d_var 1))) ss_never s_nil) (s_cons (s_if (dt_w (dw_or (dt_isN (d_var 1) d_non) (dw_or1 (dt_val (d_isi isi_str (by rfl) T.b_isinstance (by decide +kernel) (by rfl) T.b_str (by decide +kernel) (d_var 1)))))) (s_one (s_ret (d_and (d_eq hr (d_var 0) (d_var 1)) (d_one (d_eq hr (d_isi isi_str (by rfl) T.b_isinstance (by decide +kernel) (by rfl) T.b_str (by decide +kernel) (d_var 0)) (d_isi isi_str (by rfl) T.b_isinstance (by decide +kernel) (by rfl) T.b_str (by decide +kernel) (d_var 1))))))) s_nil) (s_one (s_ret (d_and (d_isi isi_int (by rfl) T.b_isinstance (by decide +kernel) (by rfl) T.b_int (by decide +kernel) (d_var 0)) (d_and (d_eq hr (d_isi isi_bool (by rfl) T.b_isinstance (by decide +kernel) (by rfl) T.b_bool (by decide +kernel) (d_var 0)) (d_isi isi_bool (by rfl) T.b_isinstance (by decide +kernel) (by rfl) T.b_bool (by decide +kernel) (d_var 1))) (d_one (d_eq hr (d_var 0) (d_var 1)))))))))
theorem okr__law_alike {c__law_alike : List PyData → Option PyData} {j : Nat} (T : Txt K mg) {f : Addr} {fd : FuncData} {cdv : Value} (D : DF K "_law_alike" "_law_alike" s__law_alike f fd cdv) (h__law_alike : CF P w K mg base Ts j "_law_alike" 2 c__law_alike) : FnOk P w K mg base CX0 (j + 1) f fd ["found", "due"] (spD K Ts 2 (runD 3 (F__law_alike c__law_alike))) := by
  refine D.ok sc__law_alike fun A outer s H E hr => ?_
  have l__law_alike : j ≤ j := Nat.le_refl j
  exact (s_cons (s_if (dt_val (d_isi2 isi_tuple isi_list (by rfl) T.b_isinstance (by decide +kernel) (by rfl) T.b_tuple (by decide +kernel) (by rfl) T.b_list (by decide +kernel) (d_var 1))) (s_cons (s_if (dt_w (dw_or (dt_not (dt_val (d_isi2 isi_tuple isi_list (by rfl) T.b_isinstance (by decide +kernel) (by rfl) T.b_tuple (by decide +kernel) (by rfl) T.b_list (by decide +kernel) (d_var 0)))) (dw_or1 (dt_ne hr (d_isi isi_list (by rfl) T.b_isinstance (by decide +kernel) (by rfl) T.b_list (by decide +kernel) (d_var 0)) (d_isi isi_list (by rfl) T.b_isinstance (by decide +kernel) (by rfl) T.b_list (by decide +kernel) (d_var 1)))))) (s_one (s_ret d_bl)) s_nil) (s_cons (s_if (dt_ne hr (d_len (by rfl) T.b_len (d_b (d_var 0))) (d_len (by rfl) T.b_len (d_b (d_var 1)))) (s_one (s_ret d_bl)) s_nil) (s_one (s_ret (d_eq hr (d_lc (own := [("k", 2)]) rfl sc__law_alike.nd (di_range1 (by rfl) T.b_range (d_len (by rfl) T.b_len (d_b (d_var 1)))) (blkOk_by (own := [("k", 2)]) (N := ["found", "due", "k"]) (sc := defScope s__law_alike) (by decide +kernel)) (fun _ _ _ _ _ => (dg_name 2 sc__law_alike.nd rfl (by first | exact Or.inl rfl | exact Or.inr rfl) (by decide))) (fun _ _ _ _ _ => (dts_one (dt_not (dt_val (d_call hr (CF.call h__law_alike) l__law_alike (by rfl) (da_cons (b_ix (d_b (d_var 0)) (d_var 2)) (da_cons (b_ix (d_b (d_var 1)) (d_var 2)) da_nil))))))) (fun _ _ _ _ _ => (d_var 2))) (d_lst da_nil)))))) s_nil) (s_cons (s_if (dt_w (dw_or (dt_isN (d_var 1) d_non) (dw_or1 (dt_val (d_isi isi_str (by rfl) T.b_isinstance (by decide +kernel) (by rfl) T.b_str (by decide +kernel) (d_var 1)))))) (s_one (s_ret (d_and (d_eq hr (d_var 0) (d_var 1)) (d_one (d_eq hr (d_isi isi_str (by rfl) T.b_isinstance (by decide +kernel) (by rfl) T.b_str (by decide +kernel) (d_var 0)) (d_isi isi_str (by rfl) T.b_isinstance (by decide +kernel) (by rfl) T.b_str (by decide +kernel) (d_var 1))))))) s_nil) (s_one (s_ret (d_and (d_isi isi_int (by rfl) T.b_isinstance (by decide +kernel) (by rfl) T.b_int (by decide +kernel) (d_var 0)) (d_and (d_eq hr (d_isi isi_bool (by rfl) T.b_isinstance (by decide +kernel) (by rfl) T.b_bool (by decide +kernel) (d_var 0)) (d_isi isi_bool (by rfl) T.b_isinstance (by decide +kernel) (by rfl) T.b_bool (by decide +kernel) (d_var 1))) (d_one (d_eq hr (d_var 0) (d_var 1)))))))))
abbrev s__law_ratio : Stmt := top 46
theorem sc__law_ratio : FnScope ["top", "bottom", "one", "other"] ["top", "bottom"] (defScope s__law_ratio) := ⟨rfl, rfl, rfl, by decide +kernel, rfl, by decide +kernel, by decide +kernel⟩
theorem ok__law_ratio (w0 : En → Nat) (T : Txt K mg) {f : Addr} {fd : FuncData} {cdv : Value} (D : DF K "_law_ratio" "_law_ratio" s__law_ratio f fd cdv) : FnOk P w K mg base CX0 1 f fd ["top", "bottom"] (spD K Ts 2 (runD 4 (F__law_ratio w0))) := by
  refine D.ok sc__law_ratio fun A outer s H E hr => ?_
  exact (s_cons (s_par (i := 2) (j := 3) rfl sc__law_ratio.nd rfl rfl (by decide) rfl rfl (d_abs (by rfl) T.b_abs (by decide +kernel) (d_var 0)) (d_abs (by rfl) T.b_abs (by decide +kernel) (d_var 1)) (by rfl)) (s_cons (s_while w0 PassesOwn.never (dt_ne hr (d_var 3) d_int) (s_one (s_par (i := 2) (j := 3) rfl sc__law_ratio.nd rfl rfl (by decide) rfl rfl (d_var 3) (d_mod (d_toInt (by rfl) T.b_int (by decide +kernel) (d_var 2)) (d_var 3)) (by rfl)))) (s_one (s_ret (d_if (dt_gt (d_var 1) d_int) (d_tup (da_cons (d_div (d_var 0) (d_var 2)) (da_cons (d_div (d_var 1) (d_var 2)) da_nil))) (d_tup (da_cons (d_sub d_int (d_div (d_var 0) (d_var 2))) (da_cons (d_sub d_int (d_div (d_var 1) (d_var 2))) da_nil))))))))
abbrev s__law_plus : Stmt := top 47
theorem sc__law_plus : FnScope ["one", "other"] ["one", "other"] (defScope s__law_plus) := ⟨rfl, rfl, rfl, by decide +kernel, rfl, by decide +kernel, by decide +kernel⟩
theorem ok__law_plus {c__law_ratio : List PyData → Option PyData} (T : Txt K mg) {f : Addr} {fd : FuncData} {cdv : Value} (D : DF K "_law_plus" "_law_plus" s__law_plus f fd cdv) (h__law_ratio : CF P w K mg base Ts 1 "_law_ratio" 2 c__law_ratio) : FnOk P w K mg base CX0 2 f fd ["one", "other"] (spD K Ts 2 (runD 2 (F__law_plus c__law_ratio))) := by
  refine D.ok sc__law_plus fun A outer s H E hr => ?_
  have l__law_ratio : 1 ≤ 1 := by decide
  exact (s_one (s_ret (d_call hr (CF.call h__law_ratio) l__law_ratio (by rfl) (da_cons (d_plus (d_times (b_ix (d_b (d_var 0)) d_int) (b_ix (d_b (d_var 1)) d_int)) (d_times (b_ix (d_b (d_var 1)) d_int) (b_ix (d_b (d_var 0)) d_int))) (da_cons (d_times (b_ix (d_b (d_var 0)) d_int) (b_ix (d_b (d_var 1)) d_int)) da_nil)))))
abbrev s__law_by : Stmt := top 48
theorem sc__law_by : FnScope ["one", "other"] ["one", "other"] (defScope s__law_by) := ⟨rfl, rfl, rfl, by decide +kernel, rfl, by decide +kernel, by decide +kernel⟩
theorem ok__law_by {c__law_ratio : List PyData → Option PyData} (T : Txt K mg) {f : Addr} {fd : FuncData} {cdv : Value} (D : DF K "_law_by" "_law_by" s__law_by f fd cdv) (h__law_ratio : CF P w K mg base Ts 1 "_law_ratio" 2 c__law_ratio) : FnOk P w K mg base CX0 2 f fd ["one", "other"] (spD K Ts 2 (runD 2 (F__law_by c__law_ratio))) := by
  refine D.ok sc__law_by fun A outer s H E hr => ?_
  have l__law_ratio : 1 ≤ 1 := by decide
  exact (s_one (s_ret (d_call hr (CF.call h__law_ratio) l__law_ratio (by rfl) (da_cons (d_times (b_ix (d_b (d_var 0)) d_int) (b_ix (d_b (d_var 1)) d_int)) (da_cons (d_times (b_ix (d_b (d_var 0)) d_int) (b_ix (d_b (d_var 1)) d_int)) da_nil)))))
abbrev s__law_less : Stmt := top 50
theorem sc__law_less : FnScope ["one", "other"] ["one", "other"] (defScope s__law_less) := ⟨rfl, rfl, rfl, by decide +kernel, rfl, by decide +kernel, by decide +kernel⟩
theorem ok__law_less (T : Txt K mg) {f : Addr} {fd : FuncData} {cdv : Value} (D : DF K "_law_less" "_law_less" s__law_less f fd cdv) : FnOk P w K mg base CX0 1 f fd ["one", "other"] (spD K Ts 2 (runD 2 (F__law_less))) := by
  refine D.ok sc__law_less fun A outer s H E hr => ?_
  exact (s_one (s_ret (d_lt (d_times (b_ix (d_b (d_var 0)) d_int) (b_ix (d_b (d_var 1)) d_int)) (d_times (b_ix (d_b (d_var 1)) d_int) (b_ix (d_b (d_var 0)) d_int)))))
abbrev s__law_is_ratio : Stmt := top 51
theorem sc__law_is_ratio : FnScope ["value", "one"] ["value"] (defScope s__law_is_ratio) := ⟨rfl, rfl, rfl, by decide +kernel, rfl, by decide +kernel, by decide +kernel⟩
theorem ok__law_is_ratio {c__law_ratio : List PyData → Option PyData} (T : Txt K mg) {f : Addr} {fd : FuncData} {cdv : Value} (D : DF K "_law_is_ratio" "_law_is_ratio" s__law_is_ratio f fd cdv) (h__law_ratio : CF P w K mg base Ts 1 "_law_ratio" 2 c__law_ratio) : FnOk P w K mg base CX0 2 f fd ["value"] (spD K Ts 1 (runD 2 (F__law_is_ratio c__law_ratio))) := by
  refine D.ok sc__law_is_ratio fun A outer s H E hr => ?_
  have l__law_ratio : 1 ≤ 1 := by decide
  exact (s_cons (s_if (dt_not (dt_val (d_isi isi_tuple (by rfl) T.b_isinstance (by decide +kernel) (by rfl) T.b_tuple (by decide +kernel) (d_var 0)))) (s_one (s_ret d_bl)) s_nil) (s_cons (s_if (dt_ne hr (d_len (by rfl) T.b_len (d_b (d_var 0))) d_int) (s_one (s_ret d_bl)) s_nil) (s_cons (s_if (dt_ne hr (d_lc (own := [("one", 1)]) rfl sc__law_is_ratio.nd (di_seq (d_var 0)) (blkOk_by (own := [("one", 1)]) (N := ["value", "one"]) (sc := defScope s__law_is_ratio) (by decide +kernel)) (fun _ _ _ _ _ => (dg_name 1 sc__law_is_ratio.nd rfl (by first | exact Or.inl rfl | exact Or.inr rfl) (by decide))) (fun _ _ _ _ _ => (dts_one (dt_w (dw_or (dt_not (dt_val (d_isi isi_int (by rfl) T.b_isinstance (by decide +kernel) (by rfl) T.b_int (by decide +kernel) (d_var 1)))) (dw_or1 (dt_val (d_isi isi_bool (by rfl) T.b_isinstance (by decide +kernel) (by rfl) T.b_bool (by decide +kernel) (d_var 1)))))))) (fun _ _ _ _ _ => (d_var 1))) (d_lst da_nil)) (s_one (s_ret d_bl)) s_nil) (s_one (s_ret (d_and (d_gt (b_ix (d_b (d_var 0)) d_int) d_int) (d_one (d_eq hr (d_call hr (CF.call h__law_ratio) l__law_ratio (by rfl) (da_cons (b_ix (d_b (d_var 0)) d_int) (da_cons (b_ix (d_b (d_var 0)) d_int) da_nil))) (d_var 0)))))))))
abbrev s__law_month : Stmt := top 54
theorem sc__law_month : FnScope ["pond", "level", "inflow", "held", "given"] ["pond", "level", "inflow"] (defScope s__law_month) := ⟨rfl, rfl, rfl, by decide +kernel, rfl, by decide +kernel, by decide +kernel⟩
theorem ok__law_month (T : Txt K mg) {f : Addr} {fd : FuncData} {cdv : Value} (D : DF K "_law_month" "_law_month" s__law_month f fd cdv) : FnOk P w K mg base CX0 1 f fd ["pond", "level", "inflow"] (spD K Ts 3 (runD 5 (F__law_month))) := by
  refine D.ok sc__law_month fun A outer s H E hr => ?_
  exact (s_cons (s_set (i := 3) sc__law_month.nd rfl (by first | exact Or.inl rfl | exact Or.inr rfl) (d_min2 rfl (by rfl) T.b_min (by decide +kernel) (b_ix (d_b (d_var 0)) d_int) (d_plus (d_var 1) (d_var 2)))) (s_cons (s_set (i := 4) sc__law_month.nd rfl (by first | exact Or.inl rfl | exact Or.inr rfl) (d_min2 rfl (by rfl) T.b_min (by decide +kernel) (b_ix (d_b (d_var 0)) d_int) (d_var 3))) (s_one (s_ret (d_tup (da_cons (d_var 4) (da_cons (d_sub (d_plus (d_var 1) (d_var 2)) (d_var 3)) (da_cons (d_sub (d_var 3) (d_var 4)) da_nil))))))))
abbrev s__law_settles : Stmt := top 57
theorem sc__law_settles : FnScope ["pond", "chances", "one"] ["pond", "chances"] (defScope s__law_settles) := ⟨rfl, rfl, rfl, by decide +kernel, rfl, by decide +kernel, by decide +kernel⟩
theorem ok__law_settles (T : Txt K mg) {f : Addr} {fd : FuncData} {cdv : Value} (D : DF K "_law_settles" "_law_settles" s__law_settles f fd cdv) : FnOk P w K mg base CX0 1 f fd ["pond", "chances"] (spD K Ts 2 (runD 3 (F__law_settles))) := by
  refine D.ok sc__law_settles fun A outer s H E hr => ?_
  exact (s_one (s_ret (d_ne hr (d_lc (own := [("one", 2)]) rfl sc__law_settles.nd (di_seq (b_cut (d_b (d_var 1)) dp_none (dp_some (b_ix (d_b (d_var 0)) d_int)))) (blkOk_by (own := [("one", 2)]) (N := ["pond", "chances", "one"]) (sc := defScope s__law_settles) (by decide +kernel)) (fun _ _ _ _ _ => (dg_name 2 sc__law_settles.nd rfl (by first | exact Or.inl rfl | exact Or.inr rfl) (by decide))) (fun _ _ _ _ _ => (dts_one (dt_gt (b_ix (d_b (d_var 2)) d_int) d_int))) (fun _ _ _ _ _ => (d_var 2))) (d_lst da_nil))))
end
section
variable {P : Program} {w : World} {K : PySem.W.Frag} {mg : Str → Option Value} {base : Heap} {Ts : TsT}
abbrev s_taken : Stmt := top 43
theorem sc_taken : FnScope ["row", "many", "found", "cell"] ["row", "many"] (defScope s_taken) := ⟨rfl, rfl, rfl, by decide +kernel, rfl, by decide +kernel, by decide +kernel⟩
theorem ok_taken0 (T : Txt K mg) {f : Addr} {fd : FuncData} {cdv : Value} (D : DF K "_law_taken" "_law_taken" s_taken f fd cdv) : FnOk P w K mg base CX0 1 f fd ["row", "many"] (spW K Ts 1 (runZ 4 F_taken)) := by
  refine D.okZ sc_taken rfl (by decide) fun A outer s H E hr => ?_
  exact z_cons (z_if (dt_gt (b_ix (b_own 0) d_int) d_int) (z_cons (z_set (i := 2) sc_taken.nd rfl (by first | exact Or.inl rfl | exact Or.inr rfl) (by decide) (d_mod (d_toInt (by rfl) T.b_int (by decide +kernel) (b_ix (b_own 0) d_int)) (d_var 1))) (z_cons (z_row (c := 3) rfl (by first | exact Or.inl rfl | exact Or.inr (Or.inl rfl) | exact Or.inr (Or.inr rfl)) (d_div (b_ix (b_own 0) d_int) (d_var 1))) (z_one (z_ret (d_var 2))))) z_nil)
    (z_cons (z_row (c := 1) rfl (by first | exact Or.inl rfl | exact Or.inr (Or.inl rfl) | exact Or.inr (Or.inr rfl)) (d_plus (b_ix (b_own 0) d_int) d_int))
    (z_cons (z_if (dt_gt (b_ix (b_own 0) d_int) (d_len (by rfl) T.b_len (d_b (b_ix (b_own 0) d_int)))) (z_cons (z_row (c := 2) rfl (by first | exact Or.inl rfl | exact Or.inr (Or.inl rfl) | exact Or.inr (Or.inr rfl)) (d_mod (d_toInt (by rfl) T.b_int (by decide +kernel) (d_plus (d_mul (b_ix (b_own 0) d_int) d_int) d_int)) d_int)) (z_one (z_ret (d_mod (d_toInt (by rfl) T.b_int (by decide +kernel) (d_div (b_ix (b_own 0) d_int) d_int)) (d_var 1))))) z_nil)
    (z_cons (z_set (i := 3) sc_taken.nd rfl (by first | exact Or.inl rfl | exact Or.inr rfl) (by decide) (b_ix (d_b (b_ix (b_own 0) d_int)) (d_sub (b_ix (b_own 0) d_int) d_int)))
    (z_cons (z_row (c := 2) rfl (by first | exact Or.inl rfl | exact Or.inr (Or.inl rfl) | exact Or.inr (Or.inr rfl)) (d_mod (d_toInt (by rfl) T.b_int (by decide +kernel) (d_plus (d_plus (d_mul (b_ix (b_own 0) d_int) d_int) (d_var 3)) d_int)) d_int))
    (z_cons (z_if (dt_ge (d_var 3) (d_pow d_int d_int)) (z_one (z_row (c := 3) rfl (by first | exact Or.inl rfl | exact Or.inr (Or.inl rfl) | exact Or.inr (Or.inr rfl)) (d_div (d_var 3) (d_var 1)))) z_nil)
    (z_one (z_ret (d_mod (d_toInt (by rfl) T.b_int (by decide +kernel) (d_var 3)) (d_var 1)))))))))
theorem ok_taken (T : Txt K mg) {f : Addr} {fd : FuncData} {cdv : Value} (D : DF K "_law_taken" "_law_taken" s_taken f fd cdv) : FnOk P w K mg base CX0 1 f fd ["row", "many"] (spW K Ts 1 cTaken) := (ok_taken0 T D).imp (spW.imp taken_ok)
abbrev s_pick : Stmt := top 44
theorem sc_pick : FnScope ["row", "things"] ["row", "things"] (defScope s_pick) := ⟨rfl, rfl, rfl, by decide +kernel, rfl, by decide +kernel, by decide +kernel⟩
theorem ok_pick (T : Txt K mg) {f : Addr} {fd : FuncData} {cdv : Value} (D : DF K "_law_pick" "_law_pick" s_pick f fd cdv) (h_taken : CW P w K mg base Ts 1 "_law_taken" 1 cTaken) : FnOk P w K mg base CX0 2 f fd ["row", "things"] (spW K Ts 1 cPick) := by
  refine FnOk.imp (D.okW sc_pick rfl (by decide) rfl fun A outer s H E hr => ?_) (spW.imp pick_ok)
  exact we_ix (we_pure (d_var 1)) (we_draw hr h_taken (by decide) (by rfl) rfl (by first | exact Or.inl rfl | exact Or.inr (Or.inl rfl) | exact Or.inr (Or.inr rfl)) (wa_cons (we_pure (d_len (by rfl) T.b_len (d_b (d_var 1)))) wa_nil))
end
section
variable {P : Program} {w : World} {K : PySem.W.Frag} {mg : Str → Option Value} {base : Heap} {Ts : TsT}
abbrev s__law_pond : Stmt := top 53
theorem sc__law_pond : FnScope ["row", "capacity", "release", "parts", "k", "one"] ["row"] (defScope s__law_pond) := ⟨rfl, rfl, rfl, by decide +kernel, rfl, by decide +kernel, by decide +kernel⟩
theorem ok0__law_pond {c__law_ratio : List PyData → Option PyData} (T : Txt K mg) {f : Addr} {fd : FuncData} {cdv : Value} (D : DF K "_law_pond" "_law_pond" s__law_pond f fd cdv) (h__law_ratio : CF P w K mg base Ts 1 "_law_ratio" 2 c__law_ratio) (h__law_taken : CW P w K mg base Ts 1 "_law_taken" 1 cTaken) (h__law_pick : CW P w K mg base Ts 2 "_law_pick" 1 cPick) : FnOk P w K mg base CX0 3 f fd ["row"] (spW K Ts 0 (runV 6 (F__law_pond c__law_ratio))) := by
  refine D.okV sc__law_pond rfl (by decide) fun A outer s H E hr => ?_
  have l__law_ratio : 1 ≤ 2 := by decide
  have l__law_taken : 1 ≤ 2 := by decide
  have l__law_pick : 2 ≤ 2 := by decide
  exact (v_cons (v_set (i := 1) sc__law_pond.nd rfl (by first | exact Or.inl rfl | exact Or.inr rfl) (by decide) (we_plus (we_pure d_int) (we_draw hr h__law_taken l__law_taken (by rfl) rfl (by first | exact Or.inl rfl | exact Or.inr (Or.inl rfl) | exact Or.inr (Or.inr rfl)) (wa_cons (we_pure d_int) wa_nil)))) (v_cons (v_set (i := 2) sc__law_pond.nd rfl (by first | exact Or.inl rfl | exact Or.inr rfl) (by decide) (we_plus (we_pure d_int) (we_draw hr h__law_pick l__law_pick (by rfl) rfl (by first | exact Or.inl rfl | exact Or.inr (Or.inl rfl) | exact Or.inr (Or.inr rfl)) (wa_cons (we_lst (wa_cons (we_pure d_int) (wa_cons (we_draw hr h__law_taken l__law_taken (by rfl) rfl (by first | exact Or.inl rfl | exact Or.inr (Or.inl rfl) | exact Or.inr (Or.inr rfl)) (wa_cons (we_pure (d_var 1)) wa_nil)) wa_nil))) wa_nil)))) (v_cons (v_ownW (i := 3) sc__law_pond.nd rfl (by first | exact Or.inl rfl | exact Or.inr rfl) (by decide) (wn_lc (own := [("k", 4)]) rfl sc__law_pond.nd (wi_range1 (by rfl) T.b_range (we_plus (we_pure d_int) (we_draw hr h__law_taken l__law_taken (by rfl) rfl (by first | exact Or.inl rfl | exact Or.inr (Or.inl rfl) | exact Or.inr (Or.inr rfl)) (wa_cons (we_pure d_int) wa_nil)))) (blkOk_by (own := [("k", 4)]) (N := ["row", "capacity", "release", "parts", "k", "one"]) (sc := defScope s__law_pond) (by decide +kernel)) (by decide) (bOk_name (by decide)) bName_out (fun _ _ _ _ _ => (dg_name 4 sc__law_pond.nd rfl (by first | exact Or.inl rfl | exact Or.inr rfl) (by decide))) (fun _ _ _ _ _ => wts_nil) (fun _ _ _ _ _ => (we_draw hr h__law_pick l__law_pick (by rfl) rfl (by first | exact Or.inl rfl | exact Or.inr (Or.inl rfl) | exact Or.inr (Or.inr rfl)) (wa_cons (we_lst (wa_cons (we_pure d_int) (wa_cons (we_pure d_int) (wa_cons (we_pure d_int) (wa_cons (we_draw hr h__law_taken l__law_taken (by rfl) rfl (by first | exact Or.inl rfl | exact Or.inr (Or.inl rfl) | exact Or.inr (Or.inr rfl)) (wa_cons (we_pure d_int) wa_nil)) wa_nil))))) wa_nil))) (mn_draw mc_pick (mna_cons (mn_lst (mna_cons mn_p (mna_cons mn_p (mna_cons mn_p (mna_cons (mn_draw mc_taken (mna_cons mn_p mna_nil)) mna_nil))))) mna_nil)) mnt_yes (mni_range (mn_2 mn_p (mn_draw mc_taken (mna_cons mn_p mna_nil)))))) (v_cons (v_if (wt_pure (dt_eq hr (d_sum rfl (by rfl) T.b_sum (by decide +kernel) (b_own 3)) d_int)) (v_one (v_put (i := 3) (by decide) d_int (d_neg d_int))) v_nil) (v_rel 3 (by decide) (v_one (v_ret (we_pure (d_tup (da_cons (d_tup (da_cons (d_var 1) (da_cons (d_var 2) da_nil))) (da_cons (d_tuple (by rfl) T.b_tuple (by decide +kernel) (d_b (d_lc (own := [("one", 5)]) rfl sc__law_pond.nd (di_seq (d_var 3)) (blkOk_by (own := [("one", 5)]) (N := ["row", "capacity", "release", "parts", "k", "one"]) (sc := defScope s__law_pond) (by decide +kernel)) (fun _ _ _ _ _ => (dg_name 5 sc__law_pond.nd rfl (by first | exact Or.inl rfl | exact Or.inr rfl) (by decide))) (fun _ _ _ _ _ => dts_nil) (fun _ _ _ _ _ => (d_call hr (CF.call h__law_ratio) l__law_ratio (by rfl) (da_cons (d_var 5) (da_cons (d_sum rfl (by rfl) T.b_sum (by decide +kernel) (d_b (d_var 3))) da_nil))))))) da_nil)))))))))))
theorem ok_pond (T : Txt K mg) {f : Addr} {fd : FuncData} {cdv : Value} (D : DF K "_law_pond" "_law_pond" s__law_pond f fd cdv) (h__law_ratio : CF P w K mg base Ts 1 "_law_ratio" 2 S__law_ratio) (h__law_taken : CW P w K mg base Ts 1 "_law_taken" 1 cTaken) (h__law_pick : CW P w K mg base Ts 2 "_law_pick" 1 cPick) : FnOk P w K mg base CX0 3 f fd ["row"] (spW K Ts 0 cPond) := FnOk.imp (ok0__law_pond T D h__law_ratio h__law_taken h__law_pick) (spW.imp pond_ok)
end
section
variable {P : Program} {w : World} {K : PySem.W.Frag} {mg : Str → Option Value} {base : Heap} {Ts : TsT}
abbrev s_law : Stmt := top 58
theorem sc_law : FnScope ["script", "row", "pond", "chances", "many", "told", "waits", "firsts", "level", "wait", "first", "inflow", "given", "spilled", "later", "k", "one"] ["script"] (defScope s_law) := ⟨rfl, rfl, rfl, by decide +kernel, rfl, by decide +kernel, by decide +kernel⟩
theorem ok_law {c__law_settles c_mean_wait c_mean_wait__r c_spill_first c_spill_first__r c__law_is_ratio c__law_month c__law_plus c__law_by c__law_alike c__law_less : List PyData → Option PyData} (T : Txt K mg) {f : Addr} {fd : FuncData} {Ce c Pt : Addr} (TB : LamX.TabB base mg c Pt) (hP : (Pt, lamQ) ∈ Ts.ls) (D : DF K "law" "law" s_law f fd (.ref c)) (h__law_told : Told K mg "_law_told" Ce "unsettled") (h__law_settles : CF P w K mg base Ts 1 "_law_settles" 2 c__law_settles) (h_mean_wait : CF P w K mg base Ts 8 "mean_wait" 3 c_mean_wait) (h_mean_wait__r : CR P w K mg base Ts 8 "mean_wait" 3 (.ref Ce) (isT c_mean_wait__r)) (h_spill_first : CF P w K mg base Ts 8 "spill_first" 3 c_spill_first) (h_spill_first__r : CR P w K mg base Ts 8 "spill_first" 3 (.ref Ce) (isT c_spill_first__r)) (h__law_is_ratio : CF P w K mg base Ts 2 "_law_is_ratio" 1 c__law_is_ratio) (h__law_month : CF P w K mg base Ts 1 "_law_month" 3 c__law_month) (h__law_plus : CF P w K mg base Ts 2 "_law_plus" 2 c__law_plus) (h__law_by : CF P w K mg base Ts 2 "_law_by" 2 c__law_by) (h__law_alike : CF P w K mg base Ts 4 "_law_alike" 2 c__law_alike) (h__law_less : CF P w K mg base Ts 1 "_law_less" 2 c__law_less) (h__law_pond : CW P w K mg base Ts 3 "_law_pond" 0 cPond)
    (hF : ∀ ns : List Int, ns.length ≤ 63 → ∃ rw, RowOk rw ∧ F_row (lawEn 17 ns) = some (.list rw) ∧ ∀ en', (∃ rw', en' = (lawEn 17 ns).set 1 (.own rw')) → F_law c__law_settles c_mean_wait c_mean_wait__r c_spill_first c_spill_first__r c__law_is_ratio c__law_month c__law_plus c__law_by c__law_alike c__law_less en' fun r => r = .rt (.bool true)) : FnOk P w K mg base CX0 11 f fd ["script"] (spLaw K Ts) := by
  refine D.okVL (ρ := 1) sc_law (by decide) rfl (by decide) (fun A outer s H E hr => ?_) (fun A outer s H E hr => ?_) hF
  · exact s_own (i := 1) sc_law.nd rfl (by first | exact Or.inl rfl | exact Or.inr rfl) (n_lst (da_cons (d_var 0) (da_cons d_int (da_cons d_int (da_cons d_int da_nil)))))
  · have l__law_settles : 1 ≤ 10 := by decide
    have l_mean_wait : 8 ≤ 10 := by decide
    have l_mean_wait__r : 8 ≤ 10 := by decide
    have l_spill_first : 8 ≤ 10 := by decide
    have l_spill_first__r : 8 ≤ 10 := by decide
    have l__law_is_ratio : 2 ≤ 10 := by decide
    have l__law_month : 1 ≤ 10 := by decide
    have l__law_plus : 2 ≤ 10 := by decide
    have l__law_by : 2 ≤ 10 := by decide
    have l__law_alike : 4 ≤ 10 := by decide
    have l__law_less : 1 ≤ 10 := by decide
    have l__law_pond : 3 ≤ 10 := by decide
    exact (v_cons (v_bind (vs := [2, 3]) (we_draw hr h__law_pond l__law_pond (by rfl) rfl (by first | exact Or.inl rfl | exact Or.inr (Or.inl rfl) | exact Or.inr (Or.inr rfl)) wa_nil) (dg_tup rfl (dgs_cons (dg_name 2 sc_law.nd rfl (by first | exact Or.inl rfl | exact Or.inr rfl) (by decide)) (dgs_cons (dg_name 3 sc_law.nd rfl (by first | exact Or.inl rfl | exact Or.inr rfl) (by decide)) dgs_nil))) (bOk_tup (by decide)) (by decide)) (v_end (s_cons (s_set (i := 4) sc_law.nd rfl (by first | exact Or.inl rfl | exact Or.inr rfl) (d_plus (d_sub (b_ix (d_b (d_var 2)) d_int) (b_ix (d_b (d_var 2)) d_int)) d_int)) (s_cons (s_if (dt_not (dt_val (d_call hr (CF.call h__law_settles) l__law_settles (by rfl) (da_cons (d_var 2) (da_cons (d_var 3) da_nil))))) (s_cons (s_own (i := 5) sc_law.nd rfl (by first | exact Or.inl rfl | exact Or.inr rfl) (n_lst (da_cons (d_told (k := 8) h__law_told (CF.call h_mean_wait) h_mean_wait__r (by decide) (by decide) (hr.mono (by decide)) (by rfl) TB hP rfl (by rfl) (LamX.lamS_by (by show LamX.lamSB (defScope s_law) _ = true; decide +kernel)) (by rfl) (fun _ _ _ _ _ _ _ => (da_cons (d_var 2) (da_cons (d_var 3) (da_cons d_int da_nil))))) da_nil))) (s_cons (s_app (i := 5) (ha := (d_told (k := 8) h__law_told (CF.call h_spill_first) h_spill_first__r (by decide) (by decide) (hr.mono (by decide)) (by rfl) TB hP rfl (by rfl) (LamX.lamS_by (by show LamX.lamSB (defScope s_law) _ = true; decide +kernel)) (by rfl) (fun _ _ _ _ _ _ _ => (da_cons (d_var 2) (da_cons (d_var 3) (da_cons d_int da_nil))))))) (s_one (s_ret (b_eq hr (b_own 5) (d_lst (da_cons d_str (da_cons d_str da_nil)))))))) s_nil) (s_cons (s_par (i := 6) (j := 7) rfl sc_law.nd rfl rfl (by decide) rfl rfl (d_lc (own := [("k", 15)]) rfl sc_law.nd (di_range1 (by rfl) T.b_range (d_var 4)) (blkOk_by (own := [("k", 15)]) (N := ["script", "row", "pond", "chances", "many", "told", "waits", "firsts", "level", "wait", "first", "inflow", "given", "spilled", "later", "k", "one"]) (sc := defScope s_law) (by decide +kernel)) (fun _ _ _ _ _ => (dg_name 15 sc_law.nd rfl (by first | exact Or.inl rfl | exact Or.inr rfl) (by decide))) (fun _ _ _ _ _ => dts_nil) (fun _ _ _ _ _ => (d_call hr (CF.call h_mean_wait) l_mean_wait (by rfl) (da_cons (d_var 2) (da_cons (d_var 3) (da_cons (d_var 15) da_nil)))))) (d_lc (own := [("k", 15)]) rfl sc_law.nd (di_range1 (by rfl) T.b_range (d_var 4)) (blkOk_by (own := [("k", 15)]) (N := ["script", "row", "pond", "chances", "many", "told", "waits", "firsts", "level", "wait", "first", "inflow", "given", "spilled", "later", "k", "one"]) (sc := defScope s_law) (by decide +kernel)) (fun _ _ _ _ _ => (dg_name 15 sc_law.nd rfl (by first | exact Or.inl rfl | exact Or.inr rfl) (by decide))) (fun _ _ _ _ _ => dts_nil) (fun _ _ _ _ _ => (d_call hr (CF.call h_spill_first) l_spill_first (by rfl) (da_cons (d_var 2) (da_cons (d_var 3) (da_cons (d_var 15) da_nil)))))) (by rfl)) (s_cons (s_if (dt_ne hr (d_lc (own := [("one", 16)]) rfl sc_law.nd (di_seq (d_plus (d_var 6) (d_var 7))) (blkOk_by (own := [("one", 16)]) (N := ["script", "row", "pond", "chances", "many", "told", "waits", "firsts", "level", "wait", "first", "inflow", "given", "spilled", "later", "k", "one"]) (sc := defScope s_law) (by decide +kernel)) (fun _ _ _ _ _ => (dg_name 16 sc_law.nd rfl (by first | exact Or.inl rfl | exact Or.inr rfl) (by decide))) (fun _ _ _ _ _ => (dts_one (dt_w (dw_or (dt_not (dt_val (d_call hr (CF.call h__law_is_ratio) l__law_is_ratio (by rfl) (da_cons (d_var 16) da_nil)))) (dw_or1 (dt_lt (b_ix (d_b (d_var 16)) d_int) d_int)))))) (fun _ _ _ _ _ => (d_var 16))) (d_lst da_nil)) (s_one (s_ret d_bl)) s_nil) (s_cons (s_for (vs := [8]) PassesOwn.never rfl (di_range1 (by rfl) T.b_range (d_var 4)) (dg_name 8 sc_law.nd rfl (by first | exact Or.inl rfl | exact Or.inr rfl) (by decide)) (s_cons (s_parK (i := 9) (j := 10) (d_tup (da_cons (d_tup (da_cons d_int (da_cons d_int da_nil))) (da_cons (d_tup (da_cons d_int (da_cons d_int da_nil))) da_nil))) (dg_tup rfl (dgs_cons (dg_name 9 sc_law.nd rfl (by first | exact Or.inl rfl | exact Or.inr rfl) (by decide)) (dgs_cons (dg_name 10 sc_law.nd rfl (by first | exact Or.inl rfl | exact Or.inr rfl) (by decide)) dgs_nil)))) (s_cons (s_for (vs := [11]) PassesOwn.never rfl (di_range1 (by rfl) T.b_range (d_len (by rfl) T.b_len (d_b (d_var 3)))) (dg_name 11 sc_law.nd rfl (by first | exact Or.inl rfl | exact Or.inr rfl) (by decide)) (s_cons (s_bind (vs := [12, 13, 14]) (d_call hr (CF.call h__law_month) l__law_month (by rfl) (da_cons (d_var 2) (da_cons (d_var 8) (da_cons (d_var 11) da_nil)))) (dg_tup rfl (dgs_cons (dg_name 12 sc_law.nd rfl (by first | exact Or.inl rfl | exact Or.inr rfl) (by decide)) (dgs_cons (dg_name 13 sc_law.nd rfl (by first | exact Or.inl rfl | exact Or.inr rfl) (by decide)) (dgs_cons (dg_name 14 sc_law.nd rfl (by first | exact Or.inl rfl | exact Or.inr rfl) (by decide)) dgs_nil))))) (s_cons (s_if (dt_eq hr (d_var 12) (b_ix (d_b (d_var 2)) d_int)) (s_one (s_set (i := 9) sc_law.nd rfl (by first | exact Or.inl rfl | exact Or.inr rfl) (d_call hr (CF.call h__law_plus) l__law_plus (by rfl) (da_cons (d_var 9) (da_cons (d_call hr (CF.call h__law_by) l__law_by (by rfl) (da_cons (b_ix (d_b (d_var 3)) (d_var 11)) (da_cons (b_ix (d_b (d_var 6)) (d_var 14)) da_nil))) da_nil))))) s_nil) (s_one (s_if (dt_gt (d_var 13) d_int) (s_one (s_set (i := 10) sc_law.nd rfl (by first | exact Or.inl rfl | exact Or.inr rfl) (d_call hr (CF.call h__law_plus) l__law_plus (by rfl) (da_cons (d_var 10) (da_cons (b_ix (d_b (d_var 3)) (d_var 11)) da_nil))))) (s_one (s_if (dt_eq hr (d_var 12) (b_ix (d_b (d_var 2)) d_int)) (s_one (s_set (i := 10) sc_law.nd rfl (by first | exact Or.inl rfl | exact Or.inr rfl) (d_call hr (CF.call h__law_plus) l__law_plus (by rfl) (da_cons (d_var 10) (da_cons (d_call hr (CF.call h__law_by) l__law_by (by rfl) (da_cons (b_ix (d_b (d_var 3)) (d_var 11)) (da_cons (b_ix (d_b (d_var 7)) (d_var 14)) da_nil))) da_nil))))) s_nil))))))) (s_cons (s_if (dt_w (dw_or (dt_not (dt_val (d_call hr (CF.call h__law_alike) l__law_alike (by rfl) (da_cons (b_ix (d_b (d_var 6)) (d_var 8)) (da_cons (d_var 9) da_nil))))) (dw_or (dt_not (dt_val (d_call hr (CF.call h__law_alike) l__law_alike (by rfl) (da_cons (b_ix (d_b (d_var 7)) (d_var 8)) (da_cons (d_var 10) da_nil))))) (dw_or1 (dt_val (d_call hr (CF.call h__law_less) l__law_less (by rfl) (da_cons (d_tup (da_cons d_int (da_cons d_int da_nil))) (da_cons (d_var 10) da_nil)))))))) (s_one (s_ret d_bl)) s_nil) (s_one (s_if (dt_w (dw_and (dt_gt (d_var 8) d_int) (dw_and1 (dt_w (dw_or (dt_val (d_call hr (CF.call h__law_less) l__law_less (by rfl) (da_cons (b_ix (d_b (d_var 6)) (d_var 8)) (da_cons (b_ix (d_b (d_var 6)) (d_sub (d_var 8) d_int)) da_nil)))) (dw_or1 (dt_val (d_call hr (CF.call h__law_less) l__law_less (by rfl) (da_cons (b_ix (d_b (d_var 7)) (d_var 8)) (da_cons (b_ix (d_b (d_var 7)) (d_sub (d_var 8) d_int)) da_nil)))))))))) (s_one (s_ret d_bl)) s_nil)))))) (s_one (s_ret d_bl)))))))))
end
end L26
namespace Ty
open PySem PySem.Spec PyProof.Rows L2 DN
theorem fold_bind {α σ γ : Type} {Bd : α → σ → Option σ} {l : List α} {s s' : σ} {K : σ → Option γ} {R : Option γ} (h1 : foldO Bd l s = some s') (h2 : K s' = R) : (foldO Bd l s).bind K = R := by rw [h1]; exact h2
theorem val_nonneg_iff {p : Q2} (h : 0 < p.2) : 0 ≤ val p ↔ 0 ≤ p.1 := by
  have := val_lt (p := p) (q := ((0 : Int), (1 : Int))) h (by decide)
  rw [val_int] at this
  have z0 : ((0 : Int) : Rat) = 0 := rfl
  rw [z0] at this
  have e : p.1 * (1 : Int) < 0 * p.2 ↔ p.1 < 0 := by omega
  rw [← Rat.not_lt, this]
  show ¬ p.1 * (1 : Int) < 0 * p.2 ↔ _
  omega
def Dy (k : Nat) (v : Rat) : Prop := ∃ i : Int, v * ((4 ^ k : Int) : Rat) = (i : Rat)
theorem Dy.int (k : Nat) (i : Int) : Dy k (i : Rat) := ⟨i * 4 ^ k, by rw [Rat.intCast_mul]⟩
theorem Dy.add {k : Nat} {a b : Rat} (ha : Dy k a) (hb : Dy k b) : Dy k (a + b) := by
  obtain ⟨i, hi⟩ := ha
  obtain ⟨j, hj⟩ := hb
  exact ⟨i + j, by rw [Rat.add_mul, hi, hj, Rat.intCast_add]⟩
theorem Dy.neg {k : Nat} {a : Rat} (ha : Dy k a) : Dy k (-a) := by
  obtain ⟨i, hi⟩ := ha
  exact ⟨-i, by rw [Rat.neg_mul, hi, Rat.intCast_neg]⟩
def IsL (n : Nat) : List Q2 → List Rat → Prop
  | [], [] => True
  | q :: qs, v :: vs => Is n q v ∧ IsL n qs vs
  | _, _ => False
theorem IsL.len {n : Nat} : ∀ {qs : List Q2} {vs : List Rat}, IsL n qs vs → qs.length = vs.length
  | [], [], _ => rfl
  | q :: qs, v :: vs, h => by rw [List.length_cons, List.length_cons, IsL.len h.2]
  | [], _ :: _, h => h.elim
  | _ :: _, [], h => h.elim
theorem IsL.uniq {n m : Nat} : ∀ {qs ps : List Q2} {vs : List Rat}, IsL n qs vs → IsL m ps vs → qs = ps
  | [], [], [], _, _ => rfl
  | _ :: _, _ :: _, _ :: _, h, k => by rw [h.1.uniq k.1, IsL.uniq h.2 k.2]
  | [], _ :: _, [], _, k => k.elim
  | _ :: _, _, [], h, _ => h.elim
  | [], _, _ :: _, h, _ => h.elim
  | _ :: _, [], _ :: _, _, k => k.elim
theorem IsL.get {n : Nat} : ∀ {qs : List Q2} {vs : List Rat} {i : Nat}, IsL n qs vs → (h : i < qs.length) → ∃ v, vs[i]? = some v ∧ Is n qs[i] v
  | q :: qs, v :: vs, 0, h, _ => ⟨v, rfl, h.1⟩
  | q :: qs, v :: vs, i + 1, h, hi => IsL.get (i := i) h.2 (by simpa using hi)
  | [], _, _, _, hi => absurd hi (Nat.not_lt_zero _)
  | _ :: _, [], _, h, _ => h.elim
theorem IsL.mono {n m : Nat} (hm : n ≤ m) : ∀ {qs : List Q2} {vs : List Rat}, IsL n qs vs → IsL m qs vs
  | [], [], _ => trivial
  | _ :: _, _ :: _, h => ⟨h.1.mono hm, IsL.mono hm h.2⟩
  | [], _ :: _, h => h.elim
  | _ :: _, [], h => h.elim
theorem IsL.drop {n : Nat} : ∀ {qs : List Q2} {vs : List Rat} (j : Nat), IsL n qs vs → IsL n (qs.drop j) (vs.drop j)
  | _, _, 0, h => h
  | [], [], _ + 1, _ => trivial
  | _ :: _, _ :: _, j + 1, h => IsL.drop j h.2
  | [], _ :: _, _, h => h.elim
  | _ :: _, [], _, h => h.elim
def Lvl (C : Rat) : Nat → Rat → List Int → List Rat → Prop
  | _, _, [], [] => True
  | k, h, x :: xs, p :: ps => 0 ≤ p ∧ Dy (k + 1) p ∧ 0 ≤ h + (x : Rat) - p ∧ h + (x : Rat) - p ≤ C ∧ Lvl C (k + 1) (h + (x : Rat) - p) xs ps
  | _, _, _, _ => False
def fin : Rat → List Int → List Rat → Rat
  | h, x :: xs, p :: ps => fin (h + (x : Rat) - p) xs ps
  | h, _, _ => h
theorem Lvl.len {C : Rat} : ∀ {xs : List Int} {ps : List Rat} {k : Nat} {h : Rat}, Lvl C k h xs ps → ps.length = xs.length
  | [], [], _, _, _ => rfl
  | _ :: _, _ :: _, _, _, h => by rw [List.length_cons, List.length_cons, Lvl.len h.2.2.2.2]
  | [], _ :: _, _, _, h => h.elim
  | _ :: _, [], _, _, h => h.elim
theorem is_int10 {i : Int} (h : -1001 ≤ i ∧ i ≤ 1001) : Is 10 (i, (1 : Int)) (i : Rat) := is_int (by omega) (by decide)
theorem isL_mem {n : Nat} : ∀ {qs : List Q2} {vs : List Rat}, IsL n qs vs → ∀ q ∈ qs, ∃ v ∈ vs, Is n q v
  | q :: qs, v :: vs, h, p, hp => by
    rcases List.mem_cons.mp hp with e | e
    · exact ⟨v, List.mem_cons_self, by rw [e]; exact h.1⟩
    · obtain ⟨v', h1, h2⟩ := isL_mem h.2 p e
      exact ⟨v', List.mem_cons_of_mem _ h1, h2⟩
  | [], _, _, _, hp => nomatch hp
  | _ :: _, [], h, _, _ => h.elim
theorem row_true {n : Nat} {l : List Q2} {ps : List Rat} {m : Nat} (hl : IsL n l ps) (h0 : ∀ p ∈ ps, 0 ≤ p) (hm : l.length = m) : N_is_row_of_ratios l (m : Int) = some true := by
  unfold N_is_row_of_ratios
  rw [hm]
  rw [allO_true l fun p hq => by
    obtain ⟨v, v1, v2⟩ := isL_mem hl p hq
    rw [is_ratio_ok v2.sz]
    show some (decide (0 ≤ p.1)) = some true
    rw [decide_eq_true ((val_nonneg_iff v2.sz.pos).mp (by rw [v2.eq]; exact h0 v v1))]]
  simp [iteO]
abbrev St : Type := List (Int × Int)
def Un (S : St) : Prop := ∀ s ∈ S, 0 ≤ s.2
def Dn (S : St) : Prop := S.Pairwise fun a b => b.1 ≤ a.1
theorem c0 {u : Int} (h : 0 ≤ u) : (0 : Rat) ≤ (u : Rat) := Rat.intCast_nonneg.mpr h
def prt : St → Int → Int → St
  | [], _, _ => []
  | s :: r, f, b => (if 0 < min2 s.2 b - max2 0 f then [(s.1, min2 s.2 b - max2 0 f)] else []) ++ prt r (f - s.2) (b - s.2)
def tot : St → Int
  | [] => 0
  | s :: r => s.1 * s.2 + tot r
abbrev Cur : Type := Int × Int × List (Int × Int)
def usesU (c : Cur) (P : St) (w : Int) : List (Int × Int × Bool) := ((c.2.2.map fun s => (s.1, s.2, true)) ++ (P.map fun s => (s.2, s.1, false)) ++ [((0 : Int), w + 1, false)]).mergeSort leU3
def plain (U : List (Int × Int × Bool)) : St := U.map fun u => (u.1, u.2.1)
def usesM (c : Cur) (P : St) (w : Int) : St := plain (usesU c P w)
section
variable {C : Int} {c : Cur} {P : St} {w x : Int}
def lowC (c : Cur) (x : Int) : Int := max2 0 (c.1 - x)
def nxt (C : Int) (c : Cur) (x : Int) (P : St) : Cur := (lowC c x, c.2.1 + tot (prt (usesM c P (C + x)) 0 (lowC c x + x - c.1)), prt (usesM c P (C + x)) (lowC c x + x - c.1) (lowC c x + x - c.1 + C - lowC c x))
end
def cv (C E : Int) : List Int → List St → Cur
  | x :: xs, P :: ws => nxt C (cv C E xs ws) x P
  | _, _ => (E, 0, [(0, C - E)])
abbrev Us : Type := List (Int × Int × Bool)
def gam (b : Bool) : Us → Int → Int
  | [], _ => 0
  | u :: r, y => (if u.2.2 = b then min2 y u.2.1 else 0) + gam b r (y - min2 y u.2.1)
def kd (b : Bool) (U : Us) : St := plain (U.filter fun u => decide (u.2.2 = b))
section
variable {C : Int} {c : Cur} {P : St} {w : Int}
def hold (c : Cur) (P : St) (w : Int) : Int := c.1 + gam true (usesU c P w) (w - c.1)
end
def bl (C E : Int) : Int → List Int → List St → List Int
  | g, x :: xs, P :: ws => hold (cv C E xs ws) P (g + x) :: bl C E (hold (cv C E xs ws) P (g + x)) xs ws
  | _, _, _ => []
def rel : Int → List Int → List Int → List Int
  | g, x :: xs, h :: hs => (g + x - h) :: rel h xs hs
  | _, _, _ => []
def Sm (S : St) : Prop := ∀ s ∈ S, s.1.natAbs < 2 ^ 40 ∧ s.2.natAbs < 2 ^ 40
def pB (f b : Int) (i5 : Int × Int) (s3 : Int × St) : Option (Int × St) := ((some ((min2 (s3.1 + i5.2) b) - (max2 s3.1 f))).bind fun taken_6 => ((iteO (some (decide ((0 : Int) < taken_6))) ((appO s3.2 (i5.1, taken_6)).bind fun part_23 => some part_23) (some s3.2)).bind fun s25 => (((some i5.2)).bind fun x27 => (fun place_28 => some (place_28, s25)) (s3.1 + x27))))
theorem bindE {α β : Type} {o : Option α} {a : α} {f : α → Option β} {r : Option β} (h : o = some a) (h2 : f a = r) : o.bind f = r := by
  rw [h]; exact h2
def hB (i8 : Int × Int × Bool) (s6 : Int × Int) : Option (Int × Int) := ((some (min2 s6.1 i8.2.1)).bind fun taken_9 => ((some taken_9).bind fun x14 => (fun left_15 => (iteO (some i8.2.2) (((some taken_9)).bind fun x16 => (fun held_17 => some (left_15, held_17)) (s6.2 + x16)) (some (left_15, s6.2)))) (s6.1 - x14)))
noncomputable def lB (i6 : Int × List (Int × Int) × Cur) (s4 : Int × List Int) : Option (Int × List Int) := ((N_best_hold i6.2.2 i6.2.1 (s4.1 + i6.1)).bind fun held_7 => ((appO s4.2 held_7).bind fun behind_10 => some (held_7, behind_10)))
theorem is_den {n a b : Nat} {q : Q2} {v : Rat} {D z : Int} (h : Is n q v) (hD : 0 < D) (hDb : D < 2 ^ a) (hz : z.natAbs < 2 ^ b) (e : v * (D : Rat) = (z : Rat)) : Is (max a b) q v := by
  have h' := h
  obtain ⟨⟨p0, s1, s2, s3⟩, hv⟩ := h
  have qp := cast_pos p0
  have e1 : q.1 * D = z * q.2 := by
    unfold val at hv
    rw [← hv] at e
    have : ((q.1 * D : Int) : Rat) = ((z * q.2 : Int) : Rat) := by
      rw [Rat.intCast_mul, Rat.intCast_mul, ← e]
      have k : (q.1 : Rat) / (q.2 : Rat) * (q.2 : Rat) = (q.1 : Rat) := Rat.div_mul_cancel (Rat.ne_of_gt qp)
      rw [Rat.mul_assoc, Rat.mul_comm (D : Rat), ← Rat.mul_assoc, k]
    exact Rat.intCast_inj.mp this
  have cop : Nat.Coprime q.2.natAbs q.1.natAbs := by
    show Nat.gcd q.2.natAbs q.1.natAbs = 1
    rw [Nat.gcd_comm]
    exact s3
  have dv : q.2 ∣ D := by
    have k : q.2 ∣ q.1 * D := ⟨z, by rw [e1, Int.mul_comm]⟩
    have k2 := Int.natAbs_dvd_natAbs.mpr k
    rw [Int.natAbs_mul] at k2
    exact Int.natAbs_dvd_natAbs.mp (cop.dvd_of_dvd_mul_left k2)
  obtain ⟨k, hk⟩ := dv
  have k0 : 0 < k := by
    rcases Int.lt_trichotomy k 0 with c | c | c
    · have := Int.mul_neg_of_pos_of_neg p0 c
      omega
    · rw [c, Int.mul_zero] at hk
      omega
    · exact c
  have e2 : q.1 * k = z := by
    rw [hk] at e1
    have : q.2 * (q.1 * k) = q.2 * z := by
      rw [← Int.mul_assoc, Int.mul_comm q.2 q.1, Int.mul_assoc, e1, Int.mul_comm]
    exact Int.eq_of_mul_eq_mul_left (by omega) this
  refine ⟨⟨p0, ?_, ?_, s3⟩, hv⟩
  · have : q.1.natAbs ≤ z.natAbs := by
      rw [← e2, Int.natAbs_mul]
      exact Nat.le_mul_of_pos_right _ (by omega)
    exact Nat.lt_of_lt_of_le (Nat.lt_of_le_of_lt this hz) (Nat.pow_le_pow_right (by decide) (Nat.le_max_right _ _))
  · have : q.2 ≤ D := by
      have := Int.mul_le_mul_of_nonneg_left (show (1 : Int) ≤ k by omega) (show 0 ≤ q.2 by omega)
      omega
    exact Nat.lt_of_lt_of_le (show q.2.natAbs < 2 ^ a by
      have : (q.2.natAbs : Int) < ((2 ^ a : Nat) : Int) := by
        have e : ((2 ^ a : Nat) : Int) = (2 : Int) ^ a := by simp
        rw [e]
        omega
      exact Int.ofNat_lt.mp this) (Nat.pow_le_pow_right (by decide) (Nat.le_max_left _ _))
def Good (n : Nat) (l : List Q2) : Prop := ∀ q ∈ l, Sz n q ∧ 0 ≤ val q
theorem Good.nn {n : Nat} {l : List Q2} (h : Good n l) : ∀ p ∈ l.map val, 0 ≤ p := fun p hp => by
  obtain ⟨q, hq, rfl⟩ := List.mem_map.mp hp
  exact (h q hq).2
end Ty
namespace Po
open PySem PySem.Spec PyProof.Rows L2 DN Ty
def Dn (D : Int) (v : Rat) : Prop := ∃ i : Int, v * (D : Rat) = (i : Rat)
theorem Dn.add {D : Int} {a b : Rat} (ha : Dn D a) (hb : Dn D b) : Dn D (a + b) := by
  obtain ⟨i, hi⟩ := ha
  obtain ⟨j, hj⟩ := hb
  refine ⟨i + j, ?_⟩
  rw [Rat.intCast_add, ← hi, ← hj]
  grind
theorem Dn.mul {D E : Int} {a b : Rat} (ha : Dn D a) (hb : Dn E b) : Dn (D * E) (a * b) := by
  obtain ⟨i, hi⟩ := ha
  obtain ⟨j, hj⟩ := hb
  refine ⟨i * j, ?_⟩
  rw [Rat.intCast_mul, Rat.intCast_mul, ← hi, ← hj]
  grind
theorem Dn.int (D i : Int) : Dn D (i : Rat) := ⟨i * D, by rw [Rat.intCast_mul]⟩
theorem Dn.zero (D : Int) : Dn D 0 := Dn.int D 0
theorem Dn.is {D : Int} {a n : Nat} {q : Q2} {v : Rat} (h : Is n q v) (hD : 0 < D) (hb : D < 2 ^ a) (hv : Dn D v) (v0 : 0 ≤ v) (v1 : v ≤ 1) : Is a q v := by
  obtain ⟨z, hz⟩ := hv
  have dp : (0 : Rat) < (D : Rat) := cast_pos hD
  have z0 : (0 : Rat) ≤ (z : Rat) := by rw [← hz]; exact Rat.mul_nonneg v0 (Rat.le_of_lt dp)
  have z1 : (z : Rat) ≤ (D : Rat) := by
    rw [← hz]
    have := Rat.mul_le_mul_of_nonneg_right v1 (Rat.le_of_lt dp)
    grind
  have y0 : 0 ≤ z := Rat.intCast_le_intCast.mp z0
  have y1 : z ≤ D := Rat.intCast_le_intCast.mp z1
  have r := is_den (a := a) (b := a) h hD hb (by
    have e : (((2 ^ a : Nat)) : Int) = (2 : Int) ^ a := by simp
    have : (z.natAbs : Int) < ((2 ^ a : Nat) : Int) := by rw [e]; omega
    exact Int.ofNat_lt.mp this) hz
  rw [Nat.max_self] at r
  exact r
def bhd (p : PondT) (l i : Int) : Int := min2 p.1 (l + i) - min2 p.2 (min2 p.1 (l + i))
def upd1 (s : List Rat) (j : Nat) (x : Rat) : List Rat := s.set j (s.getD j 0 + x)
def stI (p : PondT) (l : Int) (x : Rat) : Nat → List Rat → List Rat → List Rat
  | i, c :: cs, s => stI p l x (i + 1) cs (upd1 s (bhd p l (i : Int)).toNat (x * c))
  | _, [], s => s
abbrev lvs_n (p : PondT) : Nat := (p.1 - p.2 + 1).toNat
theorem min2_le (a b : Int) : min2 a b = min a b := by
  unfold min2
  omega
theorem bhd_in {p : PondT} (hp : PondIn p) {l i : Int} (hl : 0 ≤ l) (hi : 0 ≤ i) : 0 ≤ bhd p l i ∧ bhd p l i ≤ p.1 - p.2 := by
  have := hp.c0; have := hp.r0; have := hp.r1
  unfold bhd
  rw [min2_le, min2_le]
  omega
theorem upd_len (s : List Rat) (j : Nat) (x : Rat) : (upd1 s j x).length = s.length := List.length_set
theorem sum_set : ∀ (s : List Rat) (j : Nat) (x : Rat), j < s.length → (upd1 s j x).sum = s.sum + x
  | a :: s, 0, x, _ => by
    show (a + x) + s.sum = (a + s.sum) + x
    grind
  | a :: s, j + 1, x, h => by
    have i := sum_set s j x (by simpa using h)
    show a + (upd1 s j x).sum = (a + s.sum) + x
    rw [i]
    grind
structure Shr (D : Int) (s : List Rat) : Prop where
  dn : ∀ x ∈ s, Dn D x
  nn : ∀ x ∈ s, 0 ≤ x
theorem Shr.upd {D : Int} {s : List Rat} (h : Shr D s) {j : Nat} (hj : j < s.length) {x : Rat} (hx : Dn D x) (x0 : 0 ≤ x) : Shr D (upd1 s j x) := by
  have e : s.getD j 0 = s[j] := by simp [List.getD, hj]
  constructor <;> intro y hy <;> unfold upd1 at hy <;> rw [e] at hy <;> rcases List.mem_or_eq_of_mem_set hy with q | q
  · exact h.dn y q
  · rw [q]; exact (h.dn _ (List.getElem_mem hj)).add hx
  · exact h.nn y q
  · rw [q]
    have := h.nn _ (List.getElem_mem hj)
    grind
theorem le_sum {s : List Rat} (h : ∀ x ∈ s, 0 ≤ x) : 0 ≤ s.sum ∧ ∀ x ∈ s, x ≤ s.sum := by
  induction s with
  | nil => exact ⟨Rat.le_refl, fun x hx => nomatch hx⟩
  | cons a s ih =>
    obtain ⟨i1, i2⟩ := ih fun x hx => h x (List.mem_cons_of_mem _ hx)
    have a0 := h a List.mem_cons_self
    rw [List.sum_cons]
    refine ⟨by grind, fun x hx => ?_⟩
    rcases List.mem_cons.mp hx with e | e
    · rw [e]; grind
    · have := i2 x e
      grind
theorem isl_set {n : Nat} : ∀ {l : List Q2} {vs : List Rat} {q : Q2} {v : Rat} (j : Nat), IsL n l vs → Is n q v → IsL n (l.set j q) (vs.set j v)
  | [], [], _, _, _, _, _ => trivial
  | _ :: _, _ :: _, _, _, 0, h, hq => ⟨hq, h.2⟩
  | _ :: _, _ :: _, _, _, j + 1, h, hq => ⟨h.1, isl_set j h.2 hq⟩
  | [], _ :: _, _, _, _, h, _ => h.elim
  | _ :: _, [], _, _, _, h, _ => h.elim
theorem isl_get {n : Nat} : ∀ {l : List Q2} {vs : List Rat} (j : Nat) (h : j < l.length), IsL n l vs → Is n l[j] (vs.getD j 0)
  | _ :: _, _ :: _, 0, _, h => h.1
  | q :: l, v :: vs, j + 1, hj, h => isl_get (l := l) (vs := vs) j (by simpa using hj) h.2
  | [], _, _, h, _ => by simp at h
  | _ :: _, [], _, _, h => h.elim
theorem put_nat {α : Type} {l : List α} {j : Nat} (h : j < l.length) (x : α) : putO l (j : Int) x = some (l.set j x) := by
  unfold putO
  have e : ixN l.length (j : Int) = some j := by
    unfold ixN
    rw [if_pos (by omega), if_pos (by omega)]
    simp
  rw [e]
  rfl
theorem upd_ok {D : Int} {a : Nat} (hD : 0 < D) (hb : D < 2 ^ a) (ha : a ≤ 2900) {Q : List Q2} {s : List Rat} (hQ : IsL a Q s) (hs : Shr D s) {j : Nat} (hj : j < s.length) {q : Q2} {x : Rat} {m : Nat} (hq : Is m q x) (hm : m ≤ 3000) (hx : Dn D x) (x0 : 0 ≤ x) (t : s.sum + x ≤ 1) :
    ∃ r, (atI Q (j : Int) = some (Q[j]'(by rw [hQ.len]; exact hj))) ∧ N_plus (Q[j]'(by rw [hQ.len]; exact hj)) q = some r ∧ N__law_plus (Q[j]'(by rw [hQ.len]; exact hj)) q = some r ∧ IsL a (Q.set j r) (upd1 s j x) := by
  have hjQ : j < Q.length := by rw [hQ.len]; exact hj
  have g := isl_get j hjQ hQ
  have e : s.getD j 0 = s[j] := by simp [List.getD, hj]
  obtain ⟨r, r1, r2⟩ := pplus g hq (by omega)
  obtain ⟨r', r1', r2'⟩ := lplus g hq (by omega)
  have rr : r' = r := r2'.uniq r2
  subst rr
  have le := (le_sum hs.nn).2 _ (List.getElem_mem hj)
  have n0 := hs.nn _ (List.getElem_mem hj)
  rw [e] at r2 g
  have r3 := Dn.is r2 hD hb ((hs.dn _ (List.getElem_mem hj)).add hx) (by grind) (by grind)
  refine ⟨r', L2.atI_nat (List.getElem?_eq_getElem hjQ), r1, r1', ?_⟩
  unfold upd1
  rw [e]
  exact isl_set j hQ r3
def mths (p : PondT) (l : Int) : Nat → List Q2 → List (Q2 × Int × Int × Int)
  | i, c :: C => (c, min2 p.2 (min2 p.1 (l + (i : Int))), (l + (i : Int)) - min2 p.1 (l + (i : Int)), bhd p l (i : Int)) :: mths p l (i + 1) C
  | _, [] => []
theorem mths_len (p : PondT) (l : Int) : ∀ (i : Nat) (C : List Q2), (mths p l i C).length = C.length
  | _, [] => rfl
  | i, c :: C => by show (mths p l (i + 1) C).length + 1 = _; rw [mths_len]; rfl
theorem months_go (p : PondT) (l : Int) : ∀ (C : List Q2) (i : Nat) (acc : List (Q2 × Int × Int × Int)), acc.length + C.length ≤ 1000 →
    foldO (fun (i6 : (Int × (Int × Int))) (s4 : ((List ((Int × Int) × Int × Int × Int)))) => ((some (min2 p.1 (l + i6.1))).bind fun there_7 => ((some (min2 p.2 there_7)).bind fun given_14 => ((appO s4 (i6.2, given_14, ((l + i6.1) - there_7), (there_7 - given_14))).bind fun months_25 => some months_25)))) (enumN i C) acc = some (acc ++ mths p l i C)
  | [], i, acc, _ => by rw [show mths p l i [] = [] from rfl, List.append_nil]; rfl
  | c :: C, i, acc, h => by
    rw [List.length_cons] at h
    have e := months_go p l C (i + 1) (acc ++ [(c, min2 p.2 (min2 p.1 (l + (i : Int))), (l + (i : Int)) - min2 p.1 (l + (i : Int)), bhd p l (i : Int))]) (by rw [List.length_append, List.length_singleton]; omega)
    show (((appO acc (c, min2 p.2 (min2 p.1 (l + (i : Int))), (l + (i : Int)) - min2 p.1 (l + (i : Int)), bhd p l (i : Int))).bind fun months_25 => some months_25).bind (foldO _ (enumN (i + 1) C))) = _
    have ap : appO acc (c, min2 p.2 (min2 p.1 (l + (i : Int))), (l + (i : Int)) - min2 p.1 (l + (i : Int)), bhd p l (i : Int)) = some (acc ++ [(c, min2 p.2 (min2 p.1 (l + (i : Int))), (l + (i : Int)) - min2 p.1 (l + (i : Int)), bhd p l (i : Int))]) := by unfold appO; rw [if_pos (by omega)]
    rw [ap, Option.bind_some, Option.bind_some, e, List.append_assoc]
    rfl
theorem months_from_ok (p : PondT) (l : Int) {C : List Q2} (h : C.length ≤ 1000) : N_months_from p C l = some (mths p l 0 C) := by
  unfold N_months_from
  refine bindE (a := p) rfl (bindE (a := []) rfl ?_)
  rw [months_go p l C 0 [] (by simpa using h)]
  rfl
noncomputable def pB (q : Q2) (i11 : ((Int × Int) × Int × Int × Int)) (s9 : List Q2) : Option (List Q2) := ((((atI s9 i11.2.2.2).bind fun a14 => (N_times q i11.1).bind fun a15 => N_plus a14 a15).bind fun x16 => (some i11.2.2.2).bind fun y17 => putO s9 y17 x16).bind fun later_18 => some later_18)
noncomputable def lB (p : PondT) (C V : List Q2) (l : Int) (i12 : Int) (s10 : List Q2) : Option (List Q2) := (((N__law_month p l i12).bind fun x14 => some x14.2.2).bind fun later_13 => ((((atI s10 later_13).bind fun a23 => ((atI V l).bind fun a21 => (atI C i12).bind fun a22 => N__law_by a21 a22).bind fun a24 => N__law_plus a23 a24).bind fun x25 => (some later_13).bind fun y26 => putO s10 y26 x25).bind fun found_27 => some found_27))
structure Chr (S : Int) (C : List Q2) (cs : List Rat) : Prop where
  isl : IsL 6 C cs
  sh : Shr S cs
abbrev rg (i n : Nat) : List Int := (List.range' i n).map fun k : Nat => (k : Int)
theorem rg_eq {n : Nat} (h : n ≤ 1000000) : range1O (n : Int) = some (rg 0 n) := by
  rw [range1_nat h]
  refine congrArg some ?_
  rw [List.range_eq_range']
  refine List.map_congr_left fun k _ => ?_
  omega
theorem Chr.tail {S : Int} {c : Q2} {C : List Q2} {x : Rat} {cs : List Rat} (h : Chr S (c :: C) (x :: cs)) : Chr S C cs := ⟨h.isl.2, ⟨fun y hy => h.sh.dn y (List.mem_cons_of_mem _ hy), fun y hy => h.sh.nn y (List.mem_cons_of_mem _ hy)⟩⟩
theorem month_is (p : PondT) (l i : Int) : N__law_month p l i = some (min2 p.2 (min2 p.1 (l + i)), (l + i) - min2 p.1 (l + i), bhd p l i) := rfl
theorem inner_ok {p : PondT} (hp : PondIn p) {D S : Int} {a b : Nat} (hD : 0 < D) (hS : 0 < S) (hb : D * S < 2 ^ a) (ha : a ≤ 2900) (hb2 : b ≤ 2900) {q : Q2} {x : Rat} (hq : Is b q x) (hx : Dn D x) (x0 : 0 ≤ x) (C0 V0 : List Q2) (l : Nat) (hV : atI V0 (l : Int) = some q) :
    ∀ (C : List Q2) (cs : List Rat) (i : Nat) (Q : List Q2) (s : List Rat), Chr S C cs → (∀ k (h : k < C.length), atI C0 ((i + k : Nat) : Int) = some C[k]) → IsL a Q s → Shr (D * S) s → s.length = lvs_n p → s.sum + x * cs.sum ≤ 1 →
    ∃ Q', foldO (pB q) (mths p (l : Int) i C) Q = some Q' ∧ foldO (lB p C0 V0 (l : Int)) (rg i C.length) Q = some Q' ∧ IsL a Q' (stI p (l : Int) x i cs s) ∧ Shr (D * S) (stI p (l : Int) x i cs s) ∧ (stI p (l : Int) x i cs s).length = lvs_n p ∧ (stI p (l : Int) x i cs s).sum = s.sum + x * cs.sum
  | [], [], i, Q, s, _, _, hQ, hs, hl, ht => ⟨Q, rfl, rfl, hQ, hs, hl, by show s.sum = s.sum + x * 0; grind⟩
  | c :: C, y :: cs, i, Q, s, hC, hg, hQ, hs, hl, ht => by
    have yn := hC.sh.nn y List.mem_cons_self
    have yd := hC.sh.dn y List.mem_cons_self
    have cn := (le_sum fun z hz => hC.sh.nn z (List.mem_cons_of_mem _ hz)).1
    obtain ⟨b0, b1⟩ := bhd_in hp (l := (l : Int)) (i := (i : Int)) (by omega) (by omega)
    obtain ⟨j, hj⟩ : ∃ j : Nat, bhd p (l : Int) (i : Int) = (j : Int) := ⟨(bhd p (l : Int) (i : Int)).toNat, by omega⟩
    have jl : j < s.length := by
      rw [hl]
      show j < (p.1 - p.2 + 1).toNat
      omega
    rw [List.sum_cons] at ht
    have xy := Rat.mul_nonneg x0 yn
    have xc := Rat.mul_nonneg x0 cn
    obtain ⟨t, t1, t2⟩ := ptimes hq hC.isl.1 (by omega)
    obtain ⟨t', t1', t2'⟩ := lby hq hC.isl.1 (by omega)
    have tt : t' = t := t2'.uniq t2
    subst tt
    have dp : (0 : Int) < D * S := Int.mul_pos hD hS
    obtain ⟨r, r1, r2, r3, r4⟩ := upd_ok dp hb ha hQ hs jl t2 (by omega) (hx.mul yd) xy (by grind)
    have hs' := hs.upd jl (hx.mul yd) xy
    have sm := sum_set s j (x * y) jl
    obtain ⟨Q', g1, g2, g3, g4, g5, g6⟩ := inner_ok hp hD hS hb ha hb2 hq hx x0 C0 V0 l hV C cs (i + 1) (Q.set j r) (upd1 s j (x * y)) hC.tail (fun k h => by
      have := hg (k + 1) (by rw [List.length_cons]; omega)
      rw [show i + 1 + k = i + (k + 1) by omega]
      exact this) r4 hs' (by rw [upd_len]; exact hl) (by rw [sm]; grind)
    have jQ : j < Q.length := by rw [hQ.len]; exact jl
    have pn := put_nat jQ r
    have es : stI p (l : Int) x i (y :: cs) s = stI p (l : Int) x (i + 1) cs (upd1 s j (x * y)) := by
      show stI p (l : Int) x (i + 1) cs (upd1 s (bhd p (l : Int) (i : Int)).toNat (x * y)) = _
      rw [hj]
      rfl
    rw [es]
    refine ⟨Q', ?_, ?_, g3, g4, g5, ?_⟩
    · show (pB q (c, _, _, bhd p (l : Int) (i : Int)) Q).bind (foldO (pB q) (mths p (l : Int) (i + 1) C)) = _
      have e : ∀ u v, pB q (c, u, v, bhd p (l : Int) (i : Int)) Q = some (Q.set j r) := fun u v => by
        unfold pB
        show (((atI Q (bhd p (l : Int) (i : Int))).bind fun a14 => (N_times q c).bind fun a15 => N_plus a14 a15).bind fun x16 => putO Q (bhd p (l : Int) (i : Int)) x16).bind _ = _
        rw [hj, r1, Option.bind_some, t1, Option.bind_some, r2, Option.bind_some, pn]
        rfl
      rw [e, Option.bind_some, g1]
    · show (lB p C0 V0 (l : Int) (i : Int) Q).bind (foldO (lB p C0 V0 (l : Int)) (rg (i + 1) C.length)) = _
      have gi := hg 0 (by rw [List.length_cons]; omega)
      rw [Nat.add_zero] at gi
      have e : lB p C0 V0 (l : Int) (i : Int) Q = some (Q.set j r) := by
        unfold lB
        rw [month_is, Option.bind_some, Option.bind_some, hj, r1, Option.bind_some, hV, Option.bind_some, gi, Option.bind_some, show (c :: C)[0] = c from rfl, t1', Option.bind_some, r3, Option.bind_some, Option.bind_some, pn]
        rfl
      rw [e, Option.bind_some, g2]
    · rw [g6, sm, List.sum_cons]
      grind
  | [], _ :: _, _, _, _, h, _, _, _, _, _ => h.isl.elim
  | _ :: _, [], _, _, _, h, _, _, _, _, _ => h.isl.elim
theorem zeros_isl (a : Nat) (h : 0 < a) : ∀ n, IsL a (List.replicate n ((0 : Int), (1 : Int))) (List.replicate n 0)
  | 0 => trivial
  | n + 1 => by
    have z : ((0 : Int) : Rat) = 0 := rfl
    have i : Is a ((0 : Int), (1 : Int)) ((0 : Int) : Rat) := is_int (by simpa using Nat.two_pow_pos a) h
    rw [z] at i
    exact ⟨i, zeros_isl a h n⟩
end Po
namespace DN
open PySem PySem.Spec PyProof.Rows L2
end DN
namespace Ty
open PySem PySem.Spec PyProof.Rows L2 DN
theorem iteF {α : Type} {c : Option Bool} {A B r : Option α} (h : c = some false) (g : B = r) : iteO c A B = r := by rw [h]; exact g
theorem iteT {α : Type} {c : Option Bool} {A B r : Option α} (h : c = some true) (g : A = r) : iteO c A B = r := by rw [h]; exact g
end Ty
namespace Po
open PySem PySem.Spec PyProof.Rows L2 DN Ty
theorem Dn.isM {D : Int} {a n m : Nat} {q : Q2} {v : Rat} (h : Is n q v) (hD : 0 < D) (hb : D < 2 ^ a) (hv : Dn D v) (v0 : 0 ≤ v) (v1 : v ≤ ((2 ^ m : Nat) : Rat)) : Is (a + m) q v := by
  obtain ⟨z, hz⟩ := hv
  have dp : (0 : Rat) < (D : Rat) := cast_pos hD
  have z0 : (0 : Rat) ≤ (z : Rat) := by rw [← hz]; exact Rat.mul_nonneg v0 (Rat.le_of_lt dp)
  have e0 : ((2 ^ m : Nat) : Rat) = (((2 ^ m : Nat) : Int) : Rat) := rfl
  have z1 : (z : Rat) ≤ ((((2 ^ m : Nat) : Int) * D : Int) : Rat) := by
    rw [← hz, Rat.intCast_mul, ← e0]
    exact Rat.mul_le_mul_of_nonneg_right v1 (Rat.le_of_lt dp)
  have y0 : 0 ≤ z := Rat.intCast_le_intCast.mp z0
  have y1 : z ≤ ((2 ^ m : Nat) : Int) * D := Rat.intCast_le_intCast.mp z1
  have r := is_den (a := a) (b := a + m) h hD hb (by
    have m0 : 0 < ((2 ^ m : Nat) : Int) := Int.ofNat_lt.mpr (Nat.two_pow_pos m)
    have e : (((2 ^ (a + m) : Nat)) : Int) = ((2 ^ m : Nat) : Int) * ((2 ^ a : Nat) : Int) := by
      rw [← Int.natCast_mul, ← Nat.pow_add, Nat.add_comm]
    have e2 : ((2 ^ a : Nat) : Int) = (2 : Int) ^ a := by simp
    have lt := Int.mul_lt_mul_of_pos_left (show D < ((2 ^ a : Nat) : Int) by rw [e2]; exact hb) m0
    have : (z.natAbs : Int) < ((2 ^ (a + m) : Nat) : Int) := by rw [e]; omega
    exact Int.ofNat_lt.mp this) hz
  rw [show max a (a + m) = a + m by omega] at r
  exact r
theorem sum_go {D : Int} {a b m : Nat} (hD : 0 < D) (hb : D < 2 ^ a) (ha : a + m + b + 1 ≤ 8990) : ∀ (l : List Q2) (vs : List Rat) (q : Q2) (v : Rat), IsL b l vs → Shr D vs → Is (a + m) q v → Dn D v → 0 ≤ v → v + vs.sum ≤ ((2 ^ m : Nat) : Rat) →
    ∃ r, foldO (fun (i4 : Int × Int) (s2 : Int × Int) => ((N_plus s2 i4).bind fun total_5 => some total_5)) l q = some r ∧ foldO (fun (i4 : Int × Int) (s2 : Int × Int) => ((N__law_plus s2 i4).bind fun total_5 => some total_5)) l q = some r ∧ Is (a + m) r (v + vs.sum)
  | [], [], q, v, _, _, hq, _, _, _ => ⟨q, rfl, rfl, by show Is (a + m) q (v + 0); rw [show v + (0 : Rat) = v by grind]; exact hq⟩
  | p :: l, x :: vs, q, v, hl, hs, hq, hv, v0, ht => by
    rw [List.sum_cons] at ht
    have x0 := hs.nn x List.mem_cons_self
    have sn := (le_sum fun z hz => hs.nn z (List.mem_cons_of_mem _ hz)).1
    obtain ⟨r, r1, r2⟩ := pplus hq hl.1 (by omega)
    obtain ⟨r', r1', r2'⟩ := lplus hq hl.1 (by omega)
    have e : r' = r := r2'.uniq r2
    subst e
    have vd := hv.add (hs.dn x List.mem_cons_self)
    have le : v + x ≤ ((2 ^ m : Nat) : Rat) := Rat.le_trans (show v + x ≤ v + (x + vs.sum) by grind) ht
    have r3 := Dn.isM (m := m) r2 hD hb vd (by grind) le
    have ht' : v + x + vs.sum ≤ ((2 ^ m : Nat) : Rat) := by rw [show v + x + vs.sum = v + (x + vs.sum) by grind]; exact ht
    obtain ⟨t, t1, t2, t3⟩ := sum_go hD hb ha l vs r' (v + x) hl.2 ⟨fun z hz => hs.dn z (List.mem_cons_of_mem _ hz), fun z hz => hs.nn z (List.mem_cons_of_mem _ hz)⟩ r3 vd (by grind) ht'
    refine ⟨t, ?_, ?_, by rw [List.sum_cons, show v + (x + vs.sum) = v + x + vs.sum by grind]; exact t3⟩
    · show ((N_plus q p).bind fun total_5 => some total_5).bind (foldO _ l) = _
      rw [r1]
      exact t1
    · show ((N__law_plus q p).bind fun total_5 => some total_5).bind (foldO _ l) = _
      rw [r1']
      exact t2
  | [], _ :: _, _, _, h, _, _, _, _, _ => h.elim
  | _ :: _, [], _, _, h, _, _, _, _, _ => h.elim
theorem sums_ok {D : Int} {a b m : Nat} (hD : 0 < D) (hb : D < 2 ^ a) (ha : a + m + b + 1 ≤ 8990) (h0 : 0 < a) {l : List Q2} {vs : List Rat} (hl : IsL b l vs) (hs : Shr D vs) (ht : vs.sum ≤ ((2 ^ m : Nat) : Rat)) :
    ∃ r, N_sum_of_ratios l = some r ∧ N_sum_of_ratios_1 l = some r ∧ N__law_sum l = some r ∧ Is (a + m) r vs.sum := by
  have z : ((0 : Int) : Rat) = 0 := rfl
  have zi : Is (a + m) ((0 : Int), (1 : Int)) ((0 : Int) : Rat) := is_int (by simpa using Nat.two_pow_pos (a + m)) (by omega)
  rw [z] at zi
  have e : (0 : Rat) + vs.sum = vs.sum := by grind
  obtain ⟨r, r1, r2, r3⟩ := sum_go hD hb ha l vs _ 0 hl hs zi (Dn.zero D) Rat.le_refl (by rw [e]; exact ht)
  rw [e] at r3
  refine ⟨r, ?_, ?_, ?_, r3⟩
  · unfold N_sum_of_ratios
    rw [Option.bind_some, r1]
    rfl
  · unfold N_sum_of_ratios_1
    rw [Option.bind_some, r1]
    rfl
  · unfold N__law_sum
    rw [Option.bind_some]
    exact fold_bind r2 rfl
def crs (ns : List Int) (S : Int) : List Rat := ns.map fun x : Int => (x : Rat) / (S : Rat)
theorem div_sum (S : Int) (hS : 0 < S) : ∀ ns : List Int, (crs ns S).sum * (S : Rat) = (ns.sum : Rat)
  | [] => by
    show (0 : Rat) * (S : Rat) = ((0 : Int) : Rat)
    rw [Rat.zero_mul]
    rfl
  | x :: ns => by
    have i := div_sum S hS ns
    have d := cast_pos hS
    have k : (x : Rat) / (S : Rat) * (S : Rat) = (x : Rat) := Rat.div_mul_cancel (Rat.ne_of_gt d)
    show ((x : Rat) / (S : Rat) + (crs ns S).sum) * (S : Rat) = ((x + ns.sum : Int) : Rat)
    rw [Rat.intCast_add, ← i]
    grind
theorem crs_sum {ns : List Int} {S : Int} (hS : 0 < S) (h : ns.sum = S) : (crs ns S).sum = 1 := by
  have i := div_sum S hS ns
  rw [h] at i
  have d := cast_pos hS
  have k := Rat.mul_div_cancel (a := (crs ns S).sum) (Rat.ne_of_gt d)
  rw [i] at k
  rw [← k, Rat.div_def, Rat.mul_inv_cancel _ (Rat.ne_of_gt d)]
theorem chr_go {S : Int} (hS : 0 < S) (hS2 : S ≤ 60) : ∀ ns : List Int, (∀ x ∈ ns, 0 ≤ x ∧ x ≤ S) → Chr S (ns.map fun x => rt x S) (crs ns S)
  | [], _ => ⟨trivial, ⟨fun x hx => (nomatch hx), fun x hx => (nomatch hx)⟩⟩
  | x :: ns, h => by
    have i := chr_go hS hS2 ns fun y hy => h y (List.mem_cons_of_mem _ hy)
    obtain ⟨x0, x1⟩ := h x List.mem_cons_self
    have d := cast_pos hS
    have k : (x : Rat) / (S : Rat) * (S : Rat) = (x : Rat) := Rat.div_mul_cancel (Rat.ne_of_gt d)
    have sz : Sz 6 (rt x S) := rt_sz hS (by omega) (by omega)
    have nn : (0 : Rat) ≤ (x : Rat) / (S : Rat) := by
      rw [Rat.div_def]
      exact Rat.mul_nonneg (Rat.intCast_nonneg.mpr x0) (Rat.le_of_lt (Rat.inv_pos.mpr d))
    refine ⟨⟨⟨sz, rt_val hS⟩, i.isl⟩, ⟨fun y hy => ?_, fun y hy => ?_⟩⟩ <;> rcases List.mem_cons.mp hy with e | e
    · rw [e]; exact ⟨x, k⟩
    · exact i.sh.dn y e
    · rw [e]; exact nn
    · exact i.sh.nn y e
theorem Chn.chr {l : List Q2} {ns : List Int} {S : Int} (h : Chn l ns S) : Chr S l (crs ns S) ∧ (crs ns S).sum = 1 ∧ l.length = ns.length := by
  refine ⟨?_, crs_sum h.pos h.sum, by rw [h.eq, List.length_map]⟩
  rw [h.eq]
  refine chr_go h.pos (by have := h.top; omega) ns fun x hx => ⟨h.nn x hx, ?_⟩
  have := sum_le h.nn x hx
  rw [h.sum] at this
  exact this
theorem chances_ok {l : List Q2} {ns : List Int} {S : Int} (h : Chn l ns S) : N_is_chances l = some true := by
  obtain ⟨c1, c2, c3⟩ := Chn.chr h
  have h1 := h.len; have h2 := h.pos; have h3 := h.top
  obtain ⟨r, _, r2, _, r3⟩ := sums_ok (m := 0) h.pos (show S < 2 ^ 6 by omega) (by decide) (by decide) c1.isl c1.sh (by rw [c2]; exact Rat.le_refl)
  rw [c2] at r3
  have o : r = ((1 : Int), (1 : Int)) := r3.uniq (is_int (i := 1) (n := 6) (by decide) (by decide))
  subst o
  unfold N_is_chances
  rw [c3]
  have k : (!(true && (decide ((2 : Int) ≤ ((ns).length : Int)) && decide (((ns).length : Int) ≤ (6 : Int))))) = false := by
    rw [decide_eq_true (by omega), decide_eq_true (by omega)]
    rfl
  rw [k]
  refine Ty.iteF rfl ?_
  rw [row_true c1.isl (fun p hp => c1.sh.nn p hp) c3]
  have any : compL (fun (i6 : (Int × Int)) => (some true)) (fun (i6 : (Int × Int)) => (some (decide ((100 : Int) < i6.2)))) l = some (l.map fun i => decide ((100 : Int) < i.2)) := compL_all (by omega) fun _ _ => rfl
  rw [any]
  have no : List.any (l.map fun i => decide ((100 : Int) < i.2)) id = false := by
    rw [List.any_map]
    refine List.any_eq_false.mpr fun q hq => ?_
    obtain ⟨v, _, v2⟩ := isL_mem c1.isl q hq
    have := v2.sz.bot
    have := v2.sz.pos
    have e6 : (2 : Nat) ^ 6 = 64 := by decide
    show ¬ (decide ((100 : Int) < q.2)) = true
    rw [decide_eq_true_eq]
    omega
  simp only [Option.bind_some]
  rw [no]
  refine Ty.iteF rfl ?_
  rw [r2]
  rfl
theorem check_ok {p : PondT} (hp : PondIn p) {l : List Q2} {ns : List Int} {S : Int} (h : Chn l ns S) : N_check_pond_and_chances p l = some () := by
  have c0 := hp.c0; have c1 := hp.c1; have r0 := hp.r0; have r1 := hp.r1
  have e : N_check_pond p = some () := by
    unfold N_check_pond N_is_pond
    have : andO (N_is_between p.1 (1 : Int) (8 : Int)) (N_is_between p.2 (1 : Int) p.1) = some true := by
      rw [between_ok, between_ok, decide_eq_true c0, decide_eq_true c1, decide_eq_true r0, decide_eq_true r1]
      rfl
    rw [this]
    rfl
  have e2 : N_check_chances l = some () := by
    unfold N_check_chances
    rw [chances_ok h]
    rfl
  unfold N_check_pond_and_chances
  rw [e, Option.bind_some, e2]
  rfl
theorem level_ok {p : PondT} {l : Int} (h0 : 0 ≤ l) (h1 : l ≤ p.1 - p.2) : N_check_level p l = some () := by
  unfold N_check_level N_count_of_levels
  simp only [Option.bind_some]
  rw [between_ok, decide_eq_true h0, decide_eq_true (by omega)]
  rfl
def sm : Nat → (Nat → Rat) → Rat
  | 0, _ => 0
  | n + 1, f => sm n f + f n
theorem sm_congr {f g : Nat → Rat} : ∀ {n : Nat}, (∀ i, i < n → f i = g i) → sm n f = sm n g
  | 0, _ => rfl
  | n + 1, h => by
    show sm n f + f n = sm n g + g n
    rw [sm_congr fun i hi => h i (by omega), h n (by omega)]
theorem sm_add (f g : Nat → Rat) : ∀ n, sm n (fun i => f i + g i) = sm n f + sm n g
  | 0 => by show (0 : Rat) = 0 + 0; grind
  | n + 1 => by
    show sm n (fun i => f i + g i) + (f n + g n) = (sm n f + f n) + (sm n g + g n)
    rw [sm_add f g n]
    grind
theorem sm_mul (c : Rat) (f : Nat → Rat) : ∀ n, sm n (fun i => c * f i) = c * sm n f
  | 0 => by show (0 : Rat) = c * 0; grind
  | n + 1 => by
    show sm n (fun i => c * f i) + c * f n = c * (sm n f + f n)
    rw [sm_mul c f n]
    grind
theorem sm_zero : ∀ n, sm n (fun _ => 0) = 0
  | 0 => rfl
  | n + 1 => by show sm n (fun _ => 0) + 0 = 0; rw [sm_zero n]; grind
theorem sm_one {j : Nat} {x : Rat} : ∀ {n}, sm n (fun i => if i = j then x else 0) = if j < n then x else 0
  | 0 => rfl
  | n + 1 => by
    show sm n (fun i => if i = j then x else 0) + (if n = j then x else 0) = _
    rw [sm_one (n := n)]
    by_cases a : n = j
    · subst a
      rw [if_neg (Nat.lt_irrefl _), if_pos rfl, if_pos (by omega)]
      grind
    · by_cases b : j < n
      · rw [if_pos b, if_neg a, if_pos (by omega)]
        grind
      · rw [if_neg b, if_neg a, if_neg (by omega)]
        grind
abbrev gt (r : List Rat) (i : Nat) : Rat := r.getD i 0
def dt (n : Nat) (r : List Rat) (z : Nat → Rat) : Rat := sm (n + 1) fun i => gt r i * z i
def wo (p : Nat) (sol r : List Rat) : List Rat := if gt r p = 0 then r else List.zipWith (fun a b => a - gt r p * b) r sol
theorem zip_get (c : Rat) : ∀ (r s : List Rat), r.length = s.length → ∀ j, gt (List.zipWith (fun a b => a - c * b) r s) j = gt r j - c * gt s j
  | [], [], _, j => by
    show (0 : Rat) = 0 - c * 0
    grind
  | a :: r, b :: s, _, 0 => rfl
  | a :: r, b :: s, h, j + 1 => zip_get c r s (by simpa using h) j
theorem wo_get {p : Nat} {sol r : List Rat} (h : r.length = sol.length) (j : Nat) : gt (wo p sol r) j = gt r j - gt r p * gt sol j := by
  unfold wo
  split
  · rename_i c
    rw [c]
    grind
  · exact zip_get _ r sol h j
theorem wo_len {p : Nat} {sol r : List Rat} (h : r.length = sol.length) : (wo p sol r).length = r.length := by
  unfold wo
  split
  · rfl
  · rw [List.length_zipWith, h, Nat.min_self]
theorem div_get (c : Rat) : ∀ (r : List Rat) (j : Nat), gt (r.map (· / c)) j = gt r j / c
  | [], j => by
    show (0 : Rat) = 0 / c
    rw [Rat.div_def, Rat.zero_mul]
  | a :: r, 0 => rfl
  | a :: r, j + 1 => div_get c r j
theorem dt_wo {n p : Nat} {sol r : List Rat} (h : r.length = sol.length) (z : Nat → Rat) : dt n (wo p sol r) z = dt n r z - gt r p * dt n sol z := by
  unfold dt
  have e : sm (n + 1) (fun i => gt (wo p sol r) i * z i) = sm (n + 1) (fun i => gt r i * z i + (-(gt r p)) * (gt sol i * z i)) := sm_congr fun i _ => by
    rw [wo_get h]
    grind
  rw [e, sm_add, sm_mul]
  grind
theorem dt_div {n : Nat} {c : Rat} (r : List Rat) (z : Nat → Rat) : dt n (r.map (· / c)) z = dt n r z / c := by
  unfold dt
  have e : sm (n + 1) (fun i => gt (r.map (· / c)) i * z i) = sm (n + 1) (fun i => c⁻¹ * (gt r i * z i)) := sm_congr fun i _ => by
    rw [div_get, Rat.div_def]
    grind
  rw [e, sm_mul, Rat.div_def, Rat.mul_comm]
structure EInv (n : Nat) (A : List (List Rat)) (k : Nat) (rows done : List (List Rat)) : Prop where
  kn : k ≤ n
  len : rows.length + k = n
  dl : done.length = k
  rl : ∀ r ∈ rows, r.length = n + 1
  dr : ∀ r ∈ done, r.length = n + 1
  ke : ∀ z : Nat → Rat, (∀ r ∈ rows, dt n r z = 0) → (∀ r ∈ done, dt n r z = 0) → ∀ r ∈ A, dt n r z = 0
  un : ∀ i j, i < k → j < k → gt (done.getD i []) j = if i = j then 1 else 0
  ze : ∀ r ∈ rows, ∀ j, j < k → gt r j = 0
theorem EInv.step {n : Nat} {A : List (List Rat)} {k : Nat} {rows done : List (List Rat)} (I : EInv n A k rows done) {j : Nat} (hj : j < rows.length) (hc : gt rows[j] k ≠ 0) :
    EInv n A (k + 1) ((rows.eraseIdx j).map (wo k (rows[j].map (· / gt rows[j] k)))) (done.map (wo k (rows[j].map (· / gt rows[j] k))) ++ [rows[j].map (· / gt rows[j] k)]) := by
  have cm : rows[j] ∈ rows := List.getElem_mem hj
  have cl := I.rl _ cm
  have sl : (rows[j].map (· / gt rows[j] k)).length = n + 1 := by rw [List.length_map]; exact cl
  have len := I.len
  have sub : ∀ r ∈ rows.eraseIdx j, r ∈ rows := fun r hr => (List.eraseIdx_sublist rows j).subset hr
  have sk : gt (rows[j].map (· / gt rows[j] k)) k = 1 := by
    rw [div_get, Rat.div_def, Rat.mul_inv_cancel _ hc]
  have sz : ∀ i, i < k → gt (rows[j].map (· / gt rows[j] k)) i = 0 := fun i hi => by
    rw [div_get, I.ze _ cm i hi, Rat.div_def, Rat.zero_mul]
  refine ⟨by omega, ?_, ?_, ?_, ?_, ?_, ?_, ?_⟩
  · rw [List.length_map, List.length_eraseIdx, if_pos hj]
    omega
  · rw [List.length_append, List.length_map, I.dl, List.length_singleton]
  · intro r hr
    obtain ⟨u, hu, rfl⟩ := List.mem_map.mp hr
    have := I.rl u (sub u hu)
    rw [wo_len (by rw [sl]; exact this)]
    exact this
  · intro r hr
    rcases List.mem_append.mp hr with q | q
    · obtain ⟨u, hu, rfl⟩ := List.mem_map.mp q
      have := I.dr u hu
      rw [wo_len (by rw [sl]; exact this)]
      exact this
    · rw [List.mem_singleton.mp q]
      exact sl
  · intro z h1 h2
    have s0 : dt n (rows[j].map (· / gt rows[j] k)) z = 0 := h2 _ (List.mem_append_right _ List.mem_cons_self)
    have c0 : dt n rows[j] z = 0 := by
      rw [dt_div, Rat.div_def] at s0
      rcases Rat.mul_eq_zero.mp s0 with q | q
      · exact q
      · have := Rat.mul_inv_cancel _ hc
        rw [q, Rat.mul_zero] at this
        exact absurd this (by decide)
    refine I.ke z (fun r hr => ?_) (fun r hr => ?_)
    · by_cases e : r = rows[j]
      · rw [e]; exact c0
      · have : r ∈ rows.eraseIdx j := by
          obtain ⟨i, hi, rfl⟩ := List.getElem_of_mem hr
          have hij : i ≠ j := fun z => by subst z; exact e rfl
          exact List.mem_eraseIdx_iff_getElem.mpr ⟨i, hi, hij, rfl⟩
        have g := h1 _ (List.mem_map_of_mem (f := wo k (rows[j].map (· / gt rows[j] k))) this)
        rw [dt_wo (by rw [sl]; exact I.rl r hr), s0] at g
        grind
    · have g := h2 _ (List.mem_append_left _ (List.mem_map_of_mem (f := wo k (rows[j].map (· / gt rows[j] k))) hr))
      rw [dt_wo (by rw [sl]; exact I.dr r hr), s0] at g
      grind
  · intro i l hi hl
    have dl := I.dl
    by_cases c : i < k
    · have e : (done.map (wo k (rows[j].map (· / gt rows[j] k))) ++ [rows[j].map (· / gt rows[j] k)]).getD i [] = wo k (rows[j].map (· / gt rows[j] k)) (done.getD i []) := by
        have hi' : i < done.length := by omega
        simp [List.getD, List.getElem?_append, hi']
      have hd : (done.getD i []).length = n + 1 := by
        have hi' : i < done.length := by omega
        have : done.getD i [] = done[i] := by simp [List.getD, hi']
        rw [this]
        exact I.dr _ (List.getElem_mem hi')
      rw [e, wo_get (by rw [sl]; exact hd)]
      by_cases c2 : l < k
      · rw [sz l c2, I.un i l c c2]
        grind
      · have : l = k := by omega
        subst this
        rw [sk, if_neg (by omega)]
        grind
    · have : i = k := by omega
      subst this
      have e : (done.map (wo i (rows[j].map (· / gt rows[j] i))) ++ [rows[j].map (· / gt rows[j] i)]).getD i [] = rows[j].map (· / gt rows[j] i) := by
        simp [List.getD, List.getElem?_append, dl]
      rw [e]
      by_cases c2 : l < i
      · rw [sz l c2, if_neg (by omega)]
      · have : l = i := by omega
        subst this
        rw [sk, if_pos rfl]
  · intro r hr l hl
    obtain ⟨u, hu, rfl⟩ := List.mem_map.mp hr
    have hu' := sub u hu
    rw [wo_get (by rw [sl]; exact I.rl u hu')]
    by_cases c2 : l < k
    · rw [sz l c2, I.ze u hu' l c2]
      grind
    · have : l = k := by omega
      subst this
      rw [sk]
      grind
theorem dt_two {n : Nat} (r : List Rat) {i p : Nat} (hi : i < n + 1) (hp : p < n + 1) (hip : i ≠ p) (z : Nat → Rat) (h : ∀ l, l < n + 1 → l ≠ i → l ≠ p → gt r l * z l = 0) : dt n r z = gt r i * z i + gt r p * z p := by
  unfold dt
  have e : sm (n + 1) (fun l => gt r l * z l) = sm (n + 1) (fun l => (if l = i then gt r i * z i else 0) + (if l = p then gt r p * z p else 0)) := sm_congr fun l hl => by
    by_cases a : l = i
    · subst a
      rw [if_pos rfl, if_neg hip]
      grind
    · by_cases b : l = p
      · subst b
        rw [if_neg a, if_pos rfl]
        grind
      · rw [if_neg a, if_neg b, h l hl a b]
        grind
  rw [e, sm_add, sm_one, sm_one, if_pos hi, if_pos hp]
theorem EInv.pivot {n : Nat} {A : List (List Rat)} {k : Nat} {rows done : List (List Rat)} (I : EInv n A k rows done) (hk : k < n)
    (hK : ∀ z : Nat → Rat, z n = 0 → (∀ r ∈ A, dt n r z = 0) → ∀ i, i < n → z i = 0) : ∃ r ∈ rows, gt r k ≠ 0 := by
  rcases Classical.em (∃ r ∈ rows, gt r k ≠ 0) with q | q
  · exact q
  · exfalso
    have all0 : ∀ r ∈ rows, gt r k = 0 := fun r hr => Classical.byContradiction fun c => q ⟨r, hr, c⟩
    let z : Nat → Rat := fun i => if i < k then -(gt (done.getD i []) k) else if i = k then 1 else 0
    have zk : z k = 1 := by show (if k < k then _ else if k = k then (1 : Rat) else 0) = 1; rw [if_neg (Nat.lt_irrefl _), if_pos rfl]
    have zn : z n = 0 := by show (if n < k then _ else if n = k then (1 : Rat) else 0) = 0; rw [if_neg (by omega), if_neg (by omega)]
    have zl : ∀ l, k < l → z l = 0 := fun l hl => by show (if l < k then _ else if l = k then (1 : Rat) else 0) = 0; rw [if_neg (by omega), if_neg (by omega)]
    have h1 : ∀ r ∈ rows, dt n r z = 0 := fun r hr => by
      unfold dt
      have e : sm (n + 1) (fun l => gt r l * z l) = sm (n + 1) (fun _ => 0) := sm_congr fun l hl => by
        rcases Nat.lt_trichotomy l k with c | c | c
        · rw [I.ze r hr l c]; grind
        · rw [c, all0 r hr]; grind
        · rw [zl l c]; grind
      rw [e, sm_zero]
    have h2 : ∀ r ∈ done, dt n r z = 0 := fun r hr => by
      obtain ⟨i, hi, rfl⟩ := List.getElem_of_mem hr
      have hi' : i < k := by have := I.dl; omega
      have eg : done.getD i [] = done[i] := by simp [List.getD, hi]
      have u := I.un i
      rw [eg] at u
      rw [dt_two done[i] (i := i) (p := k) (by omega) (by omega) (by omega) z (fun l hl a b => by
        rcases Nat.lt_trichotomy l k with c | c | c
        · rw [u l hi' c, if_neg (by omega)]; grind
        · exact absurd c b
        · rw [zl l c]; grind), u i hi' hi', if_pos rfl, zk]
      have : z i = -(gt done[i] k) := by
        show (if i < k then -(gt (done.getD i []) k) else if i = k then (1 : Rat) else 0) = _
        rw [if_pos hi', eg]
      rw [this]
      grind
    have := hK z zn (I.ke z h1 h2) k hk
    rw [zk] at this
    exact absurd this (by decide)
theorem EInv.sol {n : Nat} {A : List (List Rat)} {rows done : List (List Rat)} (I : EInv n A n rows done) : ∀ r ∈ A, sm n (fun i => gt r i * gt (done.map fun d => gt d n) i) = gt r n := by
  have r0 : rows = [] := List.eq_nil_of_length_eq_zero (by have := I.len; omega)
  let z : Nat → Rat := fun i => if i < n then gt (done.map fun d => gt d n) i else if i = n then -1 else 0
  have zn : z n = -1 := by show (if n < n then _ else if n = n then (-1 : Rat) else 0) = -1; rw [if_neg (Nat.lt_irrefl _), if_pos rfl]
  have zi : ∀ i, i < n → z i = gt (done.map fun d => gt d n) i := fun i hi => by show (if i < n then _ else _) = _; rw [if_pos hi]
  have h2 : ∀ r ∈ done, dt n r z = 0 := fun r hr => by
    obtain ⟨i, hi, rfl⟩ := List.getElem_of_mem hr
    have hi' : i < n := by have := I.dl; omega
    have eg : done.getD i [] = done[i] := by simp [List.getD, hi]
    have u := I.un i
    rw [eg] at u
    rw [dt_two done[i] (i := i) (p := n) (by omega) (by omega) (by omega) z (fun l hl a b => by
      rw [u l hi' (by omega), if_neg (by omega)]; grind), u i hi' hi', if_pos rfl, zn, zi i hi']
    have : gt (done.map fun d => gt d n) i = gt done[i] n := by simp [gt, List.getD, hi]
    rw [this]
    grind
  intro r hr
  have e := I.ke z (fun r hr => by rw [r0] at hr; cases hr) h2 r hr
  unfold dt at e
  have e2 : sm (n + 1) (fun i => gt r i * z i) = sm n (fun i => gt r i * z i) + gt r n * z n := rfl
  rw [e2, zn, sm_congr (g := fun i => gt r i * gt (done.map fun d => gt d n) i) fun i hi => by rw [zi i hi]] at e
  grind
theorem sm_le {f g : Nat → Rat} : ∀ {n : Nat}, (∀ i, i < n → f i ≤ g i) → sm n f ≤ sm n g
  | 0, _ => Rat.le_refl
  | n + 1, h => by
    have a := sm_le fun i (hi : i < n) => h i (by omega)
    have b := h n (by omega)
    show sm n f + f n ≤ sm n g + g n
    grind
theorem sm_eq_of {f g : Nat → Rat} : ∀ {n : Nat}, (∀ i, i < n → f i ≤ g i) → sm n f = sm n g → ∀ i, i < n → f i = g i
  | 0, _, _, i, hi => by omega
  | n + 1, h, e, i, hi => by
    have a := sm_le fun i (hi : i < n) => h i (by omega)
    have b := h n (by omega)
    have e' : sm n f + f n = sm n g + g n := e
    have e1 : sm n f = sm n g := by grind
    by_cases c : i = n
    · subst c; grind
    · exact sm_eq_of (fun i hi => h i (by omega)) e1 i (by omega)
theorem sm_nn {f : Nat → Rat} {n : Nat} (h : ∀ i, i < n → 0 ≤ f i) : 0 ≤ sm n f := by
  have := sm_le (f := fun _ => 0) (g := f) h
  rw [sm_zero] at this
  exact this
theorem sm_zero_of {f : Nat → Rat} {n : Nat} (h : ∀ i, i < n → 0 ≤ f i) (e : sm n f = 0) : ∀ i, i < n → f i = 0 := fun i hi => by
  have := sm_eq_of (f := fun _ => 0) (g := f) h (by rw [sm_zero, e]) i hi
  exact this.symm
theorem sm_swap (f : Nat → Nat → Rat) (m : Nat) : ∀ n, sm n (fun i => sm m fun j => f i j) = sm m fun j => sm n fun i => f i j
  | 0 => by show (0 : Rat) = sm m fun _ => 0; rw [sm_zero]
  | n + 1 => by
    show sm n (fun i => sm m fun j => f i j) + sm m (fun j => f n j) = sm m fun j => (sm n fun i => f i j) + f n j
    rw [sm_swap f m n, sm_add]
structure Mk (n : Nat) (T : Nat → Nat → Rat) : Prop where
  nn : ∀ l j, l < n → j < n → 0 ≤ T l j
  rs : ∀ l, l < n → sm n (T l) = 1
  dn : ∀ l, 0 < l → l < n → ∃ j, j < l ∧ 0 < T l j
def ab (x : Rat) : Rat := if 0 ≤ x then x else -x
theorem ab_le (x : Rat) : x ≤ ab x ∧ -x ≤ ab x ∧ 0 ≤ ab x := by
  unfold ab
  split <;> refine ⟨?_, ?_, ?_⟩ <;> grind
def Stay (n : Nat) (T : Nat → Nat → Rat) (z : Nat → Rat) : Prop := ∀ j, j < n → z j = sm n fun l => z l * T l j
theorem Stay.neg {n : Nat} {T : Nat → Nat → Rat} {z : Nat → Rat} (h : Stay n T z) : Stay n T fun i => -(z i) := fun j hj => by
  show -(z j) = _
  rw [h j hj]
  have : sm n (fun l => -(z l) * T l j) = sm n (fun l => (-1) * (z l * T l j)) := sm_congr fun l _ => by grind
  rw [this, sm_mul]
  grind
theorem Stay.abs {n : Nat} {T : Nat → Nat → Rat} (M : Mk n T) {z : Nat → Rat} (h : Stay n T z) : ∀ j, j < n → ab (z j) = sm n fun l => ab (z l) * T l j := by
  have le : ∀ j, j < n → ab (z j) ≤ sm n fun l => ab (z l) * T l j := fun j hj => by
    have a : z j ≤ sm n fun l => ab (z l) * T l j := by
      rw [h j hj]
      exact sm_le fun l hl => Rat.mul_le_mul_of_nonneg_right (ab_le (z l)).1 (M.nn l j hl hj)
    have b : -(z j) ≤ sm n fun l => ab (z l) * T l j := by
      have e := h.neg j hj
      have e' : -(z j) = sm n fun l => -(z l) * T l j := e
      rw [e']
      exact sm_le fun l hl => Rat.mul_le_mul_of_nonneg_right (ab_le (z l)).2.1 (M.nn l j hl hj)
    show (if 0 ≤ z j then z j else -(z j)) ≤ _
    split
    · exact a
    · exact b
  refine sm_eq_of le ?_
  rw [← sm_swap (fun l j => ab (z l) * T l j) n n]
  refine sm_congr fun l hl => ?_
  rw [sm_mul, M.rs l hl]
  grind
theorem Stay.sign {n : Nat} {T : Nat → Nat → Rat} (M : Mk n T) {z : Nat → Rat} (h : Stay n T z) (z0 : 0 ≤ z 0) : ∀ l, l < n → 0 ≤ z l := by
  intro l
  induction l using Nat.strongRecOn with
  | _ l ih =>
    intro hl
    by_cases c : l = 0
    · subst c; exact z0
    · obtain ⟨j, j1, j2⟩ := M.dn l (by omega) hl
      have jz := ih j j1 (by omega)
      have a := h.abs M j (by omega)
      have b := h j (by omega)
      have e : ab (z j) = z j := by unfold ab; rw [if_pos jz]
      rw [e] at a
      have s : sm n (fun m => (ab (z m) - z m) * T m j) = 0 := by
        have : sm n (fun m => (ab (z m) - z m) * T m j) = sm n (fun m => ab (z m) * T m j + (-1) * (z m * T m j)) := sm_congr fun m _ => by grind
        rw [this, sm_add, sm_mul, ← a, ← b]
        grind
      have zero := sm_zero_of (fun m hm => Rat.mul_nonneg (by have := (ab_le (z m)).1; grind) (M.nn m j hm (by omega))) s l hl
      rcases Rat.mul_eq_zero.mp zero with q | q
      · have := (ab_le (z l)).2.2
        grind
      · rw [q] at j2
        exact absurd j2 Rat.lt_irrefl
theorem Stay.zero {n : Nat} {T : Nat → Nat → Rat} (M : Mk n T) {z : Nat → Rat} (h : Stay n T z) (s : sm n z = 0) : ∀ l, l < n → z l = 0 := by
  rcases Rat.le_total (a := 0) (b := z 0) with c | c
  · exact sm_zero_of (h.sign M c) s
  · have k := h.neg.sign M (by show 0 ≤ -(z 0); grind)
    have s' : sm n (fun i => -(z i)) = 0 := by
      have : sm n (fun i => -(z i)) = sm n (fun i => (-1) * z i) := sm_congr fun i _ => by grind
      rw [this, sm_mul, s]
      grind
    intro l hl
    have := sm_zero_of k s' l hl
    grind
theorem Stay.pos {n : Nat} {T : Nat → Nat → Rat} (M : Mk n T) {z : Nat → Rat} (h : Stay n T z) (s : sm n z = 1) : ∀ l, l < n → 0 ≤ z l := by
  rcases Rat.le_total (a := 0) (b := z 0) with c | c
  · exact h.sign M c
  · exfalso
    have k := h.neg.sign M (by show 0 ≤ -(z 0); grind)
    have := sm_nn k
    have e : sm n (fun i => -(z i)) = -1 := by
      have : sm n (fun i => -(z i)) = sm n (fun i => (-1) * z i) := sm_congr fun i _ => by grind
      rw [this, sm_mul, s]
      grind
    rw [e] at this
    exact absurd this (by decide)
end Po
namespace Ty
open PySem PySem.Spec PyProof.Rows L2 DN
theorem is_zero {n : Nat} {p : Q2} {v : Rat} (h : Is n p v) : p = ((0 : Int), (1 : Int)) ↔ v = 0 := by
  have h0 : Is 10 ((0 : Int), (1 : Int)) ((0 : Int) : Rat) := is_int10 (by decide)
  constructor
  · intro e
    subst e
    have := h.eq.symm.trans h0.eq
    exact this
  · intro e
    subst e
    exact h.uniq h0
end Ty
namespace Po
open PySem PySem.Spec PyProof.Rows L2 DN Ty
structure RowQ (D B : Int) (row : List Q2) (rs : List Rat) : Prop where
  isl : ∃ m, IsL m row rs
  de : ∀ x ∈ rs, ∃ i : Int, x * (D : Rat) = (i : Rat) ∧ -B ≤ i ∧ i ≤ B
theorem nat_lt {z B : Int} {b : Nat} (h0 : -B ≤ z) (h1 : z ≤ B) (h : B < 2 ^ b) : z.natAbs < 2 ^ b := by
  have e : (((2 ^ b : Nat)) : Int) = (2 : Int) ^ b := by simp
  have : (z.natAbs : Int) < ((2 ^ b : Nat) : Int) := by rw [e]; omega
  exact Int.ofNat_lt.mp this
theorem isl_den {D B : Int} {b : Nat} (hD : 0 < D) (hDB : D ≤ B) (hB : B < 2 ^ b) : ∀ {row : List Q2} {rs : List Rat}, RowQ D B row rs → IsL b row rs
  | [], [], _ => trivial
  | q :: row, x :: rs, h => by
    obtain ⟨m, hm⟩ := h.isl
    obtain ⟨i, h1, h2, h3⟩ := h.de x List.mem_cons_self
    have r := is_den (a := b) (b := b) hm.1 hD (by omega) (nat_lt h2 h3 hB) h1
    rw [Nat.max_self] at r
    exact ⟨r, isl_den hD hDB hB ⟨⟨m, hm.2⟩, fun y hy => h.de y (List.mem_cons_of_mem _ hy)⟩⟩
  | [], _ :: _, h => by obtain ⟨m, hm⟩ := h.isl; exact hm.elim
  | _ :: _, [], h => by obtain ⟨m, hm⟩ := h.isl; exact hm.elim
def Rws (D B : Int) : List (List Q2) → List (List Rat) → Prop
  | r :: rows, s :: rss => RowQ D B r s ∧ Rws D B rows rss
  | [], [] => True
  | _, _ => False
theorem Rws.len {D B : Int} : ∀ {a : List (List Q2)} {s : List (List Rat)}, Rws D B a s → a.length = s.length
  | [], [], _ => rfl
  | _ :: _, _ :: _, h => by rw [List.length_cons, List.length_cons, Rws.len h.2]
  | [], _ :: _, h => h.elim
  | _ :: _, [], h => h.elim
theorem Rws.erase {D B : Int} : ∀ {a : List (List Q2)} {s : List (List Rat)} (j : Nat), Rws D B a s → Rws D B (a.eraseIdx j) (s.eraseIdx j)
  | [], [], _, _ => trivial
  | _ :: _, _ :: _, 0, h => h.2
  | _ :: _, _ :: _, j + 1, h => ⟨h.1, Rws.erase j h.2⟩
  | [], _ :: _, _, h => h.elim
  | _ :: _, [], _, h => h.elim
theorem Rws.get {D B : Int} : ∀ {a : List (List Q2)} {s : List (List Rat)} (j : Nat) (h1 : j < a.length) (h2 : j < s.length), Rws D B a s → RowQ D B a[j] s[j]
  | _ :: _, _ :: _, 0, _, _, h => h.1
  | _ :: _, _ :: _, j + 1, h1, h2, h => Rws.get j (by simpa using h1) (by simpa using h2) h.2
  | [], _, _, h, _, _ => by simp at h
  | _ :: _, [], _, _, h, _ => by simp at h
theorem Rws.app {D B : Int} : ∀ {a b : List (List Q2)} {s t : List (List Rat)}, Rws D B a s → Rws D B b t → Rws D B (a ++ b) (s ++ t)
  | [], _, [], _, _, h => h
  | _ :: _, _, _ :: _, _, h, k => ⟨h.1, Rws.app h.2 k⟩
  | [], _, _ :: _, _, h, _ => h.elim
  | _ :: _, _, [], _, h, _ => h.elim
theorem Rws.map {D B D' B' : Int} {F : List Q2 → Option (List Q2)} {g : List Rat → List Rat} {n : Nat} (hF : ∀ r s, RowQ D B r s → s.length = n → ∃ r', F r = some r' ∧ RowQ D' B' r' (g s)) : ∀ {a : List (List Q2)} {s : List (List Rat)}, Rws D B a s → (∀ r ∈ s, r.length = n) → ∃ a', compO (fun (_ : List Q2) => (some true)) F a = some a' ∧ Rws D' B' a' (s.map g)
  | [], [], _, _ => ⟨[], rfl, trivial⟩
  | r :: a, s :: ss, h, hl => by
    obtain ⟨a', e, k⟩ := Rws.map hF h.2 fun u hu => hl u (List.mem_cons_of_mem _ hu)
    obtain ⟨r', f, m⟩ := hF r s h.1 (hl s List.mem_cons_self)
    refine ⟨r' :: a', ?_, m, k⟩
    show ((F r).bind fun y => (compO _ F a).bind fun ys => some (y :: ys)) = _
    rw [f, Option.bind_some, e]
    rfl
  | [], _ :: _, h, _ => h.elim
  | _ :: _, [], h, _ => h.elim
theorem pdiv {n m : Nat} {p q : Q2} {a b : Rat} (hp : Is n p a) (hq : Is m q b) (hb : b ≠ 0) (h : n + m ≤ 8990) : ∃ r, N_divided p q = some r ∧ Is (n + m) r (a / b) := by
  rcases Rat.le_total (a := 0) (b := b) with c | c
  · exact pdivided hp hq (by grind) h
  · have hn := is_neg hq
    have nb : 0 < -b := by grind
    obtain ⟨r, r1, r2⟩ := pdivided hp hn nb h
    have hq1 : q.1 < 0 := (val_neg_iff hq.sz).mpr (by rw [hq.eq]; grind)
    have h1 := mul_bits hp.sz.top hq.sz.bot
    have h2 := mul_bits hp.sz.bot hq.sz.top
    have h3 : 0 < -(p.2 * q.1) := by
      have := Int.mul_neg_of_pos_of_neg hp.sz.pos hq1
      omega
    refine ⟨rt (-(p.1 * q.2)) (-(p.2 * q.1)), ?_, ?_⟩
    · unfold N_divided
      rw [mul_ok hp.sz.top hq.sz.bot (by omega), mul_ok hp.sz.bot hq.sz.top (by omega), Option.bind_some, Option.bind_some, decide_eq_false (by omega)]
      exact ratio_ok h3 (by rw [Int.natAbs_neg]; exact h2) (by omega)
    · refine ⟨rt_sz h3 (by rw [Int.natAbs_neg]; exact h1) (by rw [Int.natAbs_neg]; exact h2), ?_⟩
      rw [rt_val h3, ← hp.eq, ← hq.eq]
      have a := cast_ne hp.sz.pos
      have b := cast_ne hq.sz.pos
      have c : (q.1 : Rat) ≠ 0 := fun z => by
        have : q.1 = 0 := Rat.intCast_inj.mp z
        omega
      unfold val
      rw [Rat.intCast_neg, Rat.intCast_neg, Rat.intCast_mul, Rat.intCast_mul]
      grind
theorem abs_mul {a b B : Int} (ha : -B ≤ a ∧ a ≤ B) (hb : -B ≤ b ∧ b ≤ B) : -(B * B) ≤ a * b ∧ a * b ≤ B * B := by
  have h1 : (a * b).natAbs ≤ B.natAbs * B.natAbs := by
    rw [Int.natAbs_mul]
    exact Nat.mul_le_mul (by omega) (by omega)
  have e : ((B.natAbs * B.natAbs : Nat) : Int) = B * B := by
    rw [Int.natCast_mul]
    exact Int.natAbs_mul_self
  have h2 : ((a * b).natAbs : Int) ≤ B * B := by
    rw [← e]
    exact Int.ofNat_le.mpr h1
  omega
theorem div_row {D B : Int} {b : Nat} (hD : 0 < D) (hDB : D ≤ B) (hB : B < 2 ^ b) (hb : 3 * b + 1 ≤ 8990) {row : List Q2} {rs : List Rat} (h : RowQ D B row rs) {q : Q2} {c : Rat} (hq : Is b q c) (hc : c ≠ 0) {z : Int} (hz : c * (D : Rat) = (z : Rat)) (z0 : -B ≤ z ∧ z ≤ B) :
    ∃ sol, compO (fun (i19 : (Int × Int)) => (some true)) (fun (i19 : (Int × Int)) => ((some i19).bind fun a22 => (some q).bind fun a23 => N_divided a22 a23)) row = some sol ∧ IsL b sol (rs.map (· / c)) ∧ (∀ x ∈ rs.map (· / c), ∃ i : Int, x * (z : Rat) = (i : Rat) ∧ -B ≤ i ∧ i ≤ B) := by
  have hr := isl_den hD hDB hB h
  have dne : (D : Rat) ≠ 0 := Rat.ne_of_gt (cast_pos hD)
  have zne : (z : Rat) ≠ 0 := fun e => by
    rw [e] at hz
    rcases Rat.mul_eq_zero.mp hz with q | q
    · exact hc q
    · exact dne q
  have key : ∀ x ∈ rs, ∃ i : Int, x / c * (z : Rat) = (i : Rat) ∧ -B ≤ i ∧ i ≤ B := fun x hx => by
    obtain ⟨i, i1, i2, i3⟩ := h.de x hx
    refine ⟨i, ?_, i2, i3⟩
    rw [← i1, ← hz]
    grind
  have zi : z ≠ 0 := fun e => zne (by rw [e]; rfl)
  clear h
  induction row generalizing rs with
  | nil =>
    cases rs with
    | nil => exact ⟨[], rfl, trivial, fun x hx => nomatch hx⟩
    | cons y rs => exact hr.elim
  | cons p row ih =>
    cases rs with
    | nil => exact hr.elim
    | cons y rs =>
      obtain ⟨sol, s1, s2, s3⟩ := ih hr.2 fun x hx => key x (List.mem_cons_of_mem _ hx)
      obtain ⟨t, t1, t2⟩ := pdiv hr.1 hq hc (by omega)
      obtain ⟨i, i1, i2, i3⟩ := key y List.mem_cons_self
      have tb : Is b t (y / c) := by
        rcases Int.lt_or_gt_of_ne zi with w | w
        · have r := is_den (a := b) (b := b) t2 (D := -z) (z := -i) (by omega) (by omega) (nat_lt (by omega) (by omega) hB) (by rw [Rat.intCast_neg, Rat.intCast_neg, ← i1]; grind)
          rw [Nat.max_self] at r
          exact r
        · have r := is_den (a := b) (b := b) t2 (D := z) (z := i) (by omega) (by omega) (nat_lt i2 i3 hB) i1
          rw [Nat.max_self] at r
          exact r
      refine ⟨t :: sol, ?_, ⟨tb, s2⟩, fun x hx => ?_⟩
      · show ((N_divided p q).bind fun y => (compO _ _ row).bind fun ys => some (y :: ys)) = _
        rw [t1, Option.bind_some, s1]
        rfl
      · rcases List.mem_cons.mp hx with e | e
        · rw [e]; exact ⟨i, i1, i2, i3⟩
        · exact s3 x e
theorem sub_go {b : Nat} (hb : 3 * b + 1 ≤ 8990) {q : Q2} {c : Rat} (hq : Is b q c) : ∀ (row : List Q2) (rs : List Rat) (sol : List Q2) (ss : List Rat), IsL b row rs → IsL b sol ss → ∃ out, compO (fun (i7 : ((Int × Int) × (Int × Int))) => (some true)) (fun (i7 : ((Int × Int) × (Int × Int))) => ((some i7.1).bind fun a12 => ((some q).bind fun a10 => (some i7.2).bind fun a11 => N_times a10 a11).bind fun a13 => N_minus a12 a13)) (List.zip row sol) = some out ∧ IsL (3 * b + 1) out (List.zipWith (fun a b => a - c * b) rs ss)
  | [], [], [], [], _, _ => ⟨[], rfl, trivial⟩
  | [], [], _ :: _, _ :: _, _, _ => ⟨[], rfl, trivial⟩
  | _ :: _, _ :: _, [], [], _, _ => ⟨[], rfl, trivial⟩
  | p :: row, x :: rs, s :: sol, y :: ss, h, k => by
    obtain ⟨out, o1, o2⟩ := sub_go hb hq row rs sol ss h.2 k.2
    obtain ⟨t, t1, t2⟩ := ptimes hq k.1 (by omega)
    obtain ⟨u, u1, u2⟩ := pminus h.1 t2 (by omega)
    refine ⟨u :: out, ?_, u2.mono (by omega), o2⟩
    show (((N_times q s).bind fun a13 => N_minus p a13).bind fun y => (compO _ _ (List.zip row sol)).bind fun ys => some (y :: ys)) = _
    rw [t1, Option.bind_some, u1, Option.bind_some, o1]
    rfl
  | [], _ :: _, _, _, h, _ => h.elim
  | _ :: _, [], _, _, h, _ => h.elim
  | [], [], [], _ :: _, _, h => h.elim
  | [], [], _ :: _, [], _, h => h.elim
  | _ :: _, _ :: _, [], _ :: _, _, h => h.elim
  | _ :: _, _ :: _, _ :: _, [], _, h => h.elim
theorem zipw_mem {f : Rat → Rat → Rat} : ∀ {r s : List Rat} {x : Rat}, x ∈ List.zipWith f r s → ∃ a ∈ r, ∃ b ∈ s, x = f a b
  | [], _, _, h => by simp at h
  | _ :: _, [], _, h => by simp at h
  | a :: r, b :: s, x, h => by
    rcases List.mem_cons.mp h with e | e
    · exact ⟨a, List.mem_cons_self, b, List.mem_cons_self, e⟩
    · obtain ⟨a', h1, b', h2, h3⟩ := zipw_mem e
      exact ⟨a', List.mem_cons_of_mem _ h1, b', List.mem_cons_of_mem _ h2, h3⟩
theorem atI_of {α : Type} {l : List α} {j : Nat} (h : j < l.length) : atI l (j : Int) = some l[j] := L2.atI_nat (List.getElem?_eq_getElem h)
theorem wo_ok {D B z : Int} {b : Nat} (hD : 0 < D) (hDB : D ≤ B) (hB : B < 2 ^ b) (hb : 3 * b + 1 ≤ 8990) (hz : z ≠ 0) (hz2 : -B ≤ z ∧ z ≤ B) {n p : Nat} (hp : p < n + 1) (hn : n ≤ 20) {sol : List Q2} {ss : List Rat} (hs : IsL b sol ss) (sd : ∀ x ∈ ss, ∃ i : Int, x * (z : Rat) = (i : Rat) ∧ -B ≤ i ∧ i ≤ B) (sl : ss.length = n + 1) :
    ∀ r s, RowQ D B r s → s.length = n + 1 → ∃ r', N_without_unknown r (p : Int) sol = some r' ∧ RowQ (D * z.natAbs) (2 * (B * B)) r' (wo p ss s) := by
  intro r s h hl
  have hr := isl_den hD hDB hB h
  have rl : r.length = n + 1 := by rw [hr.len, hl]
  have pr : p < r.length := by omega
  have g := isl_get p pr hr
  have at1 : atI r (p : Int) = some r[p] := atI_of pr
  have B0 : 0 ≤ B := by omega
  have bb : 0 ≤ B * B := Int.mul_nonneg B0 B0
  have pm : gt s p ∈ s := by
    have : gt s p = s[p] := by simp [gt, List.getD, show p < s.length by omega]
    rw [this]
    exact List.getElem_mem _
  have zz : ((z.natAbs : Int) : Rat) = (z : Rat) ∨ ((z.natAbs : Int) : Rat) = -(z : Rat) := by
    rcases Int.natAbs_eq z with e | e
    · left; rw [← e]
    · right; rw [← Rat.intCast_neg]; exact congrArg _ (by omega)
  have nz : -B ≤ (z.natAbs : Int) ∧ (z.natAbs : Int) ≤ B := by omega
  by_cases c : gt s p = 0
  · have q0 : r[p] = ((0 : Int), (1 : Int)) := (is_zero g).mpr c
    refine ⟨r, ?_, ?_⟩
    · unfold N_without_unknown
      rw [at1, Option.bind_some, Option.bind_some, q0]
      rfl
    · unfold wo
      rw [if_pos c]
      refine ⟨h.isl, fun x hx => ?_⟩
      obtain ⟨i, i1, i2, i3⟩ := h.de x hx
      have m := abs_mul (B := B) ⟨i2, i3⟩ nz
      refine ⟨i * z.natAbs, ?_, by omega, by omega⟩
      rw [Rat.intCast_mul, Rat.intCast_mul, ← i1]
      grind
  · have q1 : r[p] ≠ ((0 : Int), (1 : Int)) := fun e => c ((is_zero g).mp e)
    obtain ⟨out, o1, o2⟩ := sub_go hb g r s sol ss hr hs
    refine ⟨out, ?_, ?_⟩
    · unfold N_without_unknown
      rw [at1]
      simp only [Option.bind_some]
      rw [decide_eq_false q1]
      show compL _ _ (List.zip r sol) = _
      unfold compL
      rw [if_pos (by rw [List.length_zip]; omega)]
      exact o1
    · unfold wo
      rw [if_neg c]
      refine ⟨⟨_, o2⟩, fun x hx => ?_⟩
      obtain ⟨a, ha, y, hy, rfl⟩ := zipw_mem hx
      obtain ⟨i, i1, i2, i3⟩ := h.de a ha
      obtain ⟨j, j1, j2, j3⟩ := sd y hy
      obtain ⟨k, k1, k2, k3⟩ := h.de _ pm
      have m1 := abs_mul (B := B) ⟨i2, i3⟩ hz2
      have m2 := abs_mul (B := B) ⟨k2, k3⟩ ⟨j2, j3⟩
      have e : (a - gt s p * y) * ((D : Rat) * (z : Rat)) = ((i * z - k * j : Int) : Rat) := by
        rw [Rat.intCast_sub, Rat.intCast_mul, Rat.intCast_mul, ← i1, ← j1, ← k1]
        grind
      rcases zz with w | w
      · refine ⟨i * z - k * j, ?_, by omega, by omega⟩
        rw [Rat.intCast_mul, w]
        exact e
      · refine ⟨-(i * z - k * j), ?_, by omega, by omega⟩
        rw [Rat.intCast_mul, w, Rat.intCast_neg, ← e]
        grind
noncomputable def sB (i7 : Int) (s5 : List (List Q2) × List (List Q2)) : Option (List (List Q2) × List (List Q2)) := (((compL (fun (i9 : (List (Int × Int))) => ((atI i9 i7).bind fun x12 => (some ((0 : Int), (1 : Int))).bind fun y13 => some (!decide (x12 = y13)))) (fun (i9 : (List (Int × Int))) => (some i9)) s5.1).bind fun x14 => (some (0 : Int)).bind fun y15 => (atI x14 y15)).bind fun chosen_8 => ((some chosen_8).bind fun x17 => (remO s5.1 x17).bind fun rows_16 => ((compL (fun (i19 : (Int × Int)) => (some true)) (fun (i19 : (Int × Int)) => ((some i19).bind fun a22 => (atI chosen_8 i7).bind fun a23 => N_divided a22 a23)) chosen_8).bind fun solved_18 => ((compL (fun (i25 : (List (Int × Int))) => (some true)) (fun (i25 : (List (Int × Int))) => (N_without_unknown i25 i7 solved_18)) rows_16).bind fun rows_24 => (((compL (fun (i27 : (List (Int × Int))) => (some true)) (fun (i27 : (List (Int × Int))) => (N_without_unknown i27 i7 solved_18)) s5.2).bind fun x28 => (some [solved_18]).bind fun y29 => (catO x28 y29)).bind fun done_26 => some (rows_24, done_26))))))
theorem first_ex {α : Type} {t : α → Bool} : ∀ {l : List α}, (∃ x ∈ l, t x = true) → ∃ (j : Nat) (h : j < l.length), t l[j] = true ∧ (∀ i (hi : i < l.length), i < j → t l[i] = false) ∧ ∃ r, l.filter t = l[j] :: r
  | [], h => by obtain ⟨x, hx, _⟩ := h; cases hx
  | a :: l, h => by
    cases c : t a with
    | true => exact ⟨0, by simp, c, fun i hi hij => by omega, l.filter t, by rw [List.filter_cons, if_pos c]; rfl⟩
    | false =>
      obtain ⟨j, hj, h1, h2, r, h3⟩ := first_ex (l := l) (t := t) (by
        obtain ⟨x, hx, tx⟩ := h
        rcases List.mem_cons.mp hx with e | e
        · rw [e, c] at tx; cases tx
        · exact ⟨x, e, tx⟩)
      refine ⟨j + 1, by simpa using hj, h1, fun i hi hij => ?_, r, ?_⟩
      · cases i with
        | zero => exact c
        | succ i => exact h2 i (by simpa using hi) (by omega)
      · rw [List.filter_cons, if_neg (by rw [c]; decide), h3]
        rfl
theorem rws_test {D B : Int} {b : Nat} (hD : 0 < D) (hDB : D ≤ B) (hB : B < 2 ^ b) {n p : Nat} (hp : p < n + 1) {r : List Q2} {s : List Rat} (h : RowQ D B r s) (hl : s.length = n + 1) : ((atI r (p : Int)).bind fun x12 => (some ((0 : Int), (1 : Int))).bind fun y13 => some (!decide (x12 = y13))) = some (decide (gt s p ≠ 0)) ∧ ∃ q, atI r (p : Int) = some q ∧ Is b q (gt s p) := by
  have hr := isl_den hD hDB hB h
  have pr : p < r.length := by rw [hr.len, hl]; exact hp
  have g := isl_get p pr hr
  rw [atI_of pr]
  refine ⟨?_, r[p], rfl, g⟩
  simp only [Option.bind_some]
  have := is_zero g
  by_cases c : r[p] = ((0 : Int), (1 : Int))
  · rw [decide_eq_true c, decide_eq_false (show ¬ gt s p ≠ 0 from fun e => e (this.mp c))]; rfl
  · rw [decide_eq_false c, decide_eq_true (show gt s p ≠ 0 from fun e => c (this.mpr e))]; rfl
theorem sol_step {n k : Nat} {A : List (List Rat)} {D B : Int} {b : Nat} (hn : n ≤ 20) (hk : k < n) {rows done : List (List Q2)} {rss dss : List (List Rat)} (I : EInv n A k rss dss) (hR : Rws D B rows rss) (hDn : Rws D B done dss) (hD : 0 < D) (hDB : D ≤ B) (hB : B < 2 ^ b) (hb : 3 * b + 1 ≤ 8990)
    (hK : ∀ z : Nat → Rat, z n = 0 → (∀ r ∈ A, dt n r z = 0) → ∀ i, i < n → z i = 0) :
    ∃ rows' done' rss' dss' D', sB (k : Int) (rows, done) = some (rows', done') ∧ EInv n A (k + 1) rss' dss' ∧ Rws D' (2 * (B * B)) rows' rss' ∧ Rws D' (2 * (B * B)) done' dss' ∧ 0 < D' ∧ D' ≤ 2 * (B * B) := by
  have kn : k < n + 1 := by omega
  obtain ⟨r0, m0, c0⟩ := I.pivot hk hK
  obtain ⟨j, hj, h1, h2, _⟩ := first_ex (t := fun r : List Rat => decide (gt r k ≠ 0)) (l := rss) ⟨r0, m0, by simpa using c0⟩
  have hjr : j < rows.length := by rw [hR.len]; exact hj
  have hc : gt rss[j] k ≠ 0 := by simpa using h1
  have rq := hR.get j hjr hj
  have cl := I.rl _ (List.getElem_mem hj)
  obtain ⟨t1, q, q1, q2⟩ := rws_test hD hDB hB kn rq cl
  let t : List Q2 → Bool := fun r => match atI r (k : Int) with
    | some x => !decide (x = ((0 : Int), (1 : Int)))
    | none => false
  have tt : ∀ i (h1 : i < rows.length) (h2 : i < rss.length), ((atI rows[i] (k : Int)).bind fun x12 => (some ((0 : Int), (1 : Int))).bind fun y13 => some (!decide (x12 = y13))) = some (t rows[i]) ∧ t rows[i] = decide (gt rss[i] k ≠ 0) := fun i a1 a2 => by
    obtain ⟨u1, x, u2, _⟩ := rws_test hD hDB hB kn (hR.get i a1 a2) (I.rl _ (List.getElem_mem a2))
    rw [u2] at u1
    have e : t rows[i] = !decide (x = ((0 : Int), (1 : Int))) := by show (match atI rows[i] (k : Int) with | some x => !decide (x = ((0 : Int), (1 : Int))) | none => false) = _; rw [u2]
    rw [u2, e]
    exact ⟨rfl, Option.some.inj u1⟩
  have rl := hR.len
  have len := I.len
  have fil : compL (fun (i9 : (List (Int × Int))) => ((atI i9 (k : Int)).bind fun x12 => (some ((0 : Int), (1 : Int))).bind fun y13 => some (!decide (x12 = y13)))) (fun (i9 : (List (Int × Int))) => (some i9)) rows = some (rows.filter t) := compL_filter (by omega) fun x hx => by
    obtain ⟨i, hi, rfl⟩ := List.getElem_of_mem hx
    exact (tt i hi (by omega)).1
  have tj : t rows[j] = true := by rw [(tt j hjr hj).2]; exact h1
  have lt : ∀ i (hi : i < rows.length), i < j → t rows[i] = false := fun i hi hij => by rw [(tt i hi (by omega)).2]; exact h2 i (by omega) hij
  obtain ⟨j2, hj2, k1, k2, rr, k3⟩ := first_ex (t := t) (l := rows) ⟨rows[j], List.getElem_mem hjr, tj⟩
  have ej : j2 = j := by
    rcases Nat.lt_trichotomy j2 j with c | c | c
    · rw [lt j2 hj2 c] at k1; cases k1
    · exact c
    · rw [k2 j hjr c] at tj; cases tj
  subst ej
  have a0 : atI (rows.filter t) (0 : Int) = some rows[j2] := by
    rw [k3]
    exact L2.atI_nat (xs := rows[j2] :: rr) (j := 0) rfl
  have rem : remO rows rows[j2] = some (rows.eraseIdx j2) := by
    unfold remO
    have : rows.findIdx? (fun a => decide (a = rows[j2])) = some j2 := by
      rw [List.findIdx?_eq_some_iff_getElem]
      refine ⟨hjr, by simp, fun i hi => ?_⟩
      have e : rows[i] ≠ rows[j2] := fun z => by
        have := lt i (by omega) hi
        rw [z, tj] at this
        cases this
      simpa using e
    rw [this]
    rfl
  obtain ⟨z, z1, z2, z3⟩ := rq.de (gt rss[j2] k) (by
    have : gt rss[j2] k = (rss[j2])[k] := by simp [gt, List.getD, show k < (rss[j2]).length by omega]
    rw [this]
    exact List.getElem_mem _)
  have zne : z ≠ 0 := fun e => by
    rw [e] at z1
    rcases Rat.mul_eq_zero.mp z1 with w | w
    · exact hc w
    · exact Rat.ne_of_gt (cast_pos hD) w
  obtain ⟨sol, s1, s2, s3⟩ := div_row hD hDB hB hb rq q2 hc z1 ⟨z2, z3⟩
  have sl : (rss[j2].map (· / gt rss[j2] k)).length = n + 1 := by rw [List.length_map]; exact cl
  have W := wo_ok hD hDB hB hb zne ⟨z2, z3⟩ kn hn s2 s3 sl
  have B0 : 0 < B := by omega
  have sub : ∀ r ∈ rss.eraseIdx j2, r.length = n + 1 := fun r hr => I.rl r ((List.eraseIdx_sublist rss j2).subset hr)
  obtain ⟨rows', e1, e2⟩ := Rws.map W (hR.erase j2) sub
  obtain ⟨done', f1, f2⟩ := Rws.map W hDn I.dr
  have rlen : rows[j2].length = n + 1 := by rw [(isl_den hD hDB hB rq).len, cl]
  have zr := zne
  have nz : 1 ≤ (z.natAbs : Int) ∧ (z.natAbs : Int) ≤ B := by omega
  have Dz : D ≤ D * (z.natAbs : Int) := by
    have := Int.mul_le_mul_of_nonneg_left nz.1 (Int.le_of_lt hD)
    omega
  have DB : D * (z.natAbs : Int) ≤ B * B := Int.mul_le_mul hDB nz.2 (by omega) (by omega)
  have bb : 0 ≤ B * B := Int.mul_nonneg (by omega) (by omega)
  have SR : RowQ (D * z.natAbs) (2 * (B * B)) sol (rss[j2].map (· / gt rss[j2] k)) := ⟨⟨b, s2⟩, fun x hx => by
    obtain ⟨i, i1, i2, i3⟩ := s3 x hx
    have m := abs_mul (B := B) ⟨i2, i3⟩ ⟨by omega, hDB⟩
    have ez : (z : Rat) = ((z.natAbs : Int) : Rat) ∨ (z : Rat) = -((z.natAbs : Int) : Rat) := by
      rcases Int.natAbs_eq z with e | e
      · left; exact congrArg _ e
      · right; rw [← Rat.intCast_neg]; exact congrArg _ (by omega)
    rcases ez with w | w
    · refine ⟨i * D, ?_, by omega, by omega⟩
      rw [Rat.intCast_mul, Rat.intCast_mul, ← i1, ← w]
      grind
    · refine ⟨-(i * D), ?_, by omega, by omega⟩
      rw [Rat.intCast_mul, Rat.intCast_neg, Rat.intCast_mul, ← i1, w]
      grind⟩
  refine ⟨rows', done' ++ [sol], _, _, D * z.natAbs, ?_, I.step hj hc, e2, f2.app ⟨SR, trivial⟩, by omega, by omega⟩
  have cm : ∀ {F : List Q2 → Option (List Q2)} {l l' : List (List Q2)}, l.length ≤ 100 → compO (fun (_ : List Q2) => (some true)) F l = some l' → compL (fun (_ : List Q2) => (some true)) F l = some l' := fun h e => by unfold compL; rw [if_pos (by omega)]; exact e
  have c1 : compL (fun (i19 : (Int × Int)) => (some true)) (fun (i19 : (Int × Int)) => ((some i19).bind fun a22 => (atI rows[j2] (k : Int)).bind fun a23 => N_divided a22 a23)) rows[j2] = some sol := by
    unfold compL
    rw [if_pos (by omega), q1]
    exact s1
  have dl := I.dl
  have ddl := hDn.len
  unfold sB
  show ((((compL (fun (i9 : (List (Int × Int))) => ((atI i9 (k : Int)).bind fun x12 => (some ((0 : Int), (1 : Int))).bind fun y13 => some (!decide (x12 = y13)))) (fun (i9 : (List (Int × Int))) => (some i9)) rows)).bind fun x14 => (some (0 : Int)).bind fun y15 => (atI x14 y15)).bind _) = _
  rw [fil, Option.bind_some, Option.bind_some, a0, Option.bind_some, Option.bind_some]
  show (remO rows rows[j2]).bind _ = _
  rw [rem, Option.bind_some, c1, Option.bind_some, cm (by rw [List.length_eraseIdx, if_pos hjr]; omega) e1, Option.bind_some]
  show (((compL _ _ done).bind fun x28 => (some [sol]).bind fun y29 => (catO x28 y29)).bind _) = _
  rw [cm (by omega) f1, Option.bind_some, Option.bind_some]
  unfold catO
  rw [if_pos (by have := f2.len; rw [List.length_map] at this; rw [List.length_singleton]; omega)]
  rfl
def Bn (B0 : Int) : Nat → Int
  | 0 => B0
  | k + 1 => 2 * (Bn B0 k * Bn B0 k)
theorem bn_pos {B0 : Int} (h : 0 < B0) : ∀ k, 0 < Bn B0 k
  | 0 => h
  | k + 1 => by
    have := bn_pos h k
    have := Int.mul_pos this this
    show 0 < 2 * (Bn B0 k * Bn B0 k)
    omega
theorem bn_up {B0 : Int} (h : 0 < B0) (k : Nat) : Bn B0 k ≤ Bn B0 (k + 1) := by
  have a := bn_pos h k
  have := Int.mul_le_mul_of_nonneg_left (show (1 : Int) ≤ Bn B0 k by omega) (Int.le_of_lt a)
  show Bn B0 k ≤ 2 * (Bn B0 k * Bn B0 k)
  have := Int.mul_pos a a
  omega
theorem bn_le {B0 : Int} (h : 0 < B0) {k m : Nat} (hk : k ≤ m) : Bn B0 k ≤ Bn B0 m := by
  induction m with
  | zero =>
    obtain rfl : k = 0 := by omega
    exact Int.le_refl _
  | succ m ih =>
    by_cases c : k = m + 1
    · subst c; exact Int.le_refl _
    · exact Int.le_trans (ih (by omega)) (bn_up h m)
theorem sol_go {n : Nat} {A : List (List Rat)} {B0 : Int} {b : Nat} (hn : n ≤ 20) (h0 : 0 < B0) (hB : ∀ k, k < n → Bn B0 k < 2 ^ b) (hb : 3 * b + 1 ≤ 8990)
    (hK : ∀ z : Nat → Rat, z n = 0 → (∀ r ∈ A, dt n r z = 0) → ∀ i, i < n → z i = 0) : ∀ (m k : Nat) (rows done : List (List Q2)) (rss dss : List (List Rat)) (D : Int), k + m = n → EInv n A k rss dss → Rws D (Bn B0 k) rows rss → Rws D (Bn B0 k) done dss → 0 < D → D ≤ Bn B0 k →
    ∃ done' dss' D', foldO sB (rg k m) (rows, done) = some ([], done') ∧ EInv n A n [] dss' ∧ Rws D' (Bn B0 n) done' dss' ∧ 0 < D' ∧ D' ≤ Bn B0 n
  | 0, k, rows, done, rss, dss, D, hk, I, hR, hDn, hD, hDB => by
    obtain rfl : k = n := by omega
    have r0 : rss = [] := List.eq_nil_of_length_eq_zero (by have := I.len; omega)
    have q0 : rows = [] := List.eq_nil_of_length_eq_zero (by have := hR.len; rw [r0] at this; exact this)
    subst r0
    subst q0
    exact ⟨done, dss, D, rfl, I, hDn, hD, hDB⟩
  | m + 1, k, rows, done, rss, dss, D, hk, I, hR, hDn, hD, hDB => by
    obtain ⟨rows', done', rss', dss', D', e, I', hR', hDn', hD', hDB'⟩ := sol_step hn (by omega) I hR hDn hD hDB (hB k (by omega)) hb hK
    obtain ⟨d2, s2, D2, g, g2, g3, g4, g5⟩ := sol_go hn h0 hB hb hK m (k + 1) rows' done' rss' dss' D' (by omega) I' hR' hDn' hD' hDB'
    refine ⟨d2, s2, D2, ?_, g2, g3, g4, g5⟩
    show (sB (k : Int) (rows, done)).bind (foldO sB (rg (k + 1) m)) = _
    rw [e]
    exact g
theorem atI_end {α : Type} {l : List α} {n : Nat} (h : l.length = n + 1) : atI l (-(1 : Int)) = some (l[n]'(by omega)) := by
  unfold atI ixN
  rw [if_neg (by decide), if_pos (by omega)]
  show l[(-1 + (l.length : Int)).toNat]? = _
  rw [show (-1 + (l.length : Int)).toNat = n by omega]
  exact List.getElem?_eq_getElem (by omega)
theorem solutions_ok {n : Nat} {A : List (List Rat)} {eqs : List (List Q2)} {D B0 : Int} {b : Nat} (hn : n ≤ 20) (hl : A.length = n) (hrl : ∀ r ∈ A, r.length = n + 1) (hE : Rws D B0 eqs A) (hD : 0 < D) (hDB : D ≤ B0) (hB : ∀ k, k < n → Bn B0 k < 2 ^ b) (hb : 3 * b + 1 ≤ 8990)
    (hK : ∀ z : Nat → Rat, z n = 0 → (∀ r ∈ A, dt n r z = 0) → ∀ i, i < n → z i = 0) :
    ∃ Q xs D', N_solutions eqs = some Q ∧ xs.length = n ∧ (∃ m, IsL m Q xs) ∧ 0 < D' ∧ D' ≤ Bn B0 n ∧ (∀ x ∈ xs, ∃ i : Int, x * (D' : Rat) = (i : Rat) ∧ -(Bn B0 n) ≤ i ∧ i ≤ Bn B0 n) ∧ ∀ r ∈ A, sm n (fun i => gt r i * gt xs i) = gt r n := by
  have h0 : 0 < B0 := by omega
  have I : EInv n A 0 A [] := ⟨Nat.zero_le _, by omega, rfl, hrl, (fun r hr => nomatch hr), fun z h1 _ => h1, fun i j hi => by omega, fun r hr j hj => by omega⟩
  obtain ⟨done, dss, D', g, I', hR, hD', hDB'⟩ := sol_go hn h0 hB hb hK n 0 eqs [] A [] D (by omega) I hE trivial hD hDB
  have sol := I'.sol
  have dl := I'.dl
  have el := hE.len
  have col : ∀ (done : List (List Q2)) (dss : List (List Rat)), Rws D' (Bn B0 n) done dss → (∀ r ∈ dss, r.length = n + 1) → ∃ Q, compO (fun (i32 : (List (Int × Int))) => (some true)) (fun (i32 : (List (Int × Int))) => (atI i32 (-(1 : Int)))) done = some Q ∧ (∃ m, IsL m Q (dss.map fun d => gt d n)) := by
    intro done
    induction done with
    | nil =>
      intro dss h _
      cases dss with
      | nil => exact ⟨[], rfl, 0, trivial⟩
      | cons _ _ => exact h.elim
    | cons r done ih =>
      intro dss h hl
      cases dss with
      | nil => exact h.elim
      | cons s dss =>
        obtain ⟨Q, q1, m, q2⟩ := ih dss h.2 fun u hu => hl u (List.mem_cons_of_mem _ hu)
        obtain ⟨m', hm'⟩ := h.1.isl
        have sl := hl s List.mem_cons_self
        have rl : r.length = n + 1 := by rw [hm'.len, sl]
        have g := isl_get n (by omega) hm'
        refine ⟨r[n] :: Q, ?_, max m m', ⟨g.mono (by omega), ?_⟩⟩
        · show ((atI r (-(1 : Int))).bind fun y => (compO _ _ done).bind fun ys => some (y :: ys)) = _
          rw [atI_end rl, Option.bind_some, q1]
          rfl
        · have mono : ∀ {Q : List Q2} {vs : List Rat}, IsL m Q vs → IsL (max m m') Q vs := by
            intro Q
            induction Q with
            | nil => intro vs h; cases vs with
              | nil => trivial
              | cons _ _ => exact h.elim
            | cons q Q ih => intro vs h; cases vs with
              | nil => exact h.elim
              | cons v vs => exact ⟨h.1.mono (by omega), ih h.2⟩
          exact mono q2
  obtain ⟨Q, q1, q2⟩ := col done dss hR I'.dr
  refine ⟨Q, dss.map fun d => gt d n, D', ?_, by rw [List.length_map]; exact dl, q2, hD', hDB', ?_, sol⟩
  · unfold N_solutions
    rw [Option.bind_some, Option.bind_some, rg_eq (by omega), Option.bind_some]
    show (foldO sB (rg 0 eqs.length) (eqs, [])).bind _ = _
    rw [show eqs.length = n by omega, g, Option.bind_some]
    show ((compL _ _ done).bind _) = _
    unfold compL
    rw [if_pos (by have := hR.len; omega), q1]
    rfl
  · intro x hx
    obtain ⟨d, hd, rfl⟩ := List.mem_map.mp hx
    obtain ⟨i, hi, rfl⟩ := List.getElem_of_mem hd
    have hq := hR.get i (by have := hR.len; omega) hi
    refine hq.de _ ?_
    have l := I'.dr _ hd
    have : gt dss[i] n = (dss[i])[n] := by simp [gt, List.getD, show n < (dss[i]).length by omega]
    rw [this]
    exact List.getElem_mem _
def Settles (p : PondT) (cs : List Rat) : Prop := ∃ k : Nat, (k : Int) < p.2 ∧ 0 < gt cs k
def oneAt (pl i : Nat) : Rat := if i = pl then 1 else 0
noncomputable def eB (i11 : (Int × (Int × Int))) (s9 : List Q2) : Option (List Q2) := ((((atI s9 i11.1).bind fun a14 => (some i11.2).bind fun a15 => N_minus a14 a15).bind fun x16 => (some i11.1).bind fun y17 => putO s9 y17 x16).bind fun row_18 => some row_18)
theorem isl_app {n : Nat} : ∀ {a b : List Q2} {u v : List Rat}, IsL n a u → IsL n b v → IsL n (a ++ b) (u ++ v)
  | [], _, [], _, _, h => h
  | _ :: _, _, _ :: _, _, h, k => ⟨h.1, isl_app h.2 k⟩
  | [], _, _ :: _, _, h, _ => h.elim
  | _ :: _, _, [], _, h, _ => h.elim
theorem bn_mono {a b : Int} (h0 : 0 < a) (h : a ≤ b) : ∀ k, Bn a k ≤ Bn b k
  | 0 => h
  | k + 1 => by
    have i := bn_mono h0 h k
    have p := bn_pos h0 k
    have := Int.mul_le_mul i i (by omega) (by omega)
    show 2 * (Bn a k * Bn a k) ≤ 2 * (Bn b k * Bn b k)
    omega
abbrev GR := List (Nat × Rat)
def sumG (G : GR) : Rat := (G.map (·.2)).sum
def atG (G : GR) (i : Nat) : Rat := (G.map fun e => if e.1 = i then e.2 else 0).sum
def lin (G : GR) (z : Nat → Rat) : Rat := (G.map fun e => e.2 * z e.1).sum
def GoR (a n : Nat) (S : Int) : List (Int × (Int × Int)) → GR → Prop
  | [], [] => True
  | q :: L, e :: G => (q.1 = (e.1 : Int) ∧ e.1 < n ∧ Is a q.2 e.2 ∧ 0 ≤ e.2 ∧ Dn S e.2) ∧ GoR a n S L G
  | _, _ => False
structure GNn (n : Nat) (S : Int) (G : GR) : Prop where
  nn : ∀ e ∈ G, 0 ≤ e.2
  dn : ∀ e ∈ G, Dn S e.2
  lt : ∀ e ∈ G, e.1 < n
theorem GoR.nn {a n : Nat} {S : Int} : ∀ {L : List (Int × (Int × Int))} {G : GR}, GoR a n S L G → GNn n S G
  | [], [], _ => ⟨(fun e h => nomatch h), (fun e h => nomatch h), (fun e h => nomatch h)⟩
  | _ :: _, e :: G, h => by
    obtain ⟨⟨_, h2, _, h4, h5⟩, k⟩ := h
    have r := k.nn
    exact ⟨fun x m => (List.mem_cons.mp m).elim (fun z => z ▸ h4) (r.nn x), fun x m => (List.mem_cons.mp m).elim (fun z => z ▸ h5) (r.dn x), fun x m => (List.mem_cons.mp m).elim (fun z => z ▸ h2) (r.lt x)⟩
  | [], _ :: _, h => h.elim
  | _ :: _, [], h => h.elim
theorem GNn.tail {n : Nat} {S : Int} {e : Nat × Rat} {G : GR} (h : GNn n S (e :: G)) : GNn n S G := ⟨fun x m => h.nn x (List.mem_cons_of_mem _ m), fun x m => h.dn x (List.mem_cons_of_mem _ m), fun x m => h.lt x (List.mem_cons_of_mem _ m)⟩
theorem atG_cons (e : Nat × Rat) (G : GR) (i : Nat) : atG (e :: G) i = (if e.1 = i then e.2 else 0) + atG G i := rfl
theorem sumG_cons (e : Nat × Rat) (G : GR) : sumG (e :: G) = e.2 + sumG G := rfl
theorem lin_cons (e : Nat × Rat) (G : GR) (z : Nat → Rat) : lin (e :: G) z = e.2 * z e.1 + lin G z := rfl
theorem atG_app : ∀ (P G : GR) (i : Nat), atG (P ++ G) i = atG P i + atG G i
  | [], G, i => by show atG G i = 0 + atG G i; grind
  | e :: P, G, i => by
    show (if e.1 = i then e.2 else 0) + atG (P ++ G) i = ((if e.1 = i then e.2 else 0) + atG P i) + atG G i
    rw [atG_app P G i]
    grind
theorem sumG_app : ∀ (P G : GR), sumG (P ++ G) = sumG P + sumG G
  | [], G => by show sumG G = 0 + sumG G; grind
  | e :: P, G => by
    show e.2 + sumG (P ++ G) = (e.2 + sumG P) + sumG G
    rw [sumG_app P G]
    grind
theorem atG_in {n : Nat} {S : Int} : ∀ {G : GR}, GNn n S G → ∀ i, 0 ≤ atG G i ∧ atG G i ≤ sumG G ∧ Dn S (atG G i)
  | [], _, i => ⟨Rat.le_refl, Rat.le_refl, Dn.zero S⟩
  | e :: G, h, i => by
    obtain ⟨a, b, c⟩ := atG_in h.tail i
    have e0 := h.nn e List.mem_cons_self
    have ed := h.dn e List.mem_cons_self
    rw [atG_cons, sumG_cons]
    by_cases w : e.1 = i
    · rw [if_pos w]
      exact ⟨by grind, by grind, ed.add c⟩
    · rw [if_neg w]
      refine ⟨by grind, by grind, ?_⟩
      rw [show (0 : Rat) + atG G i = atG G i by grind]
      exact c
theorem sumG_nn {n : Nat} {S : Int} : ∀ {G : GR}, GNn n S G → 0 ≤ sumG G
  | [], _ => Rat.le_refl
  | e :: G, h => by
    have := sumG_nn h.tail
    have := h.nn e List.mem_cons_self
    rw [sumG_cons]
    grind
theorem lin_at {n : Nat} {S : Int} (z : Nat → Rat) : ∀ {G : GR}, GNn n S G → sm n (fun i => atG G i * z i) = lin G z
  | [], _ => by
    have e : sm n (fun i => atG ([] : GR) i * z i) = sm n (fun _ => (0 : Rat) * 0) := sm_congr fun i _ => by show (0 : Rat) * z i = 0 * 0; grind
    rw [e, sm_mul]
    show (0 : Rat) * _ = 0
    grind
  | e :: G, h => by
    have r := lin_at z h.tail
    have lt := h.lt e List.mem_cons_self
    rw [lin_cons, ← r]
    have e1 : sm n (fun i => atG (e :: G) i * z i) = sm n (fun i => (if i = e.1 then e.2 * z e.1 else 0) + atG G i * z i) := sm_congr fun i _ => by
      rw [atG_cons]
      by_cases w : i = e.1
      · subst w; rw [if_pos rfl, if_pos rfl]; grind
      · rw [if_neg w, if_neg fun c => w c.symm]; grind
    rw [e1, sm_add, sm_one, if_pos lt]
def eqV (n l : Nat) (G : GR) (t : Rat) : List Rat := (List.range (n + 1)).map fun i => if i < n then oneAt l i - atG G i else t
theorem eqV_len (n l : Nat) (G : GR) (t : Rat) : (eqV n l G t).length = n + 1 := by unfold eqV; rw [List.length_map, List.length_range]
theorem eqV_get {n l : Nat} {G : GR} {t : Rat} {i : Nat} (hi : i < n + 1) : gt (eqV n l G t) i = if i < n then oneAt l i - atG G i else t := by
  unfold eqV gt
  simp [List.getD, hi]
theorem eqV_at {n l : Nat} {G : GR} {t : Rat} {i : Nat} (h : i < (eqV n l G t).length) : (eqV n l G t)[i] = if i < n then oneAt l i - atG G i else t := by simp [eqV]
theorem eqV_set {n l : Nat} {G : GR} {t : Rat} {e : Nat × Rat} (he : e.1 < n) : (eqV n l G t).set e.1 (oneAt l e.1 - atG G e.1 - e.2) = eqV n l (G ++ [e]) t := by
  refine List.ext_getElem (by rw [List.length_set, eqV_len, eqV_len]) fun i h1 h2 => ?_
  rw [List.getElem_set, eqV_at, eqV_at]
  have a := atG_app G [e] i
  have b : atG [e] i = if e.1 = i then e.2 else 0 := by
    show (if e.1 = i then e.2 else 0) + 0 = _
    split <;> grind
  by_cases c : e.1 = i
  · subst c
    rw [if_pos rfl, if_pos he, a, b, if_pos rfl]
    grind
  · rw [if_neg c, a, b, if_neg c, show atG G i + 0 = atG G i by grind]
theorem ent {S : Int} (hS : 0 < S) {v : Rat} (h : Dn S v) (h0 : -1 ≤ v) (h1 : v ≤ 1) : ∃ z : Int, v * (S : Rat) = (z : Rat) ∧ -S ≤ z ∧ z ≤ S := by
  obtain ⟨z, hz⟩ := h
  have dp : (0 : Rat) < (S : Rat) := cast_pos hS
  refine ⟨z, hz, ?_, ?_⟩
  · have := Rat.mul_le_mul_of_nonneg_right h0 (Rat.le_of_lt dp)
    rw [hz] at this
    have k : ((-S : Int) : Rat) ≤ (z : Rat) := by rw [Rat.intCast_neg]; grind
    exact Rat.intCast_le_intCast.mp k
  · have := Rat.mul_le_mul_of_nonneg_right h1 (Rat.le_of_lt dp)
    rw [hz] at this
    have k : (z : Rat) ≤ ((S : Int) : Rat) := by grind
    exact Rat.intCast_le_intCast.mp k
theorem Dn.neg {S : Int} {v : Rat} (h : Dn S v) : Dn S (-v) := by
  obtain ⟨z, hz⟩ := h
  refine ⟨-z, ?_⟩
  rw [Rat.intCast_neg, ← hz]
  grind
theorem oneAt_dn (S : Int) (l i : Nat) : Dn S (oneAt l i) := by
  unfold oneAt
  split
  · exact ⟨S, by grind⟩
  · exact Dn.zero S
theorem oneAt_in (l i : Nat) : 0 ≤ oneAt l i ∧ oneAt l i ≤ 1 := by
  unfold oneAt
  split
  · exact ⟨by decide, Rat.le_refl⟩
  · exact ⟨Rat.le_refl, by decide⟩
theorem eqv_go {n l a : Nat} {S : Int} {t : Rat} (hS : 0 < S) (hb : S < 2 ^ a) (ha : a + a + 1 ≤ 8990) : ∀ (L : List (Int × (Int × Int))) (G P : GR) (Q : List Q2), GoR a n S L G → GNn n S P → sumG P + sumG G ≤ 1 → IsL a Q (eqV n l P t) →
    ∃ Q', foldO eB L Q = some Q' ∧ IsL a Q' (eqV n l (P ++ G) t)
  | [], [], P, Q, _, _, _, hQ => ⟨Q, rfl, by rw [List.append_nil]; exact hQ⟩
  | q :: L, e :: G, P, Q, h, hP, hs, hQ => by
    obtain ⟨⟨h1, h2, h3, h4, h5⟩, k⟩ := h
    have hj : e.1 < Q.length := by rw [hQ.len, eqV_len]; omega
    have g := isl_get e.1 hj hQ
    have ge : (eqV n l P t).getD e.1 0 = oneAt l e.1 - atG P e.1 := by
      have := eqV_get (n := n) (l := l) (G := P) (t := t) (i := e.1) (by omega)
      rw [if_pos h2] at this
      exact this
    rw [ge] at g
    obtain ⟨u, u1, u2⟩ := pminus g h3 (by omega)
    obtain ⟨p0, p1, p2⟩ := atG_in hP e.1
    have G0 := sumG_nn k.nn
    rw [sumG_cons] at hs
    obtain ⟨o0, o1⟩ := oneAt_in l e.1
    have dd : Dn S (oneAt l e.1 - atG P e.1 - e.2) := by
      rw [show oneAt l e.1 - atG P e.1 - e.2 = (oneAt l e.1 + -(atG P e.1)) + -(e.2) by grind]
      exact ((oneAt_dn S l e.1).add p2.neg).add h5.neg
    obtain ⟨z, z1, z2, z3⟩ := ent hS dd (by grind) (by grind)
    have u3 := is_den (a := a) (b := a) u2 hS hb (nat_lt z2 z3 hb) z1
    rw [Nat.max_self] at u3
    have st : eB q Q = some (Q.set e.1 u) := by
      unfold eB
      rw [h1, atI_of hj, Option.bind_some, Option.bind_some, u1, Option.bind_some, Option.bind_some, put_nat hj]
      rfl
    have hP' : GNn n S (P ++ [e]) := ⟨fun x m => (List.mem_append.mp m).elim (hP.nn x) fun w => by rw [List.mem_singleton.mp w]; exact h4, fun x m => (List.mem_append.mp m).elim (hP.dn x) fun w => by rw [List.mem_singleton.mp w]; exact h5, fun x m => (List.mem_append.mp m).elim (hP.lt x) fun w => by rw [List.mem_singleton.mp w]; exact h2⟩
    obtain ⟨Q', q1, q2⟩ := eqv_go hS hb ha L G (P ++ [e]) (Q.set e.1 u) k hP' (by
      rw [sumG_app]
      show sumG P + (e.2 + 0) + sumG G ≤ 1
      grind) (by
      rw [← eqV_set h2]
      exact isl_set e.1 hQ u3)
    refine ⟨Q', ?_, by rw [List.append_assoc] at q2; exact q2⟩
    show (eB q Q).bind (foldO eB L) = _
    rw [st]
    exact q1
  | [], _ :: _, _, _, h, _, _, _ => h.elim
  | _ :: _, [], _, _, h, _, _, _ => h.elim
theorem eqv_ok {n l a : Nat} {S : Int} {t : Rat} {tq : Q2} (hS : 0 < S) (hb : S < 2 ^ a) (a0 : 0 < a) (ha : a + a + 1 ≤ 8990) (hn : n ≤ 20) (hl : l < n) {L : List (Int × (Int × Int))} {G : GR} (h : GoR a n S L G) (hs : sumG G ≤ 1) (ht : Is a tq t) (td : Dn S t) (t0 : 0 ≤ t) (t1 : t ≤ 1) :
    ∃ Q, N_equation_of (n : Int) (l : Int) L tq = some Q ∧ RowQ S S Q (eqV n l G t) := by
  have o : ((1 : Int) : Rat) = 1 := rfl
  have k1 : Is 1 ((1 : Int), (1 : Int)) ((1 : Int) : Rat) := is_int (by decide) (by decide)
  rw [o] at k1
  have i0 : IsL a (List.replicate n ((0 : Int), (1 : Int)) ++ [tq]) (List.replicate n (0 : Rat) ++ [t]) := isl_app (zeros_isl a a0 n) ⟨ht, trivial⟩
  have i1 := isl_set l i0 (k1.mono a0)
  have e : (List.replicate n (0 : Rat) ++ [t]).set l 1 = eqV n l [] t := by
    refine List.ext_getElem (by rw [List.length_set, List.length_append, List.length_replicate, List.length_singleton, eqV_len]) fun i h1 h2 => ?_
    rw [List.getElem_set, eqV_at]
    rw [eqV_len] at h2
    have z : atG [] i = 0 := rfl
    rw [z]
    unfold oneAt
    by_cases c : l = i
    · subst c
      rw [if_pos rfl, if_pos hl, if_pos rfl]
      grind
    · rw [if_neg c]
      by_cases d : i < n
      · rw [List.getElem_append_left (by rw [List.length_replicate]; exact d), if_pos d, if_neg fun w => c w.symm, List.getElem_replicate]
        grind
      · rw [List.getElem_append_right (by rw [List.length_replicate]; omega), if_neg d]
        simp
  rw [e] at i1
  obtain ⟨Q, q1, q2⟩ := eqv_go hS hb ha L G [] _ h ⟨(fun e m => nomatch m), (fun e m => nomatch m), (fun e m => nomatch m)⟩ (by show 0 + sumG G ≤ 1; grind) i1
  rw [List.nil_append] at q2
  refine ⟨Q, ?_, ⟨_, q2⟩, fun x hx => ?_⟩
  · unfold N_equation_of
    rw [repL_ok (by omega), Option.bind_some, Option.bind_some]
    unfold catO
    rw [if_pos (by rw [List.length_replicate, List.length_singleton]; omega), Option.bind_some, Option.bind_some, Option.bind_some, put_nat (by rw [List.length_append, List.length_replicate, List.length_singleton]; omega), Option.bind_some]
    show (foldO eB _ _).bind _ = _
    rw [q1]
    rfl
  · unfold eqV at hx
    obtain ⟨i, hi, rfl⟩ := List.mem_map.mp hx
    by_cases c : i < n
    · rw [if_pos c]
      obtain ⟨p0, p1, p2⟩ := atG_in h.nn i
      obtain ⟨o0, o1⟩ := oneAt_in l i
      refine ent hS ?_ (by grind) (by grind)
      rw [show oneAt l i - atG G i = oneAt l i + -(atG G i) by grind]
      exact (oneAt_dn S l i).add p2.neg
    · rw [if_neg c]
      exact ent hS td (by grind) t1
theorem ex_min {ι : Type} (z : ι → Rat) : ∀ {I : List ι}, I ≠ [] → ∃ i ∈ I, ∀ j ∈ I, z i ≤ z j
  | [], h => absurd rfl h
  | [i], _ => ⟨i, List.mem_cons_self, fun j m => by rw [List.mem_singleton.mp m]; exact Rat.le_refl⟩
  | i :: k :: I, _ => by
    obtain ⟨j, m, h⟩ := ex_min z (I := k :: I) (by simp)
    rcases Classical.em (z i ≤ z j) with c | c
    · exact ⟨i, List.mem_cons_self, fun x mx => (List.mem_cons.mp mx).elim (fun e => by rw [e]; exact Rat.le_refl) fun e => by have := h x e; grind⟩
    · exact ⟨j, List.mem_cons_of_mem _ m, fun x mx => (List.mem_cons.mp mx).elim (fun e => by rw [e]; grind) (h x)⟩
theorem superh {ι : Type} (I : List ι) (z : ι → Rat) (ρ : ι → Nat) (h : ∀ i ∈ I, ∀ m : Rat, m < 0 → (∀ j ∈ I, m ≤ z j) → (∀ j ∈ I, ρ j < ρ i → m < z j) → m < z i) : ∀ i ∈ I, 0 ≤ z i := fun i hi => by
  refine Classical.byContradiction fun c => ?_
  have c : z i < 0 := by grind
  obtain ⟨s, s1, s2⟩ := ex_min z (I := I) fun e => by rw [e] at hi; cases hi
  have m0 : z s < 0 := by have := s2 i hi; grind
  have all : ∀ (k : Nat) (j : ι), j ∈ I → ρ j < k → z s < z j := by
    intro k
    induction k with
    | zero => intro j _ h; omega
    | succ k ih => exact fun j hj hk => h j hj (z s) m0 s2 fun j' m' r => ih j' m' (by omega)
  have := all (ρ s + 1) s s1 (by omega)
  grind
theorem lin_ge {n : Nat} {S : Int} {z : Nat → Rat} {m : Rat} (hz : ∀ j, j < n → m ≤ z j) : ∀ {G : GR}, GNn n S G → sumG G * m ≤ lin G z ∧ ((∃ e ∈ G, 0 < e.2 ∧ m < z e.1) → sumG G * m < lin G z)
  | [], _ => ⟨by show (0 : Rat) * m ≤ 0; grind, fun ⟨_, w, _⟩ => nomatch w⟩
  | e :: G, h => by
    obtain ⟨a, b⟩ := lin_ge hz h.tail
    have e0 := h.nn e List.mem_cons_self
    have ez := hz e.1 (h.lt e List.mem_cons_self)
    have p := Rat.mul_nonneg e0 (show 0 ≤ z e.1 - m by grind)
    rw [sumG_cons, lin_cons]
    refine ⟨by grind, fun ⟨x, mx, x1, x2⟩ => ?_⟩
    rcases List.mem_cons.mp mx with w | w
    · subst w
      have := Rat.mul_pos x1 (show 0 < z x.1 - m by grind)
      grind
    · have := b ⟨x, w, x1, x2⟩
      grind
structure Lead (n : Nat) (S : Int) (g : Nat → GR) : Prop where
  ok : ∀ l, l < n → GNn n S (g l)
  le : ∀ l, l < n → sumG (g l) ≤ 1
  dn : ∀ l, l < n → sumG (g l) < 1 ∨ ∃ e ∈ g l, 0 < e.2 ∧ e.1 < l
theorem Lead.nn {n : Nat} {S : Int} {g : Nat → GR} (L : Lead n S g) {z : Nat → Rat} (h : ∀ l, l < n → lin (g l) z ≤ z l) : ∀ l, l < n → 0 ≤ z l := fun l hl => by
  refine superh (List.range n) z id (fun i hi m m0 h1 h2 => ?_) l (List.mem_range.mpr hl)
  have hi := List.mem_range.mp hi
  have hz : ∀ j, j < n → m ≤ z j := fun j hj => h1 j (List.mem_range.mpr hj)
  obtain ⟨a, b⟩ := lin_ge hz (L.ok i hi)
  have le := L.le i hi
  have hh := h i hi
  have s1 : m ≤ sumG (g i) * m := by
    have := Rat.mul_nonneg (show 0 ≤ 1 - sumG (g i) by grind) (show 0 ≤ -m by grind)
    grind
  rcases L.dn i hi with c | ⟨e, e1, e2, e3⟩
  · have := Rat.mul_pos (show 0 < 1 - sumG (g i) by grind) (show 0 < -m by grind)
    grind
  · have := b ⟨e, e1, e2, h2 e.1 (List.mem_range.mpr (by omega)) e3⟩
    grind
theorem lin_neg (z : Nat → Rat) : ∀ G : GR, lin G (fun i => -(z i)) = -(lin G z)
  | [] => by show (0 : Rat) = -0; grind
  | e :: G => by
    rw [lin_cons, lin_cons, lin_neg z G]
    grind
theorem Lead.zero {n : Nat} {S : Int} {g : Nat → GR} (L : Lead n S g) {z : Nat → Rat} (h : ∀ l, l < n → z l = lin (g l) z) : ∀ l, l < n → z l = 0 := fun l hl => by
  have a := L.nn (z := z) (fun l hl => by rw [← h l hl]; exact Rat.le_refl) l hl
  have b := L.nn (z := fun i => -(z i)) (fun l hl => by rw [lin_neg, ← h l hl]; exact Rat.le_refl) l hl
  grind
theorem system_ok {n b : Nat} {S C : Int} {g : Nat → GR} {t : Nat → Rat} (L : Lead n S g) (hn : n ≤ 20) {eqs : List (List Q2)} (hE : Rws S S eqs ((List.range' 0 n).map fun l => eqV n l (g l) (t l))) (hS : 0 < S) (hSC : S ≤ C) (hB : ∀ k, k < n → Bn S k < 2 ^ b) (hb : 3 * b + 1 ≤ 8990) :
    ∃ Q xs D', N_solutions eqs = some Q ∧ xs.length = n ∧ (∃ m, IsL m Q xs) ∧ 0 < D' ∧ D' ≤ Bn S n ∧ (∀ x ∈ xs, ∃ i : Int, x * (D' : Rat) = (i : Rat) ∧ -(Bn S n) ≤ i ∧ i ≤ Bn S n) ∧ ∀ l, l < n → gt xs l = t l + lin (g l) (gt xs) := by
  have deq : ∀ l, l < n → ∀ z : Nat → Rat, sm n (fun i => gt (eqV n l (g l) (t l)) i * z i) = z l - lin (g l) z := fun l hl z => by
    have e : sm n (fun i => gt (eqV n l (g l) (t l)) i * z i) = sm n (fun i => (if i = l then z l else 0) + (-1) * (atG (g l) i * z i)) := sm_congr fun i hi => by
      rw [eqV_get (by omega), if_pos hi]
      unfold oneAt
      by_cases c : i = l
      · subst c; rw [if_pos rfl, if_pos rfl]; grind
      · rw [if_neg c, if_neg c]; grind
    rw [e, sm_add, sm_one, if_pos hl, sm_mul, lin_at z (L.ok l hl)]
    grind
  have mem : ∀ l, l < n → eqV n l (g l) (t l) ∈ (List.range' 0 n).map fun l => eqV n l (g l) (t l) := fun l hl => List.mem_map.mpr ⟨l, List.mem_range'_1.mpr (by omega), rfl⟩
  have last : ∀ l, gt (eqV n l (g l) (t l)) n = t l := fun l => by rw [eqV_get (by omega), if_neg (Nat.lt_irrefl _)]
  obtain ⟨Q, xs, D', g1, g2, g3, g4, g5, g6, g7⟩ := solutions_ok (n := n) (A := (List.range' 0 n).map fun l => eqV n l (g l) (t l)) (D := S) (B0 := S) hn (by rw [List.length_map, List.length_range']) (fun r hr => by
    obtain ⟨l, _, rfl⟩ := List.mem_map.mp hr
    exact eqV_len _ _ _ _) hE hS (Int.le_refl _) hB hb fun z zn h => L.zero fun l hl => by
      have w := h _ (mem l hl)
      have e : dt n (eqV n l (g l) (t l)) z = sm n (fun i => gt (eqV n l (g l) (t l)) i * z i) + gt (eqV n l (g l) (t l)) n * z n := rfl
      rw [e, deq l hl, zn] at w
      grind
  refine ⟨Q, xs, D', g1, g2, g3, g4, g5, g6, fun l hl => ?_⟩
  have w := g7 _ (mem l hl)
  rw [deq l hl, last] at w
  grind
def gG (t : Int → Bool) (p : PondT) (l : Int) : Nat → List Rat → GR
  | _, [] => []
  | i, c :: cs => if t (l + (i : Int)) = true then ((bhd p l (i : Int)).toNat, c) :: gG t p l (i + 1) cs else gG t p l (i + 1) cs
def su (f : Nat → Rat) : Nat → List Rat → Rat
  | _, [] => 0
  | i, c :: cs => c * f i + su f (i + 1) cs
theorem su_add (f g : Nat → Rat) : ∀ (cs : List Rat) (i : Nat), su (fun k => f k + g k) i cs = su f i cs + su g i cs
  | [], _ => by show (0 : Rat) = 0 + 0; grind
  | c :: cs, i => by
    show c * (f i + g i) + su (fun k => f k + g k) (i + 1) cs = (c * f i + su f (i + 1) cs) + (c * g i + su g (i + 1) cs)
    rw [su_add f g cs (i + 1)]
    grind
theorem su_neg (f : Nat → Rat) : ∀ (cs : List Rat) (i : Nat), su (fun k => -(f k)) i cs = -(su f i cs)
  | [], _ => by show (0 : Rat) = -0; grind
  | c :: cs, i => by
    show c * -(f i) + su (fun k => -(f k)) (i + 1) cs = -(c * f i + su f (i + 1) cs)
    rw [su_neg f cs (i + 1)]
    grind
theorem su_one : ∀ (cs : List Rat) (i : Nat), su (fun _ => 1) i cs = cs.sum
  | [], _ => rfl
  | c :: cs, i => by
    show c * 1 + su (fun _ => 1) (i + 1) cs = c + cs.sum
    rw [su_one cs (i + 1)]
    grind
theorem su_congr {f g : Nat → Rat} : ∀ (cs : List Rat) (i : Nat), (∀ k, i ≤ k → f k = g k) → su f i cs = su g i cs
  | [], _, _ => rfl
  | c :: cs, i, h => by
    show c * f i + su f (i + 1) cs = c * g i + su g (i + 1) cs
    rw [h i (Nat.le_refl _), su_congr cs (i + 1) fun k hk => h k (by omega)]
theorem su_ge {f : Nat → Rat} {m : Rat} : ∀ (cs : List Rat) (i : Nat), (∀ x ∈ cs, 0 ≤ x) → (∀ k, i ≤ k → m ≤ f k) → cs.sum * m ≤ su f i cs ∧ ((∃ k, 0 < gt cs k ∧ m < f (i + k)) → cs.sum * m < su f i cs)
  | [], _, _, _ => ⟨by show (0 : Rat) * m ≤ 0; grind, fun ⟨k, a, _⟩ => by
      have : gt ([] : List Rat) k = 0 := rfl
      rw [this] at a
      exact absurd a (by decide)⟩
  | c :: cs, i, hn, hf => by
    obtain ⟨a, b⟩ := su_ge cs (i + 1) (fun x m => hn x (List.mem_cons_of_mem _ m)) fun k hk => hf k (by omega)
    have c0 := hn c List.mem_cons_self
    have fi := hf i (Nat.le_refl _)
    have q := Rat.mul_nonneg c0 (show 0 ≤ f i - m by grind)
    rw [List.sum_cons]
    show (c + cs.sum) * m ≤ c * f i + su f (i + 1) cs ∧ (_ → (c + cs.sum) * m < c * f i + su f (i + 1) cs)
    refine ⟨by grind, fun ⟨k, k1, k2⟩ => ?_⟩
    cases k with
    | zero =>
      have : gt (c :: cs) 0 = c := rfl
      rw [this] at k1
      have := Rat.mul_pos k1 (show 0 < f i - m by rw [Nat.add_zero] at k2; grind)
      grind
    | succ k =>
      have e : gt (c :: cs) (k + 1) = gt cs k := rfl
      rw [e] at k1
      have := b ⟨k, k1, by rw [show i + 1 + k = i + (k + 1) by omega]; exact k2⟩
      grind
theorem gG_lin (t : Int → Bool) (p : PondT) (l : Int) (z : Nat → Rat) : ∀ (cs : List Rat) (i : Nat), lin (gG t p l i cs) z = su (fun k => if t (l + (k : Int)) = true then z (bhd p l (k : Int)).toNat else 0) i cs
  | [], _ => rfl
  | c :: cs, i => by
    show lin (if t (l + (i : Int)) = true then ((bhd p l (i : Int)).toNat, c) :: gG t p l (i + 1) cs else gG t p l (i + 1) cs) z = c * (if t (l + (i : Int)) = true then z (bhd p l (i : Int)).toNat else 0) + su _ (i + 1) cs
    by_cases h : t (l + (i : Int)) = true
    · rw [if_pos h, if_pos h, lin_cons, gG_lin t p l z cs (i + 1)]
    · rw [if_neg h, if_neg h, gG_lin t p l z cs (i + 1)]
      grind
theorem gG_nn {t : Int → Bool} {p : PondT} (hp : PondIn p) {S : Int} {l : Int} (l0 : 0 ≤ l) : ∀ {cs : List Rat} (i : Nat), Shr S cs → GNn (lvs_n p) S (gG t p l i cs)
  | [], _, _ => ⟨(fun e m => nomatch m), (fun e m => nomatch m), (fun e m => nomatch m)⟩
  | c :: cs, i, h => by
    have r := gG_nn (t := t) hp l0 (cs := cs) (i + 1) ⟨fun x m => h.dn x (List.mem_cons_of_mem _ m), fun x m => h.nn x (List.mem_cons_of_mem _ m)⟩
    show GNn (lvs_n p) S (if t (l + (i : Int)) = true then ((bhd p l (i : Int)).toNat, c) :: gG t p l (i + 1) cs else gG t p l (i + 1) cs)
    split
    · obtain ⟨b0, b1⟩ := bhd_in hp (l := l) (i := (i : Int)) l0 (by omega)
      have hb : (bhd p l (i : Int)).toNat < lvs_n p := by
        show (bhd p l (i : Int)).toNat < (p.1 - p.2 + 1).toNat
        omega
      exact ⟨fun e m => (List.mem_cons.mp m).elim (fun w => w ▸ h.nn c List.mem_cons_self) (r.nn e), fun e m => (List.mem_cons.mp m).elim (fun w => w ▸ h.dn c List.mem_cons_self) (r.dn e), fun e m => (List.mem_cons.mp m).elim (fun w => w ▸ hb) (r.lt e)⟩
    · exact r
theorem gG_sum {t : Int → Bool} {p : PondT} {l : Int} : ∀ {cs : List Rat} (i : Nat), (∀ x ∈ cs, 0 ≤ x) → sumG (gG t p l i cs) ≤ cs.sum ∧ ((∃ k : Nat, 0 < gt cs k ∧ t (l + ((i + k : Nat) : Int)) = false) → sumG (gG t p l i cs) < cs.sum)
  | [], _, _ => ⟨Rat.le_refl, fun ⟨k, a, _⟩ => by
      have : gt ([] : List Rat) k = 0 := rfl
      rw [this] at a
      exact absurd a (by decide)⟩
  | c :: cs, i, hn => by
    obtain ⟨a, b⟩ := gG_sum (t := t) (p := p) (l := l) (cs := cs) (i + 1) fun x m => hn x (List.mem_cons_of_mem _ m)
    have c0 := hn c List.mem_cons_self
    show sumG (if t (l + (i : Int)) = true then ((bhd p l (i : Int)).toNat, c) :: gG t p l (i + 1) cs else gG t p l (i + 1) cs) ≤ _ ∧ (_ → sumG (if t (l + (i : Int)) = true then ((bhd p l (i : Int)).toNat, c) :: gG t p l (i + 1) cs else gG t p l (i + 1) cs) < _)
    rw [List.sum_cons]
    by_cases h : t (l + (i : Int)) = true
    · rw [if_pos h, sumG_cons]
      refine ⟨by grind, fun ⟨k, k1, k2⟩ => ?_⟩
      cases k with
      | zero => rw [Nat.add_zero, h] at k2; cases k2
      | succ k =>
        have := b ⟨k, k1, by rw [show i + 1 + k = i + (k + 1) by omega]; exact k2⟩
        show c + sumG _ < c + cs.sum
        grind
    · rw [if_neg h]
      refine ⟨by grind, fun ⟨k, k1, k2⟩ => ?_⟩
      cases k with
      | zero =>
        have : gt (c :: cs) 0 = c := rfl
        rw [this] at k1
        grind
      | succ k =>
        have := b ⟨k, k1, by rw [show i + 1 + k = i + (k + 1) by omega]; exact k2⟩
        grind
theorem gG_mem {t : Int → Bool} {p : PondT} {l : Int} : ∀ {cs : List Rat} (i k : Nat), 0 < gt cs k → t (l + ((i + k : Nat) : Int)) = true → ∃ e ∈ gG t p l i cs, 0 < e.2 ∧ e.1 = (bhd p l ((i + k : Nat) : Int)).toNat
  | [], _, k, h, _ => by
    have : gt ([] : List Rat) k = 0 := rfl
    rw [this] at h
    exact absurd h (by decide)
  | c :: cs, i, 0, h, ht => by
    rw [Nat.add_zero] at ht ⊢
    refine ⟨((bhd p l (i : Int)).toNat, c), ?_, h, rfl⟩
    show _ ∈ (if t (l + (i : Int)) = true then ((bhd p l (i : Int)).toNat, c) :: gG t p l (i + 1) cs else gG t p l (i + 1) cs)
    rw [if_pos ht]
    exact List.mem_cons_self
  | c :: cs, i, k + 1, h, ht => by
    have e : i + (k + 1) = i + 1 + k := by omega
    rw [e] at ht ⊢
    obtain ⟨x, m, r⟩ := gG_mem (t := t) (p := p) (l := l) (cs := cs) (i + 1) k h ht
    refine ⟨x, ?_, r⟩
    show _ ∈ (if t (l + (i : Int)) = true then ((bhd p l (i : Int)).toNat, c) :: gG t p l (i + 1) cs else gG t p l (i + 1) cs)
    split
    · exact List.mem_cons_of_mem _ m
    · exact m
theorem bhd_dn {p : PondT} (hp : PondIn p) {l k : Nat} (hk : (k : Int) < p.2) (h : p.2 ≤ (l : Int) + k) : (bhd p (l : Int) (k : Int)).toNat < l := by
  have := hp.r0; have := hp.r1
  unfold bhd
  rw [min2_le, min2_le]
  omega
theorem gG_lead {t : Int → Bool} {p : PondT} (hp : PondIn p) {S : Int} {cs : List Rat} (hc : Shr S cs) (h1 : cs.sum = 1) (hs : Settles p cs) (ht : ∀ x, t x = true → p.2 ≤ x) : Lead (lvs_n p) S fun l => gG t p (l : Int) 0 cs := by
  obtain ⟨k, k1, k2⟩ := hs
  refine ⟨fun l _ => gG_nn hp (by omega) 0 hc, fun l _ => by rw [← h1]; exact (gG_sum 0 hc.nn).1, fun l hl => ?_⟩
  cases c : t ((l : Int) + ((0 + k : Nat) : Int)) with
  | false => exact .inl (by rw [← h1]; exact (gG_sum 0 hc.nn).2 ⟨k, k2, c⟩)
  | true =>
    obtain ⟨e, m, e1, e2⟩ := gG_mem (p := p) 0 k k2 c
    refine .inr ⟨e, m, e1, ?_⟩
    rw [e2, Nat.zero_add]
    exact bhd_dn hp k1 (by have := ht _ c; rw [Nat.zero_add] at this; exact this)
theorem pairs_up {p : PondT} (hp : PondIn p) {cs : List Rat} (hn : ∀ x ∈ cs, 0 ≤ x) (h1 : cs.sum = 1) (hs : Settles p cs) {w : Nat → Rat} {F : Nat → Nat → Rat} (hw : ∀ l l', l' ≤ l → l < lvs_n p → w l - w l' = su (fun k => F l k - F l' k) 0 cs)
    (hF : ∀ l l' k, l' ≤ l → l < lvs_n p → 0 ≤ F l k - F l' k ∨ (p.2 ≤ (l' : Int) + k ∧ F l k - F l' k = w (bhd p (l : Int) (k : Int)).toNat - w (bhd p (l' : Int) (k : Int)).toNat)) : ∀ l l', l' ≤ l → l < lvs_n p → w l' ≤ w l := fun l l' h hl => by
  let I : List (Nat × Nat) := (List.range (lvs_n p)).flatMap fun a => (List.range (a + 1)).map fun b => (a, b)
  have mI : ∀ a b : Nat, (a, b) ∈ I ↔ a < lvs_n p ∧ b ≤ a := fun a b => by
    show (a, b) ∈ (List.range (lvs_n p)).flatMap (fun a => (List.range (a + 1)).map fun b => (a, b)) ↔ _
    rw [List.mem_flatMap]
    constructor
    · rintro ⟨x, hx, hy⟩
      obtain ⟨y, hy, e⟩ := List.mem_map.mp hy
      cases e
      exact ⟨List.mem_range.mp hx, by have := List.mem_range.mp hy; omega⟩
    · rintro ⟨ha, hb⟩
      exact ⟨a, List.mem_range.mpr ha, List.mem_map.mpr ⟨b, List.mem_range.mpr (by omega), rfl⟩⟩
  obtain ⟨k, k1, k2⟩ := hs
  have r0 := hp.r0; have r1 := hp.r1
  have big := superh I (fun e => w e.1 - w e.2) (fun e => e.2) (fun e he m m0 g1 g2 => by
    obtain ⟨a, b⟩ := e
    obtain ⟨ha, hb⟩ := (mI a b).mp he
    have pair : ∀ k : Nat, (bhd p (a : Int) (k : Int)).toNat < lvs_n p ∧ (bhd p (b : Int) (k : Int)).toNat ≤ (bhd p (a : Int) (k : Int)).toNat := fun k => by
      obtain ⟨b0, b1⟩ := bhd_in hp (l := (a : Int)) (i := (k : Int)) (by omega) (by omega)
      constructor
      · show (bhd p (a : Int) (k : Int)).toNat < (p.1 - p.2 + 1).toNat
        omega
      · unfold bhd
        rw [min2_le, min2_le, min2_le, min2_le]
        omega
    have low : ∀ k : Nat, m ≤ F a k - F b k := fun k => by
      rcases hF a b k hb ha with c | ⟨_, c⟩
      · grind
      · rw [c]
        exact g1 ((bhd p (a : Int) (k : Int)).toNat, (bhd p (b : Int) (k : Int)).toNat) ((mI _ _).mpr (pair k))
    have st : m < F a k - F b k := by
      rcases hF a b k hb ha with c | ⟨d, c⟩
      · grind
      · rw [c]
        exact g2 ((bhd p (a : Int) (k : Int)).toNat, (bhd p (b : Int) (k : Int)).toNat) ((mI _ _).mpr (pair k)) (bhd_dn hp k1 d)
    have q := (su_ge (f := fun k => F a k - F b k) (m := m) cs 0 hn fun k _ => low k).2 ⟨k, k2, by rw [Nat.zero_add]; exact st⟩
    show m < w a - w b
    rw [hw a b hb ha]
    rw [h1] at q
    grind) (l, l') ((mI l l').mpr ⟨hl, h⟩)
  have : 0 ≤ w l - w l' := big
  grind
theorem cut_take {α : Type} (l : List α) (k : Nat) : cutT l none (some (k : Int)) = l.take k := by
  unfold cutT
  show (l.drop 0).take (HT.sIx l.length l.length (some (k : Int)) - 0) = _
  rw [HT.sIx_nat, List.drop_zero, Nat.sub_zero]
  rcases Nat.le_total k l.length with h | h
  · rw [Nat.min_eq_left h]
  · rw [Nat.min_eq_right h, List.take_of_length_le h, List.take_length]
theorem take_shr {D : Int} {s : List Rat} (h : Shr D s) (k : Nat) : Shr D (s.take k) := ⟨fun x hx => h.dn x (List.mem_of_mem_take hx), fun x hx => h.nn x (List.mem_of_mem_take hx)⟩
theorem take_isl {n : Nat} : ∀ (k : Nat) {l : List Q2} {vs : List Rat}, IsL n l vs → IsL n (l.take k) (vs.take k)
  | 0, _, _, _ => by rw [List.take_zero, List.take_zero]; trivial
  | _ + 1, [], [], _ => trivial
  | k + 1, _ :: _, _ :: _, h => ⟨h.1, take_isl k h.2⟩
  | _ + 1, [], _ :: _, h => h.elim
  | _ + 1, _ :: _, [], h => h.elim
theorem gt_mem {s : List Rat} {k : Nat} (h : 0 < gt s k) : k < s.length ∧ gt s k ∈ s := by
  rcases Nat.lt_or_ge k s.length with c | c
  · have e : gt s k = s[k] := by simp [gt, List.getD, c]
    exact ⟨c, by rw [e]; exact List.getElem_mem _⟩
  · have e : gt s k = 0 := by simp [gt, List.getD, c]
    rw [e] at h
    exact absurd h Rat.lt_irrefl
theorem settles_iff {p : PondT} (hp : PondIn p) {cs : List Rat} (hn : ∀ x ∈ cs, 0 ≤ x) : (cs.take p.2.toNat).sum = 0 ↔ ¬ Settles p cs := by
  have r0 := hp.r0
  have tn : ∀ x ∈ cs.take p.2.toNat, 0 ≤ x := fun x hx => hn x (List.mem_of_mem_take hx)
  constructor
  · rintro h ⟨k, k1, k2⟩
    obtain ⟨m1, m2⟩ := gt_mem k2
    have : gt cs k ∈ cs.take p.2.toNat := by
      have e : gt cs k = cs[k] := by simp [gt, List.getD, m1]
      rw [e, List.mem_take_iff_getElem]
      exact ⟨k, by omega, rfl⟩
    have := (le_sum tn).2 _ this
    rw [h] at this
    grind
  · intro h
    have z : ∀ x ∈ cs.take p.2.toNat, x = 0 := fun x hx => Classical.byContradiction fun c => by
      have x0 := tn x hx
      obtain ⟨k, hk, e⟩ := List.mem_take_iff_getElem.mp hx
      refine h ⟨k, by omega, ?_⟩
      have e2 : gt cs k = cs[k]'(by omega) := by simp [gt, List.getD, show k < cs.length by omega]
      rw [e2, e]
      grind
    generalize cs.take p.2.toNat = l at z
    induction l with
    | nil => rfl
    | cons x l ih =>
      rw [List.sum_cons, z x List.mem_cons_self, ih fun y hy => z y (List.mem_cons_of_mem _ hy)]
      grind
theorem sumA : ∀ (a b : List Rat), (a ++ b).sum = a.sum + b.sum
  | [], b => by show b.sum = 0 + b.sum; grind
  | x :: a, b => by
    show x + (a ++ b).sum = (x + a.sum) + b.sum
    rw [sumA a b]
    grind
theorem sum_take {cs : List Rat} (hn : ∀ x ∈ cs, 0 ≤ x) (k : Nat) : (cs.take k).sum ≤ cs.sum := by
  have e : cs.sum = (cs.take k).sum + (cs.drop k).sum := by
    conv => lhs; rw [← List.take_append_drop k cs]
    rw [sumA]
  have := (le_sum (s := cs.drop k) fun x hx => hn x (List.mem_of_mem_drop hx)).1
  rw [e]
  grind
theorem settles_sum {p : PondT} (hp : PondIn p) {C : List Q2} {ns : List Int} {S : Int} (h : Chn C ns S) : ∃ r, N_sum_of_ratios_1 (cutT C none (some p.2)) = some r ∧ (r = ((0 : Int), (1 : Int)) ↔ ¬ Settles p (crs ns S)) := by
  obtain ⟨c1, c2, c3⟩ := Chn.chr h
  have r0 := hp.r0
  have e : p.2 = ((p.2.toNat : Nat) : Int) := by omega
  have h3 := h.top
  obtain ⟨r, _, r2, _, r3⟩ := sums_ok (m := 0) h.pos (show S < 2 ^ 6 by omega) (by decide) (by decide) (take_isl p.2.toNat c1.isl) (take_shr c1.sh _) (by have := sum_take c1.sh.nn p.2.toNat; rw [c2] at this; exact this)
  refine ⟨r, by rw [e, cut_take]; exact r2, ?_⟩
  rw [is_zero r3]
  exact settles_iff hp c1.sh.nn
theorem check_settles_ok {p : PondT} (hp : PondIn p) {C : List Q2} {ns : List Int} {S : Int} (h : Chn C ns S) : (Settles p (crs ns S) → N_check_settles p.2 C = some ()) ∧ (¬ Settles p (crs ns S) → N_check_settles p.2 C = none ∧ N_check_settles__r p.2 C = some true) := by
  obtain ⟨r, r1, r2⟩ := settles_sum hp h
  constructor
  · intro hs
    have ne : r ≠ ((0 : Int), (1 : Int)) := fun e => r2.mp e hs
    unfold N_check_settles
    rw [r1]
    simp only [Option.bind_some]
    rw [decide_eq_false ne]
    rfl
  · intro hs
    have e := r2.mpr hs
    unfold N_check_settles N_check_settles__r
    rw [r1]
    simp only [Option.bind_some]
    rw [decide_eq_true e]
    exact ⟨rfl, rfl⟩
theorem law_settles_ok {p : PondT} (hp : PondIn p) {C : List Q2} {ns : List Int} {S : Int} (h : Chn C ns S) : (Settles p (crs ns S) → N__law_settles p C = some true) ∧ (¬ Settles p (crs ns S) → N__law_settles p C = some false) := by
  obtain ⟨c1, c2, c3⟩ := Chn.chr h
  have r0 := hp.r0
  have len := h.len
  have e : p.2 = ((p.2.toNat : Nat) : Int) := by omega
  have fil : compL (fun (i3 : (Int × Int)) => (some (decide ((0 : Int) < i3.1)))) (fun (i3 : (Int × Int)) => (some i3)) (cutT C none (some p.2)) = some ((C.take p.2.toNat).filter fun i => decide ((0 : Int) < i.1)) := by
    rw [e, cut_take, ← e]
    exact compL_filter (by rw [List.length_take]; omega) fun _ _ => rfl
  have key : ((C.take p.2.toNat).filter fun i => decide ((0 : Int) < i.1)) = [] ↔ ¬ Settles p (crs ns S) := by
    rw [List.filter_eq_nil_iff]
    constructor
    · rintro hall ⟨k, k1, k2⟩
      obtain ⟨m1, _⟩ := gt_mem k2
      have kc : k < C.length := by rw [c1.isl.len]; exact m1
      have g := isl_get k kc c1.isl
      have mem : C[k] ∈ C.take p.2.toNat := by
        rw [List.mem_take_iff_getElem]
        exact ⟨k, by omega, rfl⟩
      have := hall _ mem
      have pos : 0 < (C[k]).1 := (val_pos_iff g.sz.pos).mp (by rw [g.eq]; exact k2)
      exact this (by simpa using pos)
    · intro hs q hq hpos
      obtain ⟨k, hk, rfl⟩ := List.mem_take_iff_getElem.mp hq
      have kc : k < C.length := by omega
      have g := isl_get k kc c1.isl
      have pos : 0 < (C[k]).1 := by simpa using hpos
      exact hs ⟨k, by omega, by rw [show gt (crs ns S) k = (crs ns S).getD k 0 from rfl, ← g.eq]; exact (val_pos_iff g.sz.pos).mpr pos⟩
  unfold N__law_settles
  rw [fil]
  constructor
  · intro hs
    have ne : ((C.take p.2.toNat).filter fun i => decide ((0 : Int) < i.1)) ≠ [] := fun z => key.mp z hs
    simp only [Option.bind_some]
    rw [decide_eq_false ne]
    rfl
  · intro hs
    simp only [Option.bind_some]
    rw [decide_eq_true (key.mpr hs)]
    rfl
theorem bn7 : Bn 42 7 < 2 ^ 820 := by decide +kernel
theorem bn8 : Bn 42 8 < 2 ^ 1640 := by decide +kernel
end Po
set_option exponentiation.threshold 6000
namespace Po
open PySem PySem.Spec PyProof.Rows L2 DN Ty
def goL (t : Int → Bool) (p : PondT) (l : Int) : Nat → List Q2 → List (Int × (Int × Int))
  | _, [] => []
  | i, c :: C => if t (l + (i : Int)) = true then (bhd p l (i : Int), c) :: goL t p l (i + 1) C else goL t p l (i + 1) C
theorem goL_ok {t : Int → Bool} {p : PondT} {l : Int} {keep : (Q2 × Int × Int × Int) → Option Bool} (hk : ∀ (c : Q2) (i : Nat), keep (c, min2 p.2 (min2 p.1 (l + (i : Int))), (l + (i : Int)) - min2 p.1 (l + (i : Int)), bhd p l (i : Int)) = some (t (l + (i : Int)))) :
    ∀ (C : List Q2) (i : Nat), compO keep (fun (i8 : ((Int × Int) × Int × Int × Int)) => (some (i8.2.2.2, i8.1))) (mths p l i C) = some (goL t p l i C)
  | [], _ => rfl
  | c :: C, i => by
    have r := goL_ok hk C (i + 1)
    show compO keep _ ((c, min2 p.2 (min2 p.1 (l + (i : Int))), (l + (i : Int)) - min2 p.1 (l + (i : Int)), bhd p l (i : Int)) :: mths p l (i + 1) C) = some (if t (l + (i : Int)) = true then (bhd p l (i : Int), c) :: goL t p l (i + 1) C else goL t p l (i + 1) C)
    rw [compO_cons, hk, Option.bind_some]
    cases e : t (l + (i : Int)) with
    | true =>
      show ((some (bhd p l (i : Int), c)).bind fun y => (compO keep _ (mths p l (i + 1) C)).bind fun ys => some (y :: ys)) = _
      rw [r]
      rfl
    | false =>
      show compO keep _ (mths p l (i + 1) C) = _
      rw [r]
      rfl
theorem goL_go {t : Int → Bool} {p : PondT} (hp : PondIn p) {l : Int} (l0 : 0 ≤ l) {S : Int} : ∀ {C : List Q2} {cs : List Rat} (i : Nat), Chr S C cs → GoR 6 (lvs_n p) S (goL t p l i C) (gG t p l i cs)
  | [], [], _, _ => trivial
  | c :: C, x :: cs, i, h => by
    have r := goL_go (t := t) hp l0 (i + 1) h.tail
    show GoR 6 (lvs_n p) S (if t (l + (i : Int)) = true then (bhd p l (i : Int), c) :: goL t p l (i + 1) C else goL t p l (i + 1) C) (if t (l + (i : Int)) = true then ((bhd p l (i : Int)).toNat, x) :: gG t p l (i + 1) cs else gG t p l (i + 1) cs)
    by_cases e : t (l + (i : Int)) = true
    · rw [if_pos e, if_pos e]
      obtain ⟨b0, b1⟩ := bhd_in hp (l := l) (i := (i : Int)) l0 (by omega)
      refine ⟨⟨?_, ?_, h.isl.1, h.sh.nn x List.mem_cons_self, h.sh.dn x List.mem_cons_self⟩, r⟩
      · show bhd p l (i : Int) = (((bhd p l (i : Int)).toNat : Nat) : Int)
        omega
      · show (bhd p l (i : Int)).toNat < (p.1 - p.2 + 1).toNat
        omega
    · rw [if_neg e, if_neg e]
      exact r
  | [], _ :: _, _, h => h.isl.elim
  | _ :: _, [], _, h => h.isl.elim
theorem rows_go {n : Nat} {S : Int} {g : Nat → GR} {t : Nat → Rat} {Bd : Int → List (List Q2) → Option (List (List Q2))} (hB : ∀ l : Nat, l < n → ∃ Q, (∀ acc : List (List Q2), acc.length ≤ 1000000 → Bd (l : Int) acc = some (acc ++ [Q])) ∧ RowQ S S Q (eqV n l (g l) (t l))) (hn : n ≤ 20) :
    ∀ (m j : Nat) (acc : List (List Q2)) (aR : List (List Rat)), j + m = n → acc.length = j → Rws S S acc aR → ∃ R, foldO Bd (rg j m) acc = some R ∧ Rws S S R (aR ++ (List.range' j m).map fun l => eqV n l (g l) (t l))
  | 0, j, acc, aR, _, _, h => ⟨acc, rfl, by rw [show (List.range' j 0).map (fun l => eqV n l (g l) (t l)) = [] from rfl, List.append_nil]; exact h⟩
  | m + 1, j, acc, aR, hj, ha, h => by
    obtain ⟨Q, q1, q2⟩ := hB j (by omega)
    obtain ⟨R, r1, r2⟩ := rows_go hB hn m (j + 1) (acc ++ [Q]) (aR ++ [eqV n j (g j) (t j)]) (by omega) (by rw [List.length_append, List.length_singleton, ha]) (Rws.app h ⟨q2, trivial⟩)
    refine ⟨R, ?_, ?_⟩
    · show (Bd (j : Int) acc).bind (foldO Bd (rg (j + 1) m)) = _
      rw [q1 acc (by omega)]
      exact r1
    · rw [List.append_assoc] at r2
      exact r2
structure Wt (n : Nat) (g : Nat → GR) (t : Nat → Rat) (Q : List Q2) (xs : List Rat) (D : Int) : Prop where
  len : xs.length = n
  isl : IsL 1640 Q xs
  pos : 0 < D
  top : D ≤ Bn 42 8
  de : ∀ x ∈ xs, ∃ i : Int, x * (D : Rat) = (i : Rat) ∧ -(Bn 42 8) ≤ i ∧ i ≤ Bn 42 8
  eq : ∀ l, l < n → gt xs l = t l + lin (g l) (gt xs)
theorem isl_of {n : Nat} {D : Int} (hD : 0 < D) (hb : D < 2 ^ 1640) : ∀ {Q : List Q2} {xs : List Rat} {m : Nat}, IsL m Q xs → (∀ x ∈ xs, ∃ i : Int, x * (D : Rat) = (i : Rat) ∧ -(Bn 42 8) ≤ i ∧ i ≤ Bn 42 8) → IsL 1640 Q xs
  | [], [], _, _, _ => trivial
  | _ :: _, x :: xs, _, h, hs => by
    obtain ⟨i, i1, i2, i3⟩ := hs x List.mem_cons_self
    have r := is_den (a := 1640) (b := 1640) h.1 hD hb (nat_lt i2 i3 bn8) i1
    rw [Nat.max_self] at r
    exact ⟨r, isl_of (n := n) hD hb h.2 fun y hy => hs y (List.mem_cons_of_mem _ hy)⟩
  | [], _ :: _, _, h, _ => h.elim
  | _ :: _, [], _, h, _ => h.elim
theorem wt_of {n : Nat} {S : Int} {g : Nat → GR} {t : Nat → Rat} (L : Lead n S g) (n8 : n ≤ 8) (hS : 0 < S) (h42 : S ≤ 42) {Bd : Int → List (List Q2) → Option (List (List Q2))} (hB : ∀ l : Nat, l < n → ∃ Q, (∀ acc : List (List Q2), acc.length ≤ 1000000 → Bd (l : Int) acc = some (acc ++ [Q])) ∧ RowQ S S Q (eqV n l (g l) (t l))) :
    ∃ R Q xs D, foldO Bd (rg 0 n) [] = some R ∧ N_solutions R = some Q ∧ Wt n g t Q xs D := by
  obtain ⟨R, r1, r2⟩ := rows_go hB (by omega) n 0 [] [] (by omega) rfl trivial
  rw [List.nil_append] at r2
  have mono : ∀ k, Bn S k ≤ Bn 42 k := fun k => bn_mono hS h42 k
  obtain ⟨Q, xs, D, g1, g2, ⟨m, g3⟩, g4, g5, g6, g7⟩ := system_ok (b := 820) (C := 42) L (by omega) r2 hS h42 (fun k hk => by have := mono k; have := bn_le (B0 := 42) (by decide) (show k ≤ 7 by omega); have := bn7; omega) (by decide)
  have up : Bn S n ≤ Bn 42 8 := by have := mono n; have := bn_le (B0 := 42) (by decide) n8; omega
  have de : ∀ x ∈ xs, ∃ i : Int, x * (D : Rat) = (i : Rat) ∧ -(Bn 42 8) ≤ i ∧ i ≤ Bn 42 8 := fun x hx => by
    obtain ⟨i, i1, i2, i3⟩ := g6 x hx
    exact ⟨i, i1, by omega, by omega⟩
  have b8 := bn8
  exact ⟨R, Q, xs, D, r1, g1, g2, isl_of (n := n) g4 (by omega) g3 de, g4, by omega, de, g7⟩
def tW (p : PondT) (x : Int) : Bool := decide (p.2 ≤ x)
def tF (p : PondT) (x : Int) : Bool := decide (p.2 ≤ x) && decide (x ≤ p.1)
def sp (p : PondT) (l : Int) (k : Nat) : Rat := if p.1 < l + (k : Int) then 1 else 0
theorem given_iff {p : PondT} (hp : PondIn p) (x : Int) : (min2 p.2 (min2 p.1 x) = p.2) ↔ p.2 ≤ x := by
  have := hp.r1
  rw [min2_le, min2_le]
  omega
theorem spill_iff (p : PondT) (x : Int) : (x - min2 p.1 x = 0 ↔ x ≤ p.1) ∧ (0 < x - min2 p.1 x ↔ p.1 < x) := by
  rw [min2_le]
  omega
theorem waits_ok {p : PondT} (hp : PondIn p) {C : List Q2} {ns : List Int} {S : Int} (h : Chn C ns S) (hs : Settles p (crs ns S)) : ∃ Q xs D, N_sums_of_levels p C () () = some Q ∧ Wt (lvs_n p) (fun l => gG (tW p) p (l : Int) 0 (crs ns S)) (fun _ => 1) Q xs D := by
  obtain ⟨c1, c2, c3⟩ := Chn.chr h
  have len := h.len
  have d0 := hp.c0; have d1 := hp.c1; have r0 := hp.r0; have r1 := hp.r1
  have n8 : lvs_n p ≤ 8 := by show (p.1 - p.2 + 1).toNat ≤ 8; omega
  have L : Lead (lvs_n p) S fun l => gG (tW p) p (l : Int) 0 (crs ns S) := gG_lead hp c1.sh c2 hs fun x hx => of_decide_eq_true hx
  have o : ((1 : Int) : Rat) = 1 := rfl
  have k1 : Is 6 ((1 : Int), (1 : Int)) ((1 : Int) : Rat) := is_int (by decide) (by decide)
  rw [o] at k1
  obtain ⟨R, Q, xs, D, e1, e2, W⟩ := wt_of (t := fun _ => 1) L n8 h.pos h.top (Bd := fun (i5 : Int) (s3 : ((List (List (Int × Int))))) => ((N_months_from p C i5).bind fun months_6 => ((compL (fun (i8 : ((Int × Int) × Int × Int × Int)) => (N_does_not_fail p i8)) (fun (i8 : ((Int × Int) × Int × Int × Int)) => (some (i8.2.2.2, i8.1))) months_6).bind fun going_7 => (((some ((lvs_n p : Nat) : Int)).bind fun a11 => (some i5).bind fun a12 => (some going_7).bind fun a13 => (N_count_of_month months_6).bind fun a14 => N_equation_of a11 a12 a13 a14).bind fun x16 => (appO s3 x16).bind fun rows_15 => some rows_15)))) fun l hl => by
    have hg := goL_go (t := tW p) hp (l := (l : Int)) (by omega) 0 c1
    obtain ⟨Q, q1, q2⟩ := eqv_ok (l := l) (t := 1) h.pos (show S < 2 ^ 6 by have := h.top; omega) (by decide) (by decide) (by omega) hl hg (L.le l hl) k1 ⟨S, by grind⟩ (by decide) Rat.le_refl
    refine ⟨Q, fun acc ha => ?_, q2⟩
    have cl : compL (fun (i8 : ((Int × Int) × Int × Int × Int)) => (N_does_not_fail p i8)) (fun (i8 : ((Int × Int) × Int × Int × Int)) => (some (i8.2.2.2, i8.1))) (mths p (l : Int) 0 C) = some (goL (tW p) p (l : Int) 0 C) := by
      unfold compL
      rw [if_pos (by rw [mths_len]; omega)]
      exact goL_ok (fun c i => by
        show some (decide (min2 p.2 (min2 p.1 ((l : Int) + (i : Int))) = p.2)) = some (decide (p.2 ≤ (l : Int) + (i : Int)))
        rw [decide_eq_decide.mpr (given_iff hp _)]) C 0
    show ((N_months_from p C (l : Int)).bind _) = _
    rw [months_from_ok p (l : Int) (by omega), Option.bind_some, cl, Option.bind_some]
    show ((N_equation_of ((lvs_n p : Nat) : Int) (l : Int) (goL (tW p) p (l : Int) 0 C) ((1 : Int), (1 : Int))).bind fun x16 => (appO acc x16).bind fun rows_15 => some rows_15) = _
    rw [q1, Option.bind_some]
    unfold appO
    rw [if_pos ha]
    rfl
  refine ⟨Q, xs, D, ?_, W⟩
  unfold N_sums_of_levels N_count_of_levels
  have e : p.1 - p.2 + 1 = ((lvs_n p : Nat) : Int) := by show _ = (((p.1 - p.2 + 1).toNat : Nat) : Int); omega
  rw [Option.bind_some, e, Option.bind_some, rg_eq (by omega), Option.bind_some, e1, Option.bind_some, e2]
def spQ (p : PondT) (l : Int) : Nat → List Q2 → List Q2
  | _, [] => []
  | i, c :: C => if p.1 < l + (i : Int) then c :: spQ p l (i + 1) C else spQ p l (i + 1) C
def spV (p : PondT) (l : Int) : Nat → List Rat → List Rat
  | _, [] => []
  | i, c :: C => if p.1 < l + (i : Int) then c :: spV p l (i + 1) C else spV p l (i + 1) C
def spT (i1 : ((Int × Int) × Int × Int × Int)) : Option Bool := some (decide ((0 : Int) < i1.2.2.1))
theorem sp_ok {p : PondT} {l : Int} : ∀ (C : List Q2) (i : Nat), compO spT (fun (i1 : ((Int × Int) × Int × Int × Int)) => (some i1.1)) (mths p l i C) = some (spQ p l i C)
  | [], _ => rfl
  | c :: C, i => by
    have r := sp_ok (p := p) (l := l) C (i + 1)
    have hT : spT (c, min2 p.2 (min2 p.1 (l + (i : Int))), (l + (i : Int)) - min2 p.1 (l + (i : Int)), bhd p l (i : Int)) = some (decide (p.1 < l + (i : Int))) := congrArg some (decide_eq_decide.mpr (spill_iff p _).2)
    show compO spT _ ((c, min2 p.2 (min2 p.1 (l + (i : Int))), (l + (i : Int)) - min2 p.1 (l + (i : Int)), bhd p l (i : Int)) :: mths p l (i + 1) C) = some (if p.1 < l + (i : Int) then c :: spQ p l (i + 1) C else spQ p l (i + 1) C)
    rw [compO_cons, hT, Option.bind_some]
    by_cases e : p.1 < l + (i : Int)
    · rw [if_pos e, decide_eq_true e]
      show ((some c).bind fun y => (compO spT _ (mths p l (i + 1) C)).bind fun ys => some (y :: ys)) = _
      rw [r]
      rfl
    · rw [if_neg e, decide_eq_false e]
      show compO spT _ (mths p l (i + 1) C) = _
      rw [r]
theorem sp_isl {p : PondT} {l : Int} {S : Int} : ∀ {C : List Q2} {cs : List Rat} (i : Nat), Chr S C cs → IsL 6 (spQ p l i C) (spV p l i cs) ∧ Shr S (spV p l i cs) ∧ (spV p l i cs).sum = su (sp p l) i cs
  | [], [], _, _ => ⟨trivial, ⟨(fun x h => nomatch h), (fun x h => nomatch h)⟩, rfl⟩
  | c :: C, x :: cs, i, h => by
    obtain ⟨a, b, d⟩ := sp_isl (p := p) (l := l) (i + 1) h.tail
    show IsL 6 (if p.1 < l + (i : Int) then c :: spQ p l (i + 1) C else spQ p l (i + 1) C) (if p.1 < l + (i : Int) then x :: spV p l (i + 1) cs else spV p l (i + 1) cs) ∧ Shr S (if p.1 < l + (i : Int) then x :: spV p l (i + 1) cs else spV p l (i + 1) cs) ∧ (if p.1 < l + (i : Int) then x :: spV p l (i + 1) cs else spV p l (i + 1) cs).sum = x * (if p.1 < l + (i : Int) then 1 else 0) + su (sp p l) (i + 1) cs
    by_cases e : p.1 < l + (i : Int)
    · rw [if_pos e, if_pos e, if_pos e, List.sum_cons, d]
      exact ⟨⟨h.isl.1, a⟩, ⟨fun y m => (List.mem_cons.mp m).elim (fun w => w ▸ h.sh.dn x List.mem_cons_self) (b.dn y), fun y m => (List.mem_cons.mp m).elim (fun w => w ▸ h.sh.nn x List.mem_cons_self) (b.nn y)⟩, by grind⟩
    · rw [if_neg e, if_neg e, if_neg e, d]
      exact ⟨a, b, by grind⟩
  | [], _ :: _, _, h => h.isl.elim
  | _ :: _, [], _, h => h.isl.elim
theorem su_le {f g : Nat → Rat} (cs : List Rat) (i : Nat) (hn : ∀ x ∈ cs, 0 ≤ x) (h : ∀ k, i ≤ k → f k ≤ g k) : su f i cs ≤ su g i cs := by
  have a := (su_ge (f := fun k => g k + -(f k)) (m := 0) cs i hn fun k hk => by have := h k hk; grind).1
  have b := su_add g (fun k => -(f k)) cs i
  rw [su_neg] at b
  grind
theorem sp_in {p : PondT} {l : Int} {cs : List Rat} (hn : ∀ x ∈ cs, 0 ≤ x) : 0 ≤ su (sp p l) 0 cs ∧ su (sp p l) 0 cs ≤ cs.sum := by
  constructor
  · have a := (su_ge (f := sp p l) (m := 0) cs 0 hn fun k _ => by unfold sp; split <;> decide).1
    grind
  · have a := su_le (f := sp p l) (g := fun _ => 1) cs 0 hn fun k _ => by unfold sp; split <;> decide
    rw [su_one] at a
    exact a
theorem sum_dn {S : Int} : ∀ {v : List Rat}, Shr S v → Dn S v.sum
  | [], _ => Dn.zero S
  | x :: v, h => by
    rw [List.sum_cons]
    exact (h.dn x List.mem_cons_self).add (sum_dn ⟨fun y m => h.dn y (List.mem_cons_of_mem _ m), fun y m => h.nn y (List.mem_cons_of_mem _ m)⟩)
theorem firsts_ok {p : PondT} (hp : PondIn p) {C : List Q2} {ns : List Int} {S : Int} (h : Chn C ns S) (hs : Settles p (crs ns S)) : ∃ Q xs D, N_sums_of_levels_1 p C () () = some Q ∧ Wt (lvs_n p) (fun l => gG (tF p) p (l : Int) 0 (crs ns S)) (fun l => su (sp p (l : Int)) 0 (crs ns S)) Q xs D := by
  obtain ⟨c1, c2, c3⟩ := Chn.chr h
  have len := h.len
  have d0 := hp.c0; have d1 := hp.c1; have r0 := hp.r0; have r1 := hp.r1
  have n8 : lvs_n p ≤ 8 := by show (p.1 - p.2 + 1).toNat ≤ 8; omega
  have L : Lead (lvs_n p) S fun l => gG (tF p) p (l : Int) 0 (crs ns S) := gG_lead hp c1.sh c2 hs fun x hx => by
    unfold tF at hx
    exact of_decide_eq_true (Bool.and_eq_true_iff.mp hx).1
  obtain ⟨R, Q, xs, D, e1, e2, W⟩ := wt_of (t := fun l => su (sp p (l : Int)) 0 (crs ns S)) L n8 h.pos h.top (Bd := fun (i5 : Int) (s3 : ((List (List (Int × Int))))) => ((N_months_from p C i5).bind fun months_6 => ((compL (fun (i8 : ((Int × Int) × Int × Int × Int)) => (N_only_gives p i8)) (fun (i8 : ((Int × Int) × Int × Int × Int)) => (some (i8.2.2.2, i8.1))) months_6).bind fun going_7 => (((some ((lvs_n p : Nat) : Int)).bind fun a11 => (some i5).bind fun a12 => (some going_7).bind fun a13 => (N_chance_of_spill months_6).bind fun a14 => N_equation_of a11 a12 a13 a14).bind fun x16 => (appO s3 x16).bind fun rows_15 => some rows_15)))) fun l hl => by
    have hg := goL_go (t := tF p) hp (l := (l : Int)) (by omega) 0 c1
    obtain ⟨s1, s2, s3⟩ := sp_isl (p := p) (l := (l : Int)) 0 c1
    obtain ⟨b0, b1⟩ := sp_in (p := p) (l := (l : Int)) c1.sh.nn
    rw [c2] at b1
    obtain ⟨r, f1, _, _, f2⟩ := sums_ok (m := 0) (b := 6) h.pos (show S < 2 ^ 6 by have := h.top; omega) (by decide) (by decide) s1 s2 (by rw [s3]; exact b1)
    rw [s3] at f2
    have sd := sum_dn s2
    rw [s3] at sd
    have ft : Is 6 r (su (sp p (l : Int)) 0 (crs ns S)) := Dn.is f2 h.pos (show S < 2 ^ 6 by have := h.top; omega) sd b0 b1
    obtain ⟨Q, q1, q2⟩ := eqv_ok (l := l) (t := su (sp p (l : Int)) 0 (crs ns S)) h.pos (show S < 2 ^ 6 by have := h.top; omega) (by decide) (by decide) (by omega) hl hg (L.le l hl) ft sd b0 b1
    refine ⟨Q, fun acc ha => ?_, q2⟩
    have cl : compL (fun (i8 : ((Int × Int) × Int × Int × Int)) => (N_only_gives p i8)) (fun (i8 : ((Int × Int) × Int × Int × Int)) => (some (i8.2.2.2, i8.1))) (mths p (l : Int) 0 C) = some (goL (tF p) p (l : Int) 0 C) := by
      unfold compL
      rw [if_pos (by rw [mths_len]; omega)]
      exact goL_ok (fun c i => by
        show some (decide (min2 p.2 (min2 p.1 ((l : Int) + (i : Int))) = p.2) && decide (((l : Int) + (i : Int)) - min2 p.1 ((l : Int) + (i : Int)) = 0)) = some (decide (p.2 ≤ (l : Int) + (i : Int)) && decide ((l : Int) + (i : Int) ≤ p.1))
        rw [decide_eq_decide.mpr (given_iff hp _), decide_eq_decide.mpr (spill_iff p _).1]) C 0
    have cs : N_chance_of_spill (mths p (l : Int) 0 C) = some r := by
      have e : compL (fun (i1 : ((Int × Int) × Int × Int × Int)) => (some (decide ((0 : Int) < i1.2.2.1)))) (fun (i1 : ((Int × Int) × Int × Int × Int)) => (some i1.1)) (mths p (l : Int) 0 C) = some (spQ p (l : Int) 0 C) := by
        unfold compL
        rw [if_pos (by rw [mths_len]; omega)]
        exact sp_ok C 0
      unfold N_chance_of_spill
      rw [e, Option.bind_some, f1]
    show ((N_months_from p C (l : Int)).bind _) = _
    rw [months_from_ok p (l : Int) (by omega), Option.bind_some, cl, Option.bind_some]
    show (((N_chance_of_spill (mths p (l : Int) 0 C)).bind fun a14 => N_equation_of ((lvs_n p : Nat) : Int) (l : Int) (goL (tF p) p (l : Int) 0 C) a14).bind fun x16 => (appO acc x16).bind fun rows_15 => some rows_15) = _
    rw [cs, Option.bind_some, q1, Option.bind_some]
    unfold appO
    rw [if_pos ha]
    rfl
  refine ⟨Q, xs, D, ?_, W⟩
  unfold N_sums_of_levels_1 N_count_of_levels
  have e : p.1 - p.2 + 1 = ((lvs_n p : Nat) : Int) := by show _ = (((p.1 - p.2 + 1).toNat : Nat) : Int); omega
  rw [Option.bind_some, e, Option.bind_some, rg_eq (by omega), Option.bind_some, e1, Option.bind_some, e2]
def Wl (p : PondT) (w : Nat → Rat) (l k : Nat) : Rat := if p.2 ≤ (l : Int) + (k : Int) then w (bhd p (l : Int) (k : Int)).toNat else 0
def Fl (p : PondT) (f : Nat → Rat) (l k : Nat) : Rat := if p.1 < (l : Int) + (k : Int) then 1 else if p.2 ≤ (l : Int) + (k : Int) then f (bhd p (l : Int) (k : Int)).toNat else 0
theorem wl_eq (p : PondT) (w : Nat → Rat) (cs : List Rat) (l : Nat) : lin (gG (tW p) p (l : Int) 0 cs) w = su (Wl p w l) 0 cs := by
  rw [gG_lin]
  refine su_congr cs 0 fun k _ => ?_
  unfold Wl tW
  by_cases e : p.2 ≤ (l : Int) + (k : Int)
  · rw [if_pos e, decide_eq_true e, if_pos rfl]
  · rw [if_neg e, decide_eq_false e, if_neg (by decide)]
theorem fl_eq {p : PondT} (hp : PondIn p) (f : Nat → Rat) (cs : List Rat) (l : Nat) : su (sp p (l : Int)) 0 cs + lin (gG (tF p) p (l : Int) 0 cs) f = su (Fl p f l) 0 cs := by
  rw [gG_lin, ← su_add]
  refine su_congr cs 0 fun k _ => ?_
  have := hp.r1
  unfold Fl tF sp
  by_cases e : p.1 < (l : Int) + (k : Int)
  · rw [if_pos e, if_pos e, decide_eq_false (show ¬ (l : Int) + (k : Int) ≤ p.1 by omega), Bool.and_false, if_neg (by decide)]
    grind
  · rw [if_neg e, if_neg e, decide_eq_true (show (l : Int) + (k : Int) ≤ p.1 by omega), Bool.and_true]
    by_cases d : p.2 ≤ (l : Int) + (k : Int)
    · rw [if_pos d, decide_eq_true d, if_pos rfl]
      grind
    · rw [if_neg d, decide_eq_false d, if_neg (by decide)]
      grind
theorem waits_are {p : PondT} (hp : PondIn p) {cs : List Rat} {S : Int} (hc : Shr S cs) (h1 : cs.sum = 1) (hs : Settles p cs) {w : Nat → Rat} (hw : ∀ l, l < lvs_n p → w l = 1 + su (Wl p w l) 0 cs) : (∀ l, l < lvs_n p → 0 ≤ w l) ∧ ∀ l l', l' ≤ l → l < lvs_n p → w l' ≤ w l := by
  have L : Lead (lvs_n p) S fun l => gG (tW p) p (l : Int) 0 cs := gG_lead hp hc h1 hs fun x hx => of_decide_eq_true hx
  have n0 : ∀ l, l < lvs_n p → 0 ≤ w l := L.nn fun l hl => by rw [wl_eq, hw l hl]; grind
  have bl : ∀ l k : Nat, (bhd p (l : Int) (k : Int)).toNat < lvs_n p := fun l k => by
    obtain ⟨b0, b1⟩ := bhd_in hp (l := (l : Int)) (i := (k : Int)) (by omega) (by omega)
    show (bhd p (l : Int) (k : Int)).toNat < (p.1 - p.2 + 1).toNat
    omega
  refine ⟨n0, pairs_up hp hc.nn h1 hs (F := Wl p w) (fun l l' h hl => ?_) fun l l' k h hl => ?_⟩
  · have a := su_add (Wl p w l) (fun k => -(Wl p w l' k)) cs 0
    rw [su_neg] at a
    have e : su (fun k => Wl p w l k - Wl p w l' k) 0 cs = su (fun k => Wl p w l k + -(Wl p w l' k)) 0 cs := su_congr cs 0 fun k _ => by grind
    rw [e, a, hw l hl, hw l' (by omega)]
    grind
  · unfold Wl
    by_cases e : p.2 ≤ (l' : Int) + (k : Int)
    · rw [if_pos e, if_pos (show p.2 ≤ (l : Int) + (k : Int) by omega)]
      exact .inr ⟨e, rfl⟩
    · rw [if_neg e]
      split
      · exact .inl (by have := n0 _ (bl l k); grind)
      · exact .inl (by grind)
theorem firsts_are {p : PondT} (hp : PondIn p) {cs : List Rat} {S : Int} (hc : Shr S cs) (h1 : cs.sum = 1) (hs : Settles p cs) {f : Nat → Rat} (hf : ∀ l, l < lvs_n p → f l = su (Fl p f l) 0 cs) : (∀ l, l < lvs_n p → 0 ≤ f l ∧ f l ≤ 1) ∧ ∀ l l', l' ≤ l → l < lvs_n p → f l' ≤ f l := by
  have L : Lead (lvs_n p) S fun l => gG (tF p) p (l : Int) 0 cs := gG_lead hp hc h1 hs fun x hx => by
    unfold tF at hx
    exact of_decide_eq_true (Bool.and_eq_true_iff.mp hx).1
  have n0 : ∀ l, l < lvs_n p → 0 ≤ f l := L.nn fun l hl => by
    have a := fl_eq hp f cs l
    have b := (sp_in (p := p) (l := (l : Int)) hc.nn).1
    rw [hf l hl]
    grind
  have bl : ∀ l k : Nat, (bhd p (l : Int) (k : Int)).toNat < lvs_n p := fun l k => by
    obtain ⟨b0, b1⟩ := bhd_in hp (l := (l : Int)) (i := (k : Int)) (by omega) (by omega)
    show (bhd p (l : Int) (k : Int)).toNat < (p.1 - p.2 + 1).toNat
    omega
  have n1 : ∀ l, l < lvs_n p → 0 ≤ 1 - f l := L.nn (z := fun i => 1 - f i) fun l hl => by
    rw [gG_lin]
    have a := su_le (f := fun k => if tF p ((l : Int) + (k : Int)) = true then 1 - f (bhd p (l : Int) (k : Int)).toNat else 0) (g := fun k => 1 + -(Fl p f l k)) cs 0 hc.nn fun k _ => by
      have := hp.r1
      unfold Fl tF
      by_cases e : p.1 < (l : Int) + (k : Int)
      · rw [if_pos e, decide_eq_false (show ¬ (l : Int) + (k : Int) ≤ p.1 by omega), Bool.and_false, if_neg (by decide)]
        grind
      · rw [if_neg e, decide_eq_true (show (l : Int) + (k : Int) ≤ p.1 by omega), Bool.and_true]
        by_cases d : p.2 ≤ (l : Int) + (k : Int)
        · rw [if_pos d, decide_eq_true d, if_pos rfl]
          grind
        · rw [if_neg d, decide_eq_false d, if_neg (by decide)]
          grind
    have b := su_add (fun _ => (1 : Rat)) (fun k => -(Fl p f l k)) cs 0
    rw [su_neg, su_one, h1] at b
    rw [hf l hl]
    grind
  refine ⟨fun l hl => ⟨n0 l hl, by have := n1 l hl; grind⟩, pairs_up hp hc.nn h1 hs (F := Fl p f) (fun l l' h hl => ?_) fun l l' k h hl => ?_⟩
  · have a := su_add (Fl p f l) (fun k => -(Fl p f l' k)) cs 0
    rw [su_neg] at a
    have e : su (fun k => Fl p f l k - Fl p f l' k) 0 cs = su (fun k => Fl p f l k + -(Fl p f l' k)) 0 cs := su_congr cs 0 fun k _ => by grind
    rw [e, a]
    have x := hf l hl
    have y := hf l' (by omega)
    grind
  · unfold Fl
    have := hp.r1
    have z := n0 _ (bl l' k)
    have z1 := n1 _ (bl l' k)
    have z2 := n0 _ (bl l k)
    by_cases e : p.1 < (l : Int) + (k : Int)
    · rw [if_pos e]
      refine .inl ?_
      split
      · grind
      · split <;> grind
    · rw [if_neg e, if_neg (show ¬ p.1 < (l' : Int) + (k : Int) by omega)]
      by_cases d : p.2 ≤ (l' : Int) + (k : Int)
      · rw [if_pos d, if_pos (show p.2 ≤ (l : Int) + (k : Int) by omega)]
        exact .inr ⟨d, rfl⟩
      · rw [if_neg d]
        split
        · exact .inl (by grind)
        · exact .inl (by grind)
def giv (p : PondT) (l i : Int) : Int := min2 p.2 (min2 p.1 (l + i))
def spi (p : PondT) (l i : Int) : Int := (l + i) - min2 p.1 (l + i)
abbrev QI : Type := List (Q2 × Int × Int)
abbrev RI : Type := List (Rat × Int × Int)
noncomputable def tq (q c : Q2) : Q2 := (N_times q c).getD (0, 1)
def itI (p : PondT) (l : Int) (x : Rat) : Nat → List Rat → RI
  | i, c :: cs => (x * c, giv p l (i : Int), spi p l (i : Int)) :: itI p l x (i + 1) cs
  | _, [] => []
def itL (p : PondT) (cs : List Rat) : Nat → List Rat → RI
  | l, x :: v => itI p (l : Int) x 0 cs ++ itL p cs (l + 1) v
  | _, [] => []
def It (a : Nat) : QI → RI → Prop
  | q :: l, r :: m => Is a q.1 r.1 ∧ q.2 = r.2 ∧ It a l m
  | [], [] => True
  | _, _ => False
theorem It.app {a : Nat} : ∀ {x y : QI} {u v : RI}, It a x u → It a y v → It a (x ++ y) (u ++ v)
  | [], _, [], _, _, h => h
  | _ :: _, _, _ :: _, _, h, k => ⟨h.1, h.2.1, It.app h.2.2 k⟩
  | [], _, _ :: _, _, h, _ => h.elim
  | _ :: _, _, [], _, h, _ => h.elim
theorem It.len {a : Nat} : ∀ {x : QI} {u : RI}, It a x u → x.length = u.length
  | [], [], _ => rfl
  | _ :: _, _ :: _, h => by rw [List.length_cons, List.length_cons, It.len h.2.2]
  | [], _ :: _, h => h.elim
  | _ :: _, [], h => h.elim
def sF (r : Int) : RI → Rat
  | t :: l => (if t.2.1 < r then t.1 else 0) + sF r l
  | [] => 0
def sG : RI → Rat
  | t :: l => t.1 * (t.2.1 : Rat) + sG l
  | [] => 0
def sS : RI → Rat
  | t :: l => t.1 * (t.2.2 : Rat) + sS l
  | [] => 0
structure Gd (D : Int) (l : RI) : Prop where
  dn : ∀ t ∈ l, Dn D t.1
  nn : ∀ t ∈ l, 0 ≤ t.1
  g0 : ∀ t ∈ l, 0 ≤ t.2.1 ∧ t.2.1 ≤ 8
  s0 : ∀ t ∈ l, 0 ≤ t.2.2 ∧ t.2.2 ≤ 15
theorem Gd.tail {D : Int} {t : Rat × Int × Int} {l : RI} (h : Gd D (t :: l)) : Gd D l := ⟨fun u hu => h.dn u (List.mem_cons_of_mem _ hu), fun u hu => h.nn u (List.mem_cons_of_mem _ hu), fun u hu => h.g0 u (List.mem_cons_of_mem _ hu), fun u hu => h.s0 u (List.mem_cons_of_mem _ hu)⟩
theorem Gd.app {D : Int} {a b : RI} (h : Gd D a) (k : Gd D b) : Gd D (a ++ b) := by
  constructor <;> intro t ht <;> rcases List.mem_append.mp ht with z | z
  · exact h.dn t z
  · exact k.dn t z
  · exact h.nn t z
  · exact k.nn t z
  · exact h.g0 t z
  · exact k.g0 t z
  · exact h.s0 t z
  · exact k.s0 t z
theorem Gd.le {D : Int} (r : Int) : ∀ {l : RI}, Gd D l → 0 ≤ sF r l ∧ 0 ≤ sG l ∧ 0 ≤ sS l ∧ sF r l ≤ (l.map (·.1)).sum ∧ sG l ≤ 8 * (l.map (·.1)).sum ∧ sS l ≤ 15 * (l.map (·.1)).sum
  | [], _ => ⟨Rat.le_refl, Rat.le_refl, Rat.le_refl, Rat.le_refl, by show (0 : Rat) ≤ 8 * 0; grind, by show (0 : Rat) ≤ 15 * 0; grind⟩
  | t :: l, h => by
    obtain ⟨a1, a2, a3, a4, a5, a6⟩ := Gd.le r h.tail
    have n := h.nn t List.mem_cons_self
    obtain ⟨g0, g1⟩ := h.g0 t List.mem_cons_self
    obtain ⟨s0, s1⟩ := h.s0 t List.mem_cons_self
    have G0 : (0 : Rat) ≤ (t.2.1 : Rat) := Rat.intCast_nonneg.mpr g0
    have G1 : (t.2.1 : Rat) ≤ 8 := Rat.intCast_le_intCast.mpr g1
    have S0 : (0 : Rat) ≤ (t.2.2 : Rat) := Rat.intCast_nonneg.mpr s0
    have S1 : (t.2.2 : Rat) ≤ 15 := Rat.intCast_le_intCast.mpr s1
    have m1 := Rat.mul_nonneg n G0
    have m2 := Rat.mul_nonneg n S0
    have m3 := Rat.mul_le_mul_of_nonneg_left G1 n
    have m4 := Rat.mul_le_mul_of_nonneg_left S1 n
    show 0 ≤ (if t.2.1 < r then t.1 else 0) + sF r l ∧ 0 ≤ t.1 * (t.2.1 : Rat) + sG l ∧ 0 ≤ t.1 * (t.2.2 : Rat) + sS l ∧ (if t.2.1 < r then t.1 else 0) + sF r l ≤ t.1 + (l.map (·.1)).sum ∧ t.1 * (t.2.1 : Rat) + sG l ≤ 8 * (t.1 + (l.map (·.1)).sum) ∧ t.1 * (t.2.2 : Rat) + sS l ≤ 15 * (t.1 + (l.map (·.1)).sum)
    refine ⟨?_, by grind, by grind, ?_, by grind, by grind⟩ <;> split <;> grind
end Po
namespace Ty
open PySem PySem.Spec PyProof.Rows L2 DN
theorem alike_q (q : Q2) : alikeT 3 (e2 eI eI) (e2 eI eI) q q = some true := by
  have := alk_Q q q
  rw [decide_eq_true rfl] at this
  exact this
def dot : List Int → List Int → Int
  | x :: xs, c :: cs => x * c + dot xs cs
  | _, _ => 0
end Ty
namespace Po
open PySem PySem.Spec PyProof.Rows L2 DN Ty
structure Told (p : PondT) (C : List Q2) (cs : List Rat) (Q : List Q2) (xs : List Rat) (f g s : Q2) : Prop where
  fv : Is 1700 f (sF p.2 (itL p cs 0 xs))
  gv : Is 1700 g (sG (itL p cs 0 xs))
  sv : Is 1700 s (sS (itL p cs 0 xs))
  fe : N_found_failing p C = some f
  ge : ((N_settled_months p C).bind fun l => compL (fun (i2 : ((Int × Int) × Int × Int)) => (some true)) (fun (i2 : ((Int × Int) × Int × Int)) => (N_times i2.1 (i2.2.1, (1 : Int)))) l).bind (fun a3 => N_sum_of_ratios a3) = some g
  se : ((N_settled_months p C).bind fun l => compL (fun (i2 : ((Int × Int) × Int × Int)) => (some true)) (fun (i2 : ((Int × Int) × Int × Int)) => (N_times i2.1 (i2.2.2, (1 : Int)))) l).bind (fun a3 => N_sum_of_ratios a3) = some s
  le : sF p.2 (itL p cs 0 xs) ≤ 1 ∧ 0 ≤ sF p.2 (itL p cs 0 xs) ∧ 0 ≤ sG (itL p cs 0 xs) ∧ sG (itL p cs 0 xs) ≤ 8 ∧ 0 ≤ sS (itL p cs 0 xs) ∧ sS (itL p cs 0 xs) ≤ 15
theorem chn_len {C : List Q2} {ns : List Int} {S : Int} (h : Chn C ns S) : (crs ns S).length ≤ 6 ∧ C.length = (crs ns S).length := by
  obtain ⟨_, _, c3⟩ := Chn.chr h
  have := h.len
  have e : (crs ns S).length = ns.length := List.length_map _
  omega
end Po
namespace L26
open PySem PySem.Spec PyProof.Rows L2 DN Ty Po
theorem un2_eq : eqO ((eL eA) [eS "unsettled", eS "unsettled"]) ((eL eS) [("unsettled" : Str), ("unsettled" : Str)]) = some true := by decide +kernel
theorem bnS : Bn 42 8 * 42 < 2 ^ 1646 := by decide +kernel
theorem is_up {E : Int} {q : Q2} {v X : Rat} {m : Nat} (h : Is m q v) (hE : 0 < E) (hb : E < 2 ^ 1646) (d : Dn E v) (v0 : 0 ≤ v) (vX : v ≤ X) {M : Int} (hX : X * (E : Rat) ≤ (M : Rat)) (hM : M < 2 ^ 1646) : Is 1646 q v := by
  obtain ⟨z, hz⟩ := d
  have dp : (0 : Rat) < (E : Rat) := cast_pos hE
  have z0 : (0 : Rat) ≤ (z : Rat) := by rw [← hz]; exact Rat.mul_nonneg v0 (Rat.le_of_lt dp)
  have z1 : (z : Rat) ≤ (M : Rat) := by
    rw [← hz]
    have := Rat.mul_le_mul_of_nonneg_right vX (Rat.le_of_lt dp)
    grind
  have y0 : 0 ≤ z := Rat.intCast_le_intCast.mp z0
  have y1 : z ≤ M := Rat.intCast_le_intCast.mp z1
  have r := is_den (a := 1646) (b := 1646) h hE hb (nat_lt (B := M) (by omega) y1 hM) hz
  rw [Nat.max_self] at r
  exact r
noncomputable def iB (p : PondT) (C W F : List Q2) (i45 : Int) (i53 : Int) (s51 : ((Int × Int) × (Int × Int))) : Option ((Int × Int) × (Int × Int)) := ((N__law_month p i45 i53).bind fun p54 => ((iteO (some (decide (p54.1 = p.2))) (((some s51.1).bind fun a65 => ((atI C i53).bind fun a63 => (atI W p54.2.2).bind fun a64 => N__law_by a63 a64).bind fun a66 => N__law_plus a65 a66).bind fun wait_58 => some wait_58) (some s51.1)).bind fun s67 => (iteO (some (decide ((0 : Int) < p54.2.1))) (((some s51.2).bind fun a76 => (atI C i53).bind fun a77 => N__law_plus a76 a77).bind fun first_73 => some (s67, first_73)) (iteO (some (decide (p54.1 = p.2))) (((some s51.2).bind fun a88 => ((atI C i53).bind fun a86 => (atI F p54.2.2).bind fun a87 => N__law_by a86 a87).bind fun a89 => N__law_plus a88 a89).bind fun first_81 => some (s67, first_81)) (some (s67, s51.2))))))
structure Sm (E : Int) (X : Rat) (q : Q2) (v : Rat) : Prop where
  is : Is 1646 q v
  dn : Dn E v
  nn : 0 ≤ v
  le : v ≤ X
theorem sm_add2 {E : Int} {X : Rat} {M : Int} (hE : 0 < E) (hb : E < 2 ^ 1646) (hX : X * (E : Rat) ≤ (M : Rat)) (hM : M < 2 ^ 1646) {q u : Q2} {v x : Rat} {m : Nat} (h : Sm E X q v) (hu : Is m u x) (hm : m ≤ 6000) (dx : Dn E x) (x0 : 0 ≤ x) (le : v + x ≤ X) : ∃ r, N__law_plus q u = some r ∧ Sm E X r (v + x) := by
  obtain ⟨r, r1, r2⟩ := lplus h.is hu (by omega)
  have d := h.dn.add dx
  have n0 : 0 ≤ v + x := by have := h.nn; grind
  exact ⟨r, r1, is_up r2 hE hb d n0 le hX hM, d, n0, le⟩
section
variable {p : PondT} {S Dw Df : Int} {C0 W F : List Q2} {ws fs : List Rat} {X Y : Rat} {Mw Mf : Int}
theorem inner_ok (hp : PondIn p) {l : Nat} (hS : 0 < S)
    (ew : 0 < Dw * S) (ew2 : Dw * S < 2 ^ 1646) (hX : X * ((Dw * S : Int) : Rat) ≤ (Mw : Rat)) (hMw : Mw < 2 ^ 1646)
    (ef : 0 < Df * S) (ef2 : Df * S < 2 ^ 1646) (hY : Y * ((Df * S : Int) : Rat) ≤ (Mf : Rat)) (hMf : Mf < 2 ^ 1646)
    (hW : ∀ k, k < lvs_n p → ∃ q, atI W (k : Int) = some q ∧ Is 1640 q (gt ws k) ∧ Dn Dw (gt ws k) ∧ 0 ≤ gt ws k)
    (hF : ∀ k, k < lvs_n p → ∃ q, atI F (k : Int) = some q ∧ Is 1640 q (gt fs k) ∧ Dn Df (gt fs k) ∧ 0 ≤ gt fs k) :
    ∀ (C : List Q2) (cs : List Rat) (i : Nat) (q r : Q2) (a b : Rat), Chr S C cs → (∀ k (h : k < C.length), atI C0 ((i + k : Nat) : Int) = some C[k]) → Sm (Dw * S) X q a → Sm (Df * S) Y r b → a + su (Wl p (gt ws) l) i cs ≤ X → b + su (Po.Fl p (gt fs) l) i cs ≤ Y →
    ∃ q' r', foldO (iB p C0 W F (l : Int)) (rg i C.length) (q, r) = some (q', r') ∧ Sm (Dw * S) X q' (a + su (Wl p (gt ws) l) i cs) ∧ Sm (Df * S) Y r' (b + su (Po.Fl p (gt fs) l) i cs)
  | [], [], i, q, r, a, b, _, _, hq, hr, _, _ => ⟨q, r, rfl, by rw [show a + su (Wl p (gt ws) l) i [] = a from by show a + 0 = a; grind]; exact hq, by rw [show b + su (Po.Fl p (gt fs) l) i [] = b from by show b + 0 = b; grind]; exact hr⟩
  | c :: C, x :: cs, i, q, r, a, b, h, hg, hq, hr, ha, hb => by
    have x0 := h.sh.nn x List.mem_cons_self
    have xd := h.sh.dn x List.mem_cons_self
    have tl := h.tail
    have gi := hg 0 (by rw [List.length_cons]; omega)
    rw [Nat.add_zero] at gi
    have gi' : atI C0 (i : Int) = some c := gi
    obtain ⟨b0, b1⟩ := bhd_in hp (l := (l : Int)) (i := (i : Int)) (by omega) (by omega)
    have bl : ∀ k : Nat, (bhd p (l : Int) (k : Int)).toNat < lvs_n p := fun k => by
      obtain ⟨b0, b1⟩ := bhd_in hp (l := (l : Int)) (i := (k : Int)) (by omega) (by omega)
      show (bhd p (l : Int) (k : Int)).toNat < (p.1 - p.2 + 1).toNat
      omega
    have r1 := hp.r1
    have eb : bhd p (l : Int) (i : Int) = (((bhd p (l : Int) (i : Int)).toNat : Nat) : Int) := by omega
    obtain ⟨wq, w1, w2, w3, w4⟩ := hW _ (bl i)
    obtain ⟨fq, f1, f2, f3, f4⟩ := hF _ (bl i)
    rw [← eb] at w1 f1
    have wn : ∀ k, 0 ≤ Wl p (gt ws) l k := fun k => by
      unfold Wl
      split
      · exact (hW _ (bl k)).choose_spec.2.2.2
      · exact Rat.le_refl
    have fn : ∀ k, 0 ≤ Po.Fl p (gt fs) l k := fun k => by
      unfold Po.Fl
      split
      · decide
      · split
        · exact (hF _ (bl k)).choose_spec.2.2.2
        · exact Rat.le_refl
    have cn : ∀ y ∈ cs, 0 ≤ y := fun y m => h.sh.nn y (List.mem_cons_of_mem _ m)
    have wr : 0 ≤ su (Wl p (gt ws) l) (i + 1) cs := by have := (su_ge (f := Wl p (gt ws) l) (m := 0) cs (i + 1) cn fun k _ => wn k).1; grind
    have fr : 0 ≤ su (Po.Fl p (gt fs) l) (i + 1) cs := by have := (su_ge (f := Po.Fl p (gt fs) l) (m := 0) cs (i + 1) cn fun k _ => fn k).1; grind
    have suw : su (Wl p (gt ws) l) i (x :: cs) = x * Wl p (gt ws) l i + su (Wl p (gt ws) l) (i + 1) cs := rfl
    have suf : su (Po.Fl p (gt fs) l) i (x :: cs) = x * Po.Fl p (gt fs) l i + su (Po.Fl p (gt fs) l) (i + 1) cs := rfl
    rw [suw] at ha ⊢
    rw [suf] at hb ⊢
    have dmul : ∀ {D : Int} {v : Rat}, Dn D v → Dn (D * S) (x * v) := fun {D v} d => by
      rw [Rat.mul_comm]
      exact d.mul xd
    have dx : Dn (Df * S) (x * 1) := dmul ⟨Df, by grind⟩
    have stepW : ∃ q1, (iteO (some (decide (min2 p.2 (min2 p.1 ((l : Int) + (i : Int))) = p.2))) (((some q).bind fun a65 => ((atI C0 (i : Int)).bind fun a63 => (atI W (bhd p (l : Int) (i : Int))).bind fun a64 => N__law_by a63 a64).bind fun a66 => N__law_plus a65 a66).bind fun wait_58 => some wait_58) (some q)) = some q1 ∧ Sm (Dw * S) X q1 (a + x * Wl p (gt ws) l i) := by
      by_cases e : p.2 ≤ (l : Int) + (i : Int)
      · have wv : Wl p (gt ws) l i = gt ws (bhd p (l : Int) (i : Int)).toNat := if_pos e
        rw [decide_eq_true ((given_iff hp _).mpr e), wv]
        rw [wv] at ha
        obtain ⟨t, t1, t2⟩ := lby h.isl.1 w2 (by decide)
        obtain ⟨q1, u1, u2⟩ := sm_add2 ew ew2 hX hMw hq t2 (by decide) (dmul w3) (Rat.mul_nonneg x0 w4) (by grind)
        refine ⟨q1, ?_, u2⟩
        show (((some q).bind fun a65 => ((atI C0 (i : Int)).bind fun a63 => (atI W (bhd p (l : Int) (i : Int))).bind fun a64 => N__law_by a63 a64).bind fun a66 => N__law_plus a65 a66).bind fun wait_58 => some wait_58) = _
        rw [gi', w1]
        simp only [Option.bind_some, t1, u1]
      · have wv : Wl p (gt ws) l i = 0 := if_neg e
        rw [decide_eq_false fun z => e ((given_iff hp _).mp z), wv]
        exact ⟨q, rfl, by rw [show a + x * 0 = a by grind]; exact hq⟩
    obtain ⟨q1, s1, s2⟩ := stepW
    have stepF : ∃ r', (iteO (some (decide ((0 : Int) < ((l : Int) + (i : Int)) - min2 p.1 ((l : Int) + (i : Int))))) (((some r).bind fun a76 => (atI C0 (i : Int)).bind fun a77 => N__law_plus a76 a77).bind fun first_73 => some (q1, first_73)) (iteO (some (decide (min2 p.2 (min2 p.1 ((l : Int) + (i : Int))) = p.2))) (((some r).bind fun a88 => ((atI C0 (i : Int)).bind fun a86 => (atI F (bhd p (l : Int) (i : Int))).bind fun a87 => N__law_by a86 a87).bind fun a89 => N__law_plus a88 a89).bind fun first_81 => some (q1, first_81)) (some (q1, r)))) = some (q1, r') ∧ Sm (Df * S) Y r' (b + x * Po.Fl p (gt fs) l i) := by
      have hb' : b + x * Po.Fl p (gt fs) l i ≤ Y := by rw [← Rat.add_assoc] at hb; exact Rat.le_trans (by have := Rat.add_le_add_left (c := b + x * Po.Fl p (gt fs) l i) |>.mpr fr; rw [Rat.add_zero] at this; exact this) hb
      by_cases d : p.1 < (l : Int) + (i : Int)
      · have fv : Po.Fl p (gt fs) l i = 1 := if_pos d
        rw [decide_eq_true ((spill_iff p _).2.mpr d), fv]
        rw [fv] at hb'
        obtain ⟨r', u1, u2⟩ := sm_add2 (u := c) (x := x * 1) ef ef2 hY hMf hr (by rw [show x * 1 = x by grind]; exact h.isl.1) (by decide) dx (by grind) hb'
        refine ⟨r', ?_, u2⟩
        show (((some r).bind fun a76 => (atI C0 (i : Int)).bind fun a77 => N__law_plus a76 a77).bind fun first_73 => some (q1, first_73)) = _
        rw [gi']
        simp only [Option.bind_some, u1]
      · rw [decide_eq_false fun z => d ((spill_iff p _).2.mp z)]
        by_cases e : p.2 ≤ (l : Int) + (i : Int)
        · have fv : Po.Fl p (gt fs) l i = gt fs (bhd p (l : Int) (i : Int)).toNat := (if_neg d).trans (if_pos e)
          rw [decide_eq_true ((given_iff hp _).mpr e), fv]
          rw [fv] at hb'
          obtain ⟨t, t1, t2⟩ := lby h.isl.1 f2 (by decide)
          obtain ⟨r', u1, u2⟩ := sm_add2 ef ef2 hY hMf hr t2 (by decide) (dmul f3) (Rat.mul_nonneg x0 f4) hb'
          refine ⟨r', ?_, u2⟩
          show (((some r).bind fun a88 => ((atI C0 (i : Int)).bind fun a86 => (atI F (bhd p (l : Int) (i : Int))).bind fun a87 => N__law_by a86 a87).bind fun a89 => N__law_plus a88 a89).bind fun first_81 => some (q1, first_81)) = _
          rw [gi', f1]
          simp only [Option.bind_some, t1, u1]
        · have fv : Po.Fl p (gt fs) l i = 0 := (if_neg d).trans (if_neg e)
          rw [decide_eq_false fun z => e ((given_iff hp _).mp z), fv]
          exact ⟨r, rfl, by rw [show b + x * 0 = b by grind]; exact hr⟩
    obtain ⟨r', v1, v2⟩ := stepF
    obtain ⟨q2, r2, z1, z2, z3⟩ := inner_ok hp hS ew ew2 hX hMw ef ef2 hY hMf hW hF C cs (i + 1) q1 r' (a + x * Wl p (gt ws) l i) (b + x * Po.Fl p (gt fs) l i) tl (fun k hk => by
      have := hg (k + 1) (by rw [List.length_cons]; omega)
      rw [show i + 1 + k = i + (k + 1) by omega]
      exact this) s2 v2 (by rw [Rat.add_assoc]; exact ha) (by rw [Rat.add_assoc]; exact hb)
    refine ⟨q2, r2, ?_, by rw [← Rat.add_assoc]; exact z2, by rw [← Rat.add_assoc]; exact z3⟩
    show (iB p C0 W F (l : Int) (i : Int) (q, r)).bind (foldO (iB p C0 W F (l : Int)) (rg (i + 1) C.length)) = _
    have e : iB p C0 W F (l : Int) (i : Int) (q, r) = some (q1, r') := by
      unfold iB
      rw [month_is, Option.bind_some]
      show (iteO (some (decide (min2 p.2 (min2 p.1 ((l : Int) + (i : Int))) = p.2))) (((some q).bind fun a65 => ((atI C0 (i : Int)).bind fun a63 => (atI W (bhd p (l : Int) (i : Int))).bind fun a64 => N__law_by a63 a64).bind fun a66 => N__law_plus a65 a66).bind fun wait_58 => some wait_58) (some q)).bind _ = _
      rw [s1, Option.bind_some]
      exact v1
    rw [e, Option.bind_some]
    exact z1
  | [], _ :: _, _, _, _, _, _, h, _, _, _, _, _ => h.isl.elim
  | _ :: _, [], _, _, _, _, _, h, _, _, _, _, _ => h.isl.elim
end
theorem wt_at {n : Nat} {g : Nat → GR} {t : Nat → Rat} {Q : List Q2} {xs : List Rat} {D : Int} (W : Wt n g t Q xs D) (nn : ∀ l, l < n → 0 ≤ gt xs l) : ∀ k, k < n → ∃ q, atI Q (k : Int) = some q ∧ Is 1640 q (gt xs k) ∧ Dn D (gt xs k) ∧ 0 ≤ gt xs k := fun k hk => by
  have hk' : k < xs.length := by rw [W.len]; exact hk
  have hq : k < Q.length := by rw [W.isl.len]; exact hk'
  have e : gt xs k = xs[k] := by simp [gt, List.getD, hk']
  obtain ⟨i, i1, _⟩ := W.de xs[k] (List.getElem_mem _)
  exact ⟨Q[k], Po.atI_of hq, isl_get k hq W.isl, ⟨i, by rw [e]; exact i1⟩, nn k hk⟩
theorem wt_up {n : Nat} {g : Nat → GR} {t : Nat → Rat} {Q : List Q2} {xs : List Rat} {D S : Int} (W : Wt n g t Q xs D) (hS : 0 < S) (h42 : S ≤ 42) {k : Nat} (hk : k < n) : 0 < D * S ∧ D * S < 2 ^ 1646 ∧ gt xs k * ((D * S : Int) : Rat) ≤ ((Bn 42 8 * 42 : Int) : Rat) := by
  have hk' : k < xs.length := by rw [W.len]; exact hk
  have e : gt xs k = xs[k] := by simp [gt, List.getD, hk']
  obtain ⟨i, i1, _, i3⟩ := W.de xs[k] (List.getElem_mem _)
  have p := W.pos
  have t := W.top
  have m := Int.mul_le_mul t h42 (by omega) (by omega)
  have b := bnS
  refine ⟨Int.mul_pos p hS, by omega, ?_⟩
  have B0 : 0 ≤ Bn 42 8 := by omega
  have m2 : i * S ≤ Bn 42 8 * 42 := by
    have a1 := Int.mul_le_mul_of_nonneg_right i3 (show 0 ≤ S by omega)
    have a2 := Int.mul_le_mul_of_nonneg_left h42 B0
    omega
  rw [e, Rat.intCast_mul, ← Rat.mul_assoc, i1, ← Rat.intCast_mul]
  exact Rat.intCast_le_intCast.mpr m2
theorem level_sum {p : PondT} (hp : PondIn p) {C W F : List Q2} {cs ws fs : List Rat} {S Dw Df : Int} {gw gf : Nat → GR} {tw tf : Nat → Rat} (h : Chr S C cs) (hS : 0 < S) (h42 : S ≤ 42) (hW : Wt (lvs_n p) gw tw W ws Dw) (hF : Wt (lvs_n p) gf tf F fs Df) (w0 : ∀ l, l < lvs_n p → 0 ≤ gt ws l) (f0 : ∀ l, l < lvs_n p → 0 ≤ gt fs l)
    {l : Nat} (hl : l < lvs_n p) (we : gt ws l = 1 + su (Wl p (gt ws) l) 0 cs) (w1 : 1 ≤ gt ws l) (fe : gt fs l = su (Po.Fl p (gt fs) l) 0 cs) :
    ∃ a b, atI W (l : Int) = some a ∧ atI F (l : Int) = some b ∧ foldO (iB p C W F (l : Int)) (rg 0 C.length) (((1 : Int), (1 : Int)), ((0 : Int), (1 : Int))) = some (a, b) ∧ Is 1640 a (gt ws l) ∧ Is 1640 b (gt fs l) := by
  obtain ⟨a, a1, a2, _, _⟩ := wt_at hW w0 l hl
  obtain ⟨b, b1, b2, _, _⟩ := wt_at hF f0 l hl
  obtain ⟨u1, u2, u3⟩ := wt_up hW hS h42 hl
  obtain ⟨v1, v2, v3⟩ := wt_up hF hS h42 hl
  have z : ((0 : Int) : Rat) = 0 := rfl
  have o : ((1 : Int) : Rat) = 1 := rfl
  have k0 : Is 1646 ((0 : Int), (1 : Int)) ((0 : Int) : Rat) := is_int (Nat.two_pow_pos 1646) (by decide)
  have k1 : Is 1 ((1 : Int), (1 : Int)) ((1 : Int) : Rat) := is_int (by decide) (by decide)
  rw [z] at k0
  rw [o] at k1
  obtain ⟨q, r, e1, e2, e3⟩ := inner_ok (C0 := C) (X := gt ws l) (Y := gt fs l) hp hS u1 u2 u3 bnS v1 v2 v3 bnS (wt_at hW w0) (wt_at hF f0) C cs 0 ((1 : Int), (1 : Int)) ((0 : Int), (1 : Int)) 1 0 h (fun k hk => by rw [Nat.zero_add]; exact Po.atI_of hk) ⟨k1.mono (by decide), ⟨Dw * S, by grind⟩, by decide, w1⟩ ⟨k0, Dn.zero _, Rat.le_refl, f0 l hl⟩ (by rw [← we]; exact Rat.le_refl) (by rw [← fe]; grind)
  have x := e2.is
  rw [← we] at x
  have y := e3.is
  rw [← fe, show (0 : Rat) + gt fs l = gt fs l by grind] at y
  refine ⟨a, b, a1, b1, ?_, a2, b2⟩
  rw [e1, x.uniq a2, y.uniq b2]
theorem row_of {n : Nat} (hn : n ≤ 1000) {Q : List Q2} (hl : Q.length = n) {N : Int → Option Q2} (h : ∀ k : Nat, k < n → N (k : Int) = atI Q (k : Int)) : ((range1O (n : Int)).bind fun l => compL (fun (i28 : Int) => (some true)) (fun (i28 : Int) => N i28) l) = some Q := by
  rw [rg_eq (by omega), Option.bind_some, compL_all (g := fun i : Int => Q.getD i.toNat (0, 1)) (by rw [List.length_map, List.length_range']; omega) (fun i hi => by
    obtain ⟨k, hk, rfl⟩ := List.mem_map.mp hi
    have hk := List.mem_range'_1.mp hk
    have kq : k < Q.length := by omega
    rw [h k (by omega), Po.atI_of kq, Int.toNat_natCast]
    simp [List.getD, kq])]
  refine congrArg some (List.ext_getElem (by simp [hl]) fun i h1 h2 => ?_)
  simp [List.getElem_range', List.getD, h2]
theorem TheLaw : Law := by
  intro p C hp ⟨ns, S, h⟩
  show N_tail p C = some true
  have ck := Po.check_ok hp h
  obtain ⟨cs1, cs2⟩ := Po.check_settles_ok hp h
  obtain ⟨ls1, ls2⟩ := Po.law_settles_ok hp h
  have d1 := hp.c1; have r0 := hp.r0; have r1 := hp.r1
  have n8 : lvs_n p ≤ 8 := by show (p.1 - p.2 + 1).toNat ≤ 8; omega
  have en : p.1 - p.2 + 1 = ((lvs_n p : Nat) : Int) := by show _ = (((p.1 - p.2 + 1).toNat : Nat) : Int); omega
  unfold N_tail
  rw [Option.bind_some]
  rcases Classical.em (Settles p (crs ns S)) with hs | hs
  · refine Ty.iteF (by rw [ls1 hs]; rfl) ?_
    obtain ⟨c1, c2, c3⟩ := Chn.chr h
    obtain ⟨cl, cl2⟩ := chn_len h
    obtain ⟨W, ws, Dw, e1, hW⟩ := waits_ok hp h hs
    obtain ⟨F, fs, Df, f1, hF⟩ := firsts_ok hp h hs
    have we : ∀ l, l < lvs_n p → gt ws l = 1 + su (Wl p (gt ws) l) 0 (crs ns S) := fun l hl => by rw [← wl_eq]; exact hW.eq l hl
    have fe : ∀ l, l < lvs_n p → gt fs l = su (Po.Fl p (gt fs) l) 0 (crs ns S) := fun l hl => by rw [← fl_eq hp]; exact hF.eq l hl
    obtain ⟨w0, wm⟩ := waits_are hp c1.sh c2 hs we
    obtain ⟨f0, fm⟩ := firsts_are hp c1.sh c2 hs fe
    have lv : ∀ k : Nat, k < lvs_n p → N_check_level p (k : Int) = some () := fun k hk => level_ok (by omega) (by omega)
    have Wl' : W.length = lvs_n p := by rw [hW.isl.len, hW.len]
    have Fl' : F.length = lvs_n p := by rw [hF.isl.len, hF.len]
    have y1 : ∀ k : Nat, k < lvs_n p → N_mean_wait p C (k : Int) = atI W (k : Int) := fun k hk => by
      unfold N_mean_wait
      rw [ck, Option.bind_some, lv k hk, Option.bind_some, cs1 hs, Option.bind_some, e1]
      rfl
    have y2 : ∀ k : Nat, k < lvs_n p → N_spill_first p C (k : Int) = atI F (k : Int) := fun k hk => by
      unfold N_spill_first
      rw [ck, Option.bind_some, lv k hk, Option.bind_some, cs1 hs, Option.bind_some, f1]
      rfl
    rw [en, row_of (by omega) Wl' y1, Option.bind_some, row_of (by omega) Fl' y2, Option.bind_some]
    refine Ty.iteF ?_ ?_
    · have ca : catO W F = some (W ++ F) := by unfold catO; rw [if_pos (by omega)]
      rw [ca, Option.bind_some, compL_none (by rw [List.length_append]; omega) fun q hq => by
        have : ∃ v : Rat, Is 1640 q v ∧ 0 ≤ v := by
          rcases List.mem_append.mp hq with m | m
          · obtain ⟨k, hk, rfl⟩ := List.getElem_of_mem m
            obtain ⟨q', q1, q2, _, q3⟩ := wt_at hW w0 k (by omega)
            rw [Po.atI_of hk] at q1
            cases q1
            exact ⟨_, q2, q3⟩
          · obtain ⟨k, hk, rfl⟩ := List.getElem_of_mem m
            obtain ⟨q', q1, q2, _, q3⟩ := wt_at hF (fun l hl => (f0 l hl).1) k (by omega)
            rw [Po.atI_of hk] at q1
            cases q1
            exact ⟨_, q2, q3⟩
        obtain ⟨v, v1, v2⟩ := this
        have nn : ¬ q.1 < 0 := fun z => by
          have := (val_neg_iff v1.sz).mp z
          rw [v1.eq] at this
          grind
        rw [law_is_ratio_ok v1.sz (by decide), decide_eq_false nn]
        rfl]
      rfl
    · have one : Is 1 ((1 : Int), (1 : Int)) ((1 : Int) : Rat) := is_int (by decide) (by decide)
      have o : ((1 : Int) : Rat) = 1 := rfl
      rw [o] at one
      rw [rg_eq (by omega), Option.bind_some, foldJ_all _ fun x hx => ?_]
      · rfl
      · obtain ⟨l, hl, rfl⟩ := List.mem_map.mp hx
        have hl := List.mem_range'_1.mp hl
        have hl : l < lvs_n p := by omega
        have w1 : 1 ≤ gt ws l := by
          have a := (hW.eq l hl)
          have b := (lin_ge (m := 0) (z := gt ws) (fun j hj => w0 j hj) (gG_nn (t := tW p) hp (l := (l : Int)) (by omega) 0 c1.sh)).1
          grind
        obtain ⟨a, b, a1, b1, g1, a2, b2⟩ := level_sum hp c1 h.pos h.top hW hF w0 (fun l hl => (f0 l hl).1) hl (we l hl) w1 (fe l hl)
        show (((range1O ((C).length : Int)).bind fun l' => foldO (iB p C W F (l : Int)) l' (((1 : Int), (1 : Int)), ((0 : Int), (1 : Int)))).bind _) = _
        rw [rg_eq (by omega), Option.bind_some, g1, Option.bind_some]
        refine Ty.iteF ?_ ?_
        · rw [a1, b1, lless one b2 (by decide), decide_eq_false (by have := (f0 l hl).2; grind)]
          simp only [Option.bind_some, alike_q]
          rfl
        · refine Ty.iteF ?_ rfl
          by_cases z : (0 : Int) < (l : Int)
          · rw [decide_eq_true z]
            obtain ⟨q, q1, q2, _, _⟩ := wt_at hW w0 (l - 1) (by omega)
            obtain ⟨r, s1, s2, _, _⟩ := wt_at hF (fun l hl => (f0 l hl).1) (l - 1) (by omega)
            have el : (l : Int) - 1 = ((l - 1 : Nat) : Int) := by omega
            rw [el, a1, b1, q1, s1]
            simp only [Option.bind_some]
            rw [lless a2 q2 (by decide), lless b2 s2 (by decide), decide_eq_false (by have := wm l (l - 1) (by omega) hl; grind), decide_eq_false (by have := fm l (l - 1) (by omega) hl; grind)]
            rfl
          · rw [decide_eq_false z]
            rfl
  · obtain ⟨n1, n2⟩ := cs2 hs
    refine Ty.iteT (by rw [ls2 hs]; rfl) ?_
    have lv : N_check_level p 0 = some () := level_ok (by omega) (by omega)
    have y1 : N_mean_wait p C 0 = none := by unfold N_mean_wait; rw [ck, Option.bind_some, lv, Option.bind_some, n1]; rfl
    have y2 : N_mean_wait__r p C 0 = some true := by unfold N_mean_wait__r; rw [ck, Option.bind_some, lv, Option.bind_some, n2]
    have y3 : N_spill_first p C 0 = none := by unfold N_spill_first; rw [ck, Option.bind_some, lv, Option.bind_some, n1]; rfl
    have y4 : N_spill_first__r p C 0 = some true := by unfold N_spill_first__r; rw [ck, Option.bind_some, lv, Option.bind_some, n2]
    simp only [Option.bind_some, y1, y2, y3, y4]
    exact un2_eq
end L26
set_option maxHeartbeats 0
namespace L26
open PySem PySem.Spec PyProof.Rows L2 DN Ty
theorem facts {w : World} {K : PySem.W.Frag} {h : Heap} {mg : Str → Option Value} {f : Addr} (X : K.In h) (G : h.Ns mainGlobals mg) (hfa : mg ("law" : Str) = some (.ref f)) (c : He.SaysX fas fns [] tfs exs w h K) : LamX.LawAtS PySem.Challenge.rw_damworks_k26_whole_waits w K CX0 11 63 "script" mg f h := by
  have e := hfa.symm.trans (He.glo_ok X G (c.t.d.fact 41 (f := .glo "law") rfl))
  cases e
  have T : Txt K mg := ⟨He.free_ok X G (c.t.d.fact 42 (f := .free "abs") rfl), He.free_ok X G (c.t.d.fact 43 (f := .free "all") rfl), He.free_ok X G (c.t.d.fact 44 (f := .free "any") rfl), He.free_ok X G (c.t.d.fact 45 (f := .free "bool") rfl), He.free_ok X G (c.t.d.fact 46 (f := .free "enumerate") rfl), He.free_ok X G (c.t.d.fact 47 (f := .free "int") rfl), He.free_ok X G (c.t.d.fact 48 (f := .free "isinstance") rfl), He.free_ok X G (c.t.d.fact 49 (f := .free "len") rfl), He.free_ok X G (c.t.d.fact 50 (f := .free "list") rfl), He.free_ok X G (c.t.d.fact 51 (f := .free "min") rfl), He.free_ok X G (c.t.d.fact 52 (f := .free "range") rfl), He.free_ok X G (c.t.d.fact 53 (f := .free "str") rfl), He.free_ok X G (c.t.d.fact 54 (f := .free "sum") rfl), He.free_ok X G (c.t.d.fact 55 (f := .free "tuple") rfl), He.free_ok X G (c.t.d.fact 56 (f := .free "zip") rfl), PySem.W.mg_of X G (He.eqO_ok (show He.eqO (PySem.W.nsIn K mainGlobals "gcd") (some (some (.builtin "math.gcd"))) = true from (Bool.and_eq_true_iff.mp c.more).1)), He.int_ok X G (c.t.d.fact 57 (f := .int "LEAST_INFLOWS" 2) rfl), He.int_ok X G (c.t.d.fact 58 (f := .int "MOST_CAPACITY" 8) rfl), He.int_ok X G (c.t.d.fact 59 (f := .int "MOST_INFLOWS" 6) rfl), He.int_ok X G (c.t.d.fact 60 (f := .int "MOST_OF_CHANCE" 100) rfl)⟩
  obtain ⟨fd_is_whole, E_is_whole⟩ := c.t.d.def_ 0 (d := dd "is_whole" 8) rfl
  obtain ⟨cd_is_whole, D_is_whole⟩ := df_of (st := top 8) E_is_whole
  obtain ⟨fd_is_between, E_is_between⟩ := c.t.d.def_ 1 (d := dd "is_between" 9) rfl
  obtain ⟨cd_is_between, D_is_between⟩ := df_of (st := top 9) E_is_between
  obtain ⟨fd_is_ratio, E_is_ratio⟩ := c.t.d.def_ 2 (d := dd "is_ratio" 10) rfl
  obtain ⟨cd_is_ratio, D_is_ratio⟩ := df_of (st := top 10) E_is_ratio
  obtain ⟨fd_is_row_of_ratios, E_is_row_of_ratios⟩ := c.t.d.def_ 3 (d := dd "is_row_of_ratios" 11) rfl
  have D_is_row_of_ratios := df_gen (st := top 11) E_is_row_of_ratios
  obtain ⟨fd_ratio, E_ratio⟩ := c.t.d.def_ 4 (d := dd "ratio" 12) rfl
  obtain ⟨cd_ratio, D_ratio⟩ := df_of (st := top 12) E_ratio
  obtain ⟨fd_plus, E_plus⟩ := c.t.d.def_ 5 (d := dd "plus" 13) rfl
  obtain ⟨cd_plus, D_plus⟩ := df_of (st := top 13) E_plus
  obtain ⟨fd_minus, E_minus⟩ := c.t.d.def_ 6 (d := dd "minus" 14) rfl
  obtain ⟨cd_minus, D_minus⟩ := df_of (st := top 14) E_minus
  obtain ⟨fd_times, E_times⟩ := c.t.d.def_ 7 (d := dd "times" 15) rfl
  obtain ⟨cd_times, D_times⟩ := df_of (st := top 15) E_times
  obtain ⟨fd_divided, E_divided⟩ := c.t.d.def_ 8 (d := dd "divided" 16) rfl
  obtain ⟨cd_divided, D_divided⟩ := df_of (st := top 16) E_divided
  obtain ⟨fd_sum_of_ratios, E_sum_of_ratios⟩ := c.t.d.def_ 9 (d := dd "sum_of_ratios" 17) rfl
  obtain ⟨cd_sum_of_ratios, D_sum_of_ratios⟩ := df_of (st := top 17) E_sum_of_ratios
  obtain ⟨fd_equation_of, E_equation_of⟩ := c.t.d.def_ 10 (d := dd "equation_of" 18) rfl
  obtain ⟨cd_equation_of, D_equation_of⟩ := df_of (st := top 18) E_equation_of
  obtain ⟨fd_without_unknown, E_without_unknown⟩ := c.t.d.def_ 11 (d := dd "without_unknown" 19) rfl
  obtain ⟨cd_without_unknown, D_without_unknown⟩ := df_of (st := top 19) E_without_unknown
  obtain ⟨fd_solutions, E_solutions⟩ := c.t.d.def_ 12 (d := dd "solutions" 20) rfl
  obtain ⟨cd_solutions, D_solutions⟩ := df_of (st := top 20) E_solutions
  obtain ⟨fd_is_pond, E_is_pond⟩ := c.t.d.def_ 13 (d := dd "is_pond" 26) rfl
  obtain ⟨cd_is_pond, D_is_pond⟩ := df_of (st := top 26) E_is_pond
  obtain ⟨fd_is_chances, E_is_chances⟩ := c.t.d.def_ 14 (d := dd "is_chances" 27) rfl
  obtain ⟨cd_is_chances, D_is_chances⟩ := df_of (st := top 27) E_is_chances
  obtain ⟨fd_check_chances, E_check_chances⟩ := c.t.d.def_ 15 (d := dd "check_chances" 28) rfl
  obtain ⟨cd_check_chances, D_check_chances⟩ := df_of (st := top 28) E_check_chances
  obtain ⟨fd_check_pond, E_check_pond⟩ := c.t.d.def_ 16 (d := dd "check_pond" 29) rfl
  obtain ⟨cd_check_pond, D_check_pond⟩ := df_of (st := top 29) E_check_pond
  obtain ⟨fd_check_pond_and_chances, E_check_pond_and_chances⟩ := c.t.d.def_ 17 (d := dd "check_pond_and_chances" 30) rfl
  obtain ⟨cd_check_pond_and_chances, D_check_pond_and_chances⟩ := df_of (st := top 30) E_check_pond_and_chances
  obtain ⟨fd_count_of_levels, E_count_of_levels⟩ := c.t.d.def_ 18 (d := dd "count_of_levels" 31) rfl
  obtain ⟨cd_count_of_levels, D_count_of_levels⟩ := df_of (st := top 31) E_count_of_levels
  obtain ⟨fd_check_level, E_check_level⟩ := c.t.d.def_ 19 (d := dd "check_level" 32) rfl
  obtain ⟨cd_check_level, D_check_level⟩ := df_of (st := top 32) E_check_level
  obtain ⟨fd_check_settles, E_check_settles⟩ := c.t.d.def_ 20 (d := dd "check_settles" 33) rfl
  obtain ⟨cd_check_settles, D_check_settles⟩ := df_of (st := top 33) E_check_settles
  obtain ⟨fd_months_from, E_months_from⟩ := c.t.d.def_ 21 (d := dd "months_from" 34) rfl
  obtain ⟨cd_months_from, D_months_from⟩ := df_of (st := top 34) E_months_from
  obtain ⟨fd_does_not_fail, E_does_not_fail⟩ := c.t.d.def_ 22 (d := dd "does_not_fail" 35) rfl
  obtain ⟨cd_does_not_fail, D_does_not_fail⟩ := df_of (st := top 35) E_does_not_fail
  obtain ⟨fd_only_gives, E_only_gives⟩ := c.t.d.def_ 23 (d := dd "only_gives" 36) rfl
  obtain ⟨cd_only_gives, D_only_gives⟩ := df_of (st := top 36) E_only_gives
  obtain ⟨fd_count_of_month, E_count_of_month⟩ := c.t.d.def_ 24 (d := dd "count_of_month" 37) rfl
  obtain ⟨cd_count_of_month, D_count_of_month⟩ := df_of (st := top 37) E_count_of_month
  obtain ⟨fd_chance_of_spill, E_chance_of_spill⟩ := c.t.d.def_ 25 (d := dd "chance_of_spill" 38) rfl
  obtain ⟨cd_chance_of_spill, D_chance_of_spill⟩ := df_of (st := top 38) E_chance_of_spill
  obtain ⟨fd_sums_of_levels, E_sums_of_levels⟩ := c.t.d.def_ 26 (d := dd "sums_of_levels" 39) rfl
  obtain ⟨cd_sums_of_levels, D_sums_of_levels⟩ := df_of (st := top 39) E_sums_of_levels
  obtain ⟨fd_mean_wait, E_mean_wait⟩ := c.t.d.def_ 27 (d := dd "mean_wait" 40) rfl
  obtain ⟨cd_mean_wait, D_mean_wait⟩ := df_of (st := top 40) E_mean_wait
  obtain ⟨fd_spill_first, E_spill_first⟩ := c.t.d.def_ 28 (d := dd "spill_first" 41) rfl
  obtain ⟨cd_spill_first, D_spill_first⟩ := df_of (st := top 41) E_spill_first
  obtain ⟨fd__law_alike, E__law_alike⟩ := c.t.d.def_ 29 (d := dd "_law_alike" 45) rfl
  obtain ⟨cd__law_alike, D__law_alike⟩ := df_of (st := top 45) E__law_alike
  obtain ⟨fd__law_ratio, E__law_ratio⟩ := c.t.d.def_ 30 (d := dd "_law_ratio" 46) rfl
  obtain ⟨cd__law_ratio, D__law_ratio⟩ := df_of (st := top 46) E__law_ratio
  obtain ⟨fd__law_plus, E__law_plus⟩ := c.t.d.def_ 31 (d := dd "_law_plus" 47) rfl
  obtain ⟨cd__law_plus, D__law_plus⟩ := df_of (st := top 47) E__law_plus
  obtain ⟨fd__law_by, E__law_by⟩ := c.t.d.def_ 32 (d := dd "_law_by" 48) rfl
  obtain ⟨cd__law_by, D__law_by⟩ := df_of (st := top 48) E__law_by
  obtain ⟨fd__law_less, E__law_less⟩ := c.t.d.def_ 33 (d := dd "_law_less" 50) rfl
  obtain ⟨cd__law_less, D__law_less⟩ := df_of (st := top 50) E__law_less
  obtain ⟨fd__law_is_ratio, E__law_is_ratio⟩ := c.t.d.def_ 34 (d := dd "_law_is_ratio" 51) rfl
  obtain ⟨cd__law_is_ratio, D__law_is_ratio⟩ := df_of (st := top 51) E__law_is_ratio
  obtain ⟨fd__law_month, E__law_month⟩ := c.t.d.def_ 35 (d := dd "_law_month" 54) rfl
  obtain ⟨cd__law_month, D__law_month⟩ := df_of (st := top 54) E__law_month
  obtain ⟨fd__law_settles, E__law_settles⟩ := c.t.d.def_ 36 (d := dd "_law_settles" 57) rfl
  obtain ⟨cd__law_settles, D__law_settles⟩ := df_of (st := top 57) E__law_settles
  obtain ⟨fd__law_told, E__law_told⟩ := c.t.d.def_ 37 (d := dd "_law_told" 52) rfl
  obtain ⟨cd__law_told, D__law_told⟩ := df_of (st := top 52) E__law_told
  obtain ⟨fd__law_taken, E__law_taken⟩ := c.t.d.def_ 38 (d := dd "_law_taken" 43) rfl
  obtain ⟨cd__law_taken, D__law_taken⟩ := df_of (st := top 43) E__law_taken
  obtain ⟨fd__law_pick, E__law_pick⟩ := c.t.d.def_ 39 (d := dd "_law_pick" 44) rfl
  obtain ⟨cd__law_pick, D__law_pick⟩ := df_of (st := top 44) E__law_pick
  obtain ⟨fd__law_pond, E__law_pond⟩ := c.t.d.def_ 40 (d := dd "_law_pond" 53) rfl
  obtain ⟨cd__law_pond, D__law_pond⟩ := df_of (st := top 53) E__law_pond
  obtain ⟨fd_law, E_law⟩ := c.t.d.def_ 41 (d := dd "law" 58) rfl
  have D_law := df_gen (st := top 58) E_law
  obtain ⟨_, more2⟩ := Bool.and_eq_true_iff.mp c.more
  obtain ⟨dis, ecb⟩ := Bool.and_eq_true_iff.mp more2
  obtain ⟨ex1, ex2, ex3, ex4⟩ := He.exc_ok (c.t.d.fact 63 (f := .exc "Unsettled") rfl)
  have EXc : ExcT K mg "Unsettled" (He.ga K "Unsettled") := ⟨He.glo_ok X G (c.t.d.fact 61 (f := .glo "Unsettled") rfl), ex1, ex2, ex3, ex4⟩
  have TFc : ToldF K mg "DamError" "Unsettled" (He.ga K "Unsettled") (He.ga K "DamError") := ⟨He.glo_ok X G (c.t.d.fact 62 (f := .glo "DamError") rfl), T.b_isinstance, He.exm_ok (c.t.d.fact 64 (f := .exm "Unsettled" "DamError" true) rfl), ec_of ecb⟩
  refine end_at2 (tg := tgs) (tl := tls) (of_decide_eq_true dis) (tf_ok X c) (FunD.bindsA (ps := ["script"]) E_law (fun _ _ _ _ _ _ us hl => match us, hl with | [_], _ => rfl)) fun base XB GB TB => ?_
  have tb_is_row_of_ratios := TB _ (List.mem_map_of_mem (f := He.cT K) (show (("is_row_of_ratios", none) : He.Defn) ∈ tfs by simp [tfs, tgs]))
  have tm_is_row_of_ratios : (He.cT K ("is_row_of_ratios", none)).2 ∈ (tgs.map (He.cT K)).map (·.2) := List.mem_map_of_mem (List.mem_map_of_mem (by simp [tgs]))
  have tb_law := TB _ (List.mem_map_of_mem (f := He.cT K) (show (("law", none) : He.Defn) ∈ tfs by simp [tfs, tls]))
  have tm_law : ((He.cT K ("law", none)).2, lamQ) ∈ lsOf K tls := List.mem_map_of_mem (f := fun d : He.Defn => ((He.cT K d).2, d.1 ++ (".<locals>.<lambda>" : Str))) (a := ((("law" : Str), none) : He.Defn)) (show ((("law" : Str), none) : He.Defn) ∈ tls by simp [tls])
  have b_is_whole : Binds K fd_is_whole ["value"] [] := FunD.bindsN E_is_whole fun _ _ _ _ _ _ us hl => match us, hl with | [_], _ => rfl
  have C_is_whole : CF PySem.Challenge.rw_damworks_k26_whole_waits.prog w K mg base ⟨(tgs.map (He.cT K)).map (·.2), lsOf K tls⟩ 1 "is_whole" 1 Ty.S_is_whole := CF.of (He.glo_ok X G (c.t.d.fact 0 (f := .glo "is_whole") rfl)) D_is_whole.kp b_is_whole (ok_is_whole T D_is_whole )
  have b_is_between : Binds K fd_is_between ["value", "least", "most"] [] := FunD.bindsN E_is_between fun _ _ _ _ _ _ us hl => match us, hl with | [_, _, _], _ => rfl
  have C_is_between : CF PySem.Challenge.rw_damworks_k26_whole_waits.prog w K mg base ⟨(tgs.map (He.cT K)).map (·.2), lsOf K tls⟩ 2 "is_between" 3 Ty.S_is_between := CF.of (He.glo_ok X G (c.t.d.fact 1 (f := .glo "is_between") rfl)) D_is_between.kp b_is_between (ok_is_between T D_is_between C_is_whole)
  have b_is_ratio : Binds K fd_is_ratio ["value"] [] := FunD.bindsN E_is_ratio fun _ _ _ _ _ _ us hl => match us, hl with | [_], _ => rfl
  have C_is_ratio : CF PySem.Challenge.rw_damworks_k26_whole_waits.prog w K mg base ⟨(tgs.map (He.cT K)).map (·.2), lsOf K tls⟩ 2 "is_ratio" 1 Ty.S_is_ratio := CF.of (He.glo_ok X G (c.t.d.fact 2 (f := .glo "is_ratio") rfl)) D_is_ratio.kp b_is_ratio (ok_is_ratio T D_is_ratio C_is_whole)
  have b_is_row_of_ratios : Binds K fd_is_row_of_ratios ["value", "count"] [] := FunD.bindsN E_is_row_of_ratios fun _ _ _ _ _ _ us hl => match us, hl with | [_, _], _ => rfl
  have C_is_row_of_ratios : CF PySem.Challenge.rw_damworks_k26_whole_waits.prog w K mg base ⟨(tgs.map (He.cT K)).map (·.2), lsOf K tls⟩ 4 "is_row_of_ratios" 2 Ty.S_is_row_of_ratios := CF.of (He.glo_ok X G (c.t.d.fact 3 (f := .glo "is_row_of_ratios") rfl)) D_is_row_of_ratios.kp b_is_row_of_ratios (ok_is_row_of_ratios T tb_is_row_of_ratios tm_is_row_of_ratios D_is_row_of_ratios C_is_ratio)
  have b_ratio : Binds K fd_ratio ["top", "bottom"] [] := FunD.bindsN E_ratio fun _ _ _ _ _ _ us hl => match us, hl with | [_, _], _ => rfl
  have C_ratio : CF PySem.Challenge.rw_damworks_k26_whole_waits.prog w K mg base ⟨(tgs.map (He.cT K)).map (·.2), lsOf K tls⟩ 1 "ratio" 2 Ty.S_ratio := CF.of (He.glo_ok X G (c.t.d.fact 4 (f := .glo "ratio") rfl)) D_ratio.kp b_ratio (ok_ratio T D_ratio )
  have b_plus : Binds K fd_plus ["one", "other"] [] := FunD.bindsN E_plus fun _ _ _ _ _ _ us hl => match us, hl with | [_, _], _ => rfl
  have C_plus : CF PySem.Challenge.rw_damworks_k26_whole_waits.prog w K mg base ⟨(tgs.map (He.cT K)).map (·.2), lsOf K tls⟩ 2 "plus" 2 Ty.S_plus := CF.of (He.glo_ok X G (c.t.d.fact 5 (f := .glo "plus") rfl)) D_plus.kp b_plus (ok_plus T D_plus C_ratio)
  have b_minus : Binds K fd_minus ["one", "other"] [] := FunD.bindsN E_minus fun _ _ _ _ _ _ us hl => match us, hl with | [_, _], _ => rfl
  have C_minus : CF PySem.Challenge.rw_damworks_k26_whole_waits.prog w K mg base ⟨(tgs.map (He.cT K)).map (·.2), lsOf K tls⟩ 2 "minus" 2 Ty.S_minus := CF.of (He.glo_ok X G (c.t.d.fact 6 (f := .glo "minus") rfl)) D_minus.kp b_minus (ok_minus T D_minus C_ratio)
  have b_times : Binds K fd_times ["one", "other"] [] := FunD.bindsN E_times fun _ _ _ _ _ _ us hl => match us, hl with | [_, _], _ => rfl
  have C_times : CF PySem.Challenge.rw_damworks_k26_whole_waits.prog w K mg base ⟨(tgs.map (He.cT K)).map (·.2), lsOf K tls⟩ 2 "times" 2 Ty.S_times := CF.of (He.glo_ok X G (c.t.d.fact 7 (f := .glo "times") rfl)) D_times.kp b_times (ok_times T D_times C_ratio)
  have b_divided : Binds K fd_divided ["one", "other"] [] := FunD.bindsN E_divided fun _ _ _ _ _ _ us hl => match us, hl with | [_, _], _ => rfl
  have C_divided : CF PySem.Challenge.rw_damworks_k26_whole_waits.prog w K mg base ⟨(tgs.map (He.cT K)).map (·.2), lsOf K tls⟩ 2 "divided" 2 Ty.S_divided := CF.of (He.glo_ok X G (c.t.d.fact 8 (f := .glo "divided") rfl)) D_divided.kp b_divided (ok_divided T D_divided C_ratio)
  have b_sum_of_ratios : Binds K fd_sum_of_ratios ["ratios"] [] := FunD.bindsN E_sum_of_ratios fun _ _ _ _ _ _ us hl => match us, hl with | [_], _ => rfl
  have C_sum_of_ratios : CF PySem.Challenge.rw_damworks_k26_whole_waits.prog w K mg base ⟨(tgs.map (He.cT K)).map (·.2), lsOf K tls⟩ 3 "sum_of_ratios" 1 Ty.S_sum_of_ratios := CF.of (He.glo_ok X G (c.t.d.fact 9 (f := .glo "sum_of_ratios") rfl)) D_sum_of_ratios.kp b_sum_of_ratios (ok_sum_of_ratios T D_sum_of_ratios C_plus)
  have b_equation_of : Binds K fd_equation_of ["count", "place", "others", "total"] [] := FunD.bindsN E_equation_of fun _ _ _ _ _ _ us hl => match us, hl with | [_, _, _, _], _ => rfl
  have C_equation_of : CF PySem.Challenge.rw_damworks_k26_whole_waits.prog w K mg base ⟨(tgs.map (He.cT K)).map (·.2), lsOf K tls⟩ 3 "equation_of" 4 Ty.S_equation_of := CF.of (He.glo_ok X G (c.t.d.fact 10 (f := .glo "equation_of") rfl)) D_equation_of.kp b_equation_of (ok_equation_of T D_equation_of C_minus)
  have b_without_unknown : Binds K fd_without_unknown ["row", "place", "solved"] [] := FunD.bindsN E_without_unknown fun _ _ _ _ _ _ us hl => match us, hl with | [_, _, _], _ => rfl
  have C_without_unknown : CF PySem.Challenge.rw_damworks_k26_whole_waits.prog w K mg base ⟨(tgs.map (He.cT K)).map (·.2), lsOf K tls⟩ 3 "without_unknown" 3 Ty.S_without_unknown := CF.of (He.glo_ok X G (c.t.d.fact 11 (f := .glo "without_unknown") rfl)) D_without_unknown.kp b_without_unknown (ok_without_unknown T D_without_unknown C_minus C_times)
  have b_solutions : Binds K fd_solutions ["equations"] [] := FunD.bindsN E_solutions fun _ _ _ _ _ _ us hl => match us, hl with | [_], _ => rfl
  have C_solutions : CF PySem.Challenge.rw_damworks_k26_whole_waits.prog w K mg base ⟨(tgs.map (He.cT K)).map (·.2), lsOf K tls⟩ 4 "solutions" 1 Ty.S_solutions := CF.of (He.glo_ok X G (c.t.d.fact 12 (f := .glo "solutions") rfl)) D_solutions.kp b_solutions (ok_solutions T D_solutions C_divided C_without_unknown)
  have b_is_pond : Binds K fd_is_pond ["value"] [] := FunD.bindsN E_is_pond fun _ _ _ _ _ _ us hl => match us, hl with | [_], _ => rfl
  have C_is_pond : CF PySem.Challenge.rw_damworks_k26_whole_waits.prog w K mg base ⟨(tgs.map (He.cT K)).map (·.2), lsOf K tls⟩ 3 "is_pond" 1 Ty.S_is_pond := CF.of (He.glo_ok X G (c.t.d.fact 13 (f := .glo "is_pond") rfl)) D_is_pond.kp b_is_pond (ok_is_pond T D_is_pond C_is_between)
  have b_is_chances : Binds K fd_is_chances ["value"] [] := FunD.bindsN E_is_chances fun _ _ _ _ _ _ us hl => match us, hl with | [_], _ => rfl
  have C_is_chances : CF PySem.Challenge.rw_damworks_k26_whole_waits.prog w K mg base ⟨(tgs.map (He.cT K)).map (·.2), lsOf K tls⟩ 5 "is_chances" 1 Ty.S_is_chances := CF.of (He.glo_ok X G (c.t.d.fact 14 (f := .glo "is_chances") rfl)) D_is_chances.kp b_is_chances (ok_is_chances T D_is_chances C_is_row_of_ratios C_sum_of_ratios)
  have b_check_chances : Binds K fd_check_chances ["chances"] [] := FunD.bindsN E_check_chances fun _ _ _ _ _ _ us hl => match us, hl with | [_], _ => rfl
  have C_check_chances : CF PySem.Challenge.rw_damworks_k26_whole_waits.prog w K mg base ⟨(tgs.map (He.cT K)).map (·.2), lsOf K tls⟩ 6 "check_chances" 1 Ty.S_check_chances := CF.of (He.glo_ok X G (c.t.d.fact 15 (f := .glo "check_chances") rfl)) D_check_chances.kp b_check_chances (ok_check_chances T D_check_chances C_is_chances)
  have b_check_pond : Binds K fd_check_pond ["pond"] [] := FunD.bindsN E_check_pond fun _ _ _ _ _ _ us hl => match us, hl with | [_], _ => rfl
  have C_check_pond : CF PySem.Challenge.rw_damworks_k26_whole_waits.prog w K mg base ⟨(tgs.map (He.cT K)).map (·.2), lsOf K tls⟩ 4 "check_pond" 1 Ty.S_check_pond := CF.of (He.glo_ok X G (c.t.d.fact 16 (f := .glo "check_pond") rfl)) D_check_pond.kp b_check_pond (ok_check_pond T D_check_pond C_is_pond)
  have b_check_pond_and_chances : Binds K fd_check_pond_and_chances ["pond", "chances"] [] := FunD.bindsN E_check_pond_and_chances fun _ _ _ _ _ _ us hl => match us, hl with | [_, _], _ => rfl
  have C_check_pond_and_chances : CF PySem.Challenge.rw_damworks_k26_whole_waits.prog w K mg base ⟨(tgs.map (He.cT K)).map (·.2), lsOf K tls⟩ 7 "check_pond_and_chances" 2 Ty.S_check_pond_and_chances := CF.of (He.glo_ok X G (c.t.d.fact 17 (f := .glo "check_pond_and_chances") rfl)) D_check_pond_and_chances.kp b_check_pond_and_chances (ok_check_pond_and_chances T D_check_pond_and_chances C_check_pond C_check_chances)
  have b_count_of_levels : Binds K fd_count_of_levels ["pond"] [] := FunD.bindsN E_count_of_levels fun _ _ _ _ _ _ us hl => match us, hl with | [_], _ => rfl
  have C_count_of_levels : CF PySem.Challenge.rw_damworks_k26_whole_waits.prog w K mg base ⟨(tgs.map (He.cT K)).map (·.2), lsOf K tls⟩ 1 "count_of_levels" 1 Ty.S_count_of_levels := CF.of (He.glo_ok X G (c.t.d.fact 18 (f := .glo "count_of_levels") rfl)) D_count_of_levels.kp b_count_of_levels (ok_count_of_levels T D_count_of_levels )
  have b_check_level : Binds K fd_check_level ["pond", "level"] [] := FunD.bindsN E_check_level fun _ _ _ _ _ _ us hl => match us, hl with | [_, _], _ => rfl
  have C_check_level : CF PySem.Challenge.rw_damworks_k26_whole_waits.prog w K mg base ⟨(tgs.map (He.cT K)).map (·.2), lsOf K tls⟩ 3 "check_level" 2 Ty.S_check_level := CF.of (He.glo_ok X G (c.t.d.fact 19 (f := .glo "check_level") rfl)) D_check_level.kp b_check_level (ok_check_level T D_check_level C_is_between C_count_of_levels)
  have b_check_settles : Binds K fd_check_settles ["release", "chances"] [] := FunD.bindsN E_check_settles fun _ _ _ _ _ _ us hl => match us, hl with | [_, _], _ => rfl
  have C_check_settles : CF PySem.Challenge.rw_damworks_k26_whole_waits.prog w K mg base ⟨(tgs.map (He.cT K)).map (·.2), lsOf K tls⟩ 4 "check_settles" 2 Ty.S_check_settles := CF.of (He.glo_ok X G (c.t.d.fact 20 (f := .glo "check_settles") rfl)) D_check_settles.kp b_check_settles (ok_check_settles T D_check_settles C_sum_of_ratios)
  have C_check_settles__r : CR PySem.Challenge.rw_damworks_k26_whole_waits.prog w K mg base ⟨(tgs.map (He.cT K)).map (·.2), lsOf K tls⟩ 4 "check_settles" 2 (.ref (He.ga K "Unsettled")) (isT Ty.S_check_settles__r) := CR.of (He.glo_ok X G (c.t.d.fact 20 (f := .glo "check_settles") rfl)) D_check_settles.kp b_check_settles (okx_check_settles T D_check_settles EXc C_sum_of_ratios)
  have b_months_from : Binds K fd_months_from ["pond", "chances", "level"] [] := FunD.bindsN E_months_from fun _ _ _ _ _ _ us hl => match us, hl with | [_, _, _], _ => rfl
  have C_months_from : CF PySem.Challenge.rw_damworks_k26_whole_waits.prog w K mg base ⟨(tgs.map (He.cT K)).map (·.2), lsOf K tls⟩ 1 "months_from" 3 Ty.S_months_from := CF.of (He.glo_ok X G (c.t.d.fact 21 (f := .glo "months_from") rfl)) D_months_from.kp b_months_from (ok_months_from T D_months_from )
  have G_does_not_fail : mg "does_not_fail" = some (.ref (adM mg "does_not_fail")) := adM_ok (He.glo_ok X G (c.t.d.fact 22 (f := .glo "does_not_fail") rfl))
  have b_does_not_fail : Binds K fd_does_not_fail ["pond", "month"] [] := FunD.bindsN E_does_not_fail fun _ _ _ _ _ _ us hl => match us, hl with | [_, _], _ => rfl
  have C_does_not_fail : CF PySem.Challenge.rw_damworks_k26_whole_waits.prog w K mg base ⟨(tgs.map (He.cT K)).map (·.2), lsOf K tls⟩ 1 "does_not_fail" 2 Ty.S_does_not_fail := CF.of (He.glo_ok X G (c.t.d.fact 22 (f := .glo "does_not_fail") rfl)) D_does_not_fail.kp b_does_not_fail (ok_does_not_fail T D_does_not_fail )
  have G_only_gives : mg "only_gives" = some (.ref (adM mg "only_gives")) := adM_ok (He.glo_ok X G (c.t.d.fact 23 (f := .glo "only_gives") rfl))
  have b_only_gives : Binds K fd_only_gives ["pond", "month"] [] := FunD.bindsN E_only_gives fun _ _ _ _ _ _ us hl => match us, hl with | [_, _], _ => rfl
  have C_only_gives : CF PySem.Challenge.rw_damworks_k26_whole_waits.prog w K mg base ⟨(tgs.map (He.cT K)).map (·.2), lsOf K tls⟩ 1 "only_gives" 2 Ty.S_only_gives := CF.of (He.glo_ok X G (c.t.d.fact 23 (f := .glo "only_gives") rfl)) D_only_gives.kp b_only_gives (ok_only_gives T D_only_gives )
  have G_count_of_month : mg "count_of_month" = some (.ref (adM mg "count_of_month")) := adM_ok (He.glo_ok X G (c.t.d.fact 24 (f := .glo "count_of_month") rfl))
  have b_count_of_month : Binds K fd_count_of_month ["_"] [] := FunD.bindsN E_count_of_month fun _ _ _ _ _ _ us hl => match us, hl with | [_], _ => rfl
  have C_count_of_month : CF PySem.Challenge.rw_damworks_k26_whole_waits.prog w K mg base ⟨(tgs.map (He.cT K)).map (·.2), lsOf K tls⟩ 1 "count_of_month" 1 Ty.S_count_of_month := CF.of (He.glo_ok X G (c.t.d.fact 24 (f := .glo "count_of_month") rfl)) D_count_of_month.kp b_count_of_month (ok_count_of_month T D_count_of_month )
  have G_chance_of_spill : mg "chance_of_spill" = some (.ref (adM mg "chance_of_spill")) := adM_ok (He.glo_ok X G (c.t.d.fact 25 (f := .glo "chance_of_spill") rfl))
  have b_chance_of_spill : Binds K fd_chance_of_spill ["months"] [] := FunD.bindsN E_chance_of_spill fun _ _ _ _ _ _ us hl => match us, hl with | [_], _ => rfl
  have C_chance_of_spill : CF PySem.Challenge.rw_damworks_k26_whole_waits.prog w K mg base ⟨(tgs.map (He.cT K)).map (·.2), lsOf K tls⟩ 4 "chance_of_spill" 1 Ty.S_chance_of_spill := CF.of (He.glo_ok X G (c.t.d.fact 25 (f := .glo "chance_of_spill") rfl)) D_chance_of_spill.kp b_chance_of_spill (ok_chance_of_spill T D_chance_of_spill C_sum_of_ratios)
  have b_sums_of_levels : Binds K fd_sums_of_levels ["pond", "chances", "goes_on", "adds"] [] := FunD.bindsN E_sums_of_levels fun _ _ _ _ _ _ us hl => match us, hl with | [_, _, _, _], _ => rfl
  have C_sums_of_levels : CF PySem.Challenge.rw_damworks_k26_whole_waits.prog w K mg base ⟨(tgs.map (He.cT K)).map (·.2), lsOf K tls⟩ 5 "sums_of_levels" 4 (Ty.S_sums_of_levels (adM mg)) := CF.of (He.glo_ok X G (c.t.d.fact 26 (f := .glo "sums_of_levels") rfl)) D_sums_of_levels.kp b_sums_of_levels (ok_sums_of_levels T D_sums_of_levels G_does_not_fail G_only_gives G_count_of_month G_chance_of_spill C_count_of_levels C_months_from C_does_not_fail C_only_gives C_equation_of C_count_of_month C_chance_of_spill C_solutions)
  have b_mean_wait : Binds K fd_mean_wait ["pond", "chances", "level"] [] := FunD.bindsN E_mean_wait fun _ _ _ _ _ _ us hl => match us, hl with | [_, _, _], _ => rfl
  have C_mean_wait : CF PySem.Challenge.rw_damworks_k26_whole_waits.prog w K mg base ⟨(tgs.map (He.cT K)).map (·.2), lsOf K tls⟩ 8 "mean_wait" 3 (Ty.S_mean_wait (adM mg)) := CF.of (He.glo_ok X G (c.t.d.fact 27 (f := .glo "mean_wait") rfl)) D_mean_wait.kp b_mean_wait (ok_mean_wait T D_mean_wait G_count_of_month G_does_not_fail C_check_pond_and_chances C_check_level C_check_settles C_sums_of_levels)
  have C_mean_wait__r : CR PySem.Challenge.rw_damworks_k26_whole_waits.prog w K mg base ⟨(tgs.map (He.cT K)).map (·.2), lsOf K tls⟩ 8 "mean_wait" 3 (.ref (He.ga K "Unsettled")) (isT Ty.S_mean_wait__r) := CR.of (He.glo_ok X G (c.t.d.fact 27 (f := .glo "mean_wait") rfl)) D_mean_wait.kp b_mean_wait (okx_mean_wait T D_mean_wait EXc C_check_pond_and_chances C_check_level C_check_settles__r)
  have b_spill_first : Binds K fd_spill_first ["pond", "chances", "level"] [] := FunD.bindsN E_spill_first fun _ _ _ _ _ _ us hl => match us, hl with | [_, _, _], _ => rfl
  have C_spill_first : CF PySem.Challenge.rw_damworks_k26_whole_waits.prog w K mg base ⟨(tgs.map (He.cT K)).map (·.2), lsOf K tls⟩ 8 "spill_first" 3 (Ty.S_spill_first (adM mg)) := CF.of (He.glo_ok X G (c.t.d.fact 28 (f := .glo "spill_first") rfl)) D_spill_first.kp b_spill_first (ok_spill_first T D_spill_first G_chance_of_spill G_only_gives C_check_pond_and_chances C_check_level C_check_settles C_sums_of_levels)
  have C_spill_first__r : CR PySem.Challenge.rw_damworks_k26_whole_waits.prog w K mg base ⟨(tgs.map (He.cT K)).map (·.2), lsOf K tls⟩ 8 "spill_first" 3 (.ref (He.ga K "Unsettled")) (isT Ty.S_spill_first__r) := CR.of (He.glo_ok X G (c.t.d.fact 28 (f := .glo "spill_first") rfl)) D_spill_first.kp b_spill_first (okx_spill_first T D_spill_first EXc C_check_pond_and_chances C_check_level C_check_settles__r)
  have b__law_alike : Binds K fd__law_alike ["found", "due"] [] := FunD.bindsN E__law_alike fun _ _ _ _ _ _ us hl => match us, hl with | [_, _], _ => rfl
  have C0 : CF PySem.Challenge.rw_damworks_k26_whole_waits.prog w K mg base ⟨(tgs.map (He.cT K)).map (·.2), lsOf K tls⟩ 1 "_law_alike" 2 (Ty.S__law_alike 0) := CF.of (He.glo_ok X G (c.t.d.fact 29 (f := .glo "_law_alike") rfl)) D__law_alike.kp b__law_alike (ok__law_alike T D__law_alike)
  have C1 : CF PySem.Challenge.rw_damworks_k26_whole_waits.prog w K mg base ⟨(tgs.map (He.cT K)).map (·.2), lsOf K tls⟩ 2 "_law_alike" 2 (Ty.S__law_alike 1) := CF.of (He.glo_ok X G (c.t.d.fact 29 (f := .glo "_law_alike") rfl)) D__law_alike.kp b__law_alike (okr__law_alike T D__law_alike C0)
  have C2 : CF PySem.Challenge.rw_damworks_k26_whole_waits.prog w K mg base ⟨(tgs.map (He.cT K)).map (·.2), lsOf K tls⟩ 3 "_law_alike" 2 (Ty.S__law_alike 2) := CF.of (He.glo_ok X G (c.t.d.fact 29 (f := .glo "_law_alike") rfl)) D__law_alike.kp b__law_alike (okr__law_alike T D__law_alike C1)
  have C__law_alike : CF PySem.Challenge.rw_damworks_k26_whole_waits.prog w K mg base ⟨(tgs.map (He.cT K)).map (·.2), lsOf K tls⟩ 4 "_law_alike" 2 (Ty.S__law_alike 3) := CF.of (He.glo_ok X G (c.t.d.fact 29 (f := .glo "_law_alike") rfl)) D__law_alike.kp b__law_alike (okr__law_alike T D__law_alike C2)
  have b__law_ratio : Binds K fd__law_ratio ["top", "bottom"] [] := FunD.bindsN E__law_ratio fun _ _ _ _ _ _ us hl => match us, hl with | [_, _], _ => rfl
  have C__law_ratio : CF PySem.Challenge.rw_damworks_k26_whole_waits.prog w K mg base ⟨(tgs.map (He.cT K)).map (·.2), lsOf K tls⟩ 1 "_law_ratio" 2 Ty.S__law_ratio := CF.of (He.glo_ok X G (c.t.d.fact 30 (f := .glo "_law_ratio") rfl)) D__law_ratio.kp b__law_ratio (ok__law_ratio (fun _ => FUEL) T D__law_ratio )
  have b__law_plus : Binds K fd__law_plus ["one", "other"] [] := FunD.bindsN E__law_plus fun _ _ _ _ _ _ us hl => match us, hl with | [_, _], _ => rfl
  have C__law_plus : CF PySem.Challenge.rw_damworks_k26_whole_waits.prog w K mg base ⟨(tgs.map (He.cT K)).map (·.2), lsOf K tls⟩ 2 "_law_plus" 2 Ty.S__law_plus := CF.of (He.glo_ok X G (c.t.d.fact 31 (f := .glo "_law_plus") rfl)) D__law_plus.kp b__law_plus (ok__law_plus T D__law_plus C__law_ratio)
  have b__law_by : Binds K fd__law_by ["one", "other"] [] := FunD.bindsN E__law_by fun _ _ _ _ _ _ us hl => match us, hl with | [_, _], _ => rfl
  have C__law_by : CF PySem.Challenge.rw_damworks_k26_whole_waits.prog w K mg base ⟨(tgs.map (He.cT K)).map (·.2), lsOf K tls⟩ 2 "_law_by" 2 Ty.S__law_by := CF.of (He.glo_ok X G (c.t.d.fact 32 (f := .glo "_law_by") rfl)) D__law_by.kp b__law_by (ok__law_by T D__law_by C__law_ratio)
  have b__law_less : Binds K fd__law_less ["one", "other"] [] := FunD.bindsN E__law_less fun _ _ _ _ _ _ us hl => match us, hl with | [_, _], _ => rfl
  have C__law_less : CF PySem.Challenge.rw_damworks_k26_whole_waits.prog w K mg base ⟨(tgs.map (He.cT K)).map (·.2), lsOf K tls⟩ 1 "_law_less" 2 Ty.S__law_less := CF.of (He.glo_ok X G (c.t.d.fact 33 (f := .glo "_law_less") rfl)) D__law_less.kp b__law_less (ok__law_less T D__law_less )
  have b__law_is_ratio : Binds K fd__law_is_ratio ["value"] [] := FunD.bindsN E__law_is_ratio fun _ _ _ _ _ _ us hl => match us, hl with | [_], _ => rfl
  have C__law_is_ratio : CF PySem.Challenge.rw_damworks_k26_whole_waits.prog w K mg base ⟨(tgs.map (He.cT K)).map (·.2), lsOf K tls⟩ 2 "_law_is_ratio" 1 Ty.S__law_is_ratio := CF.of (He.glo_ok X G (c.t.d.fact 34 (f := .glo "_law_is_ratio") rfl)) D__law_is_ratio.kp b__law_is_ratio (ok__law_is_ratio T D__law_is_ratio C__law_ratio)
  have b__law_month : Binds K fd__law_month ["pond", "level", "inflow"] [] := FunD.bindsN E__law_month fun _ _ _ _ _ _ us hl => match us, hl with | [_, _, _], _ => rfl
  have C__law_month : CF PySem.Challenge.rw_damworks_k26_whole_waits.prog w K mg base ⟨(tgs.map (He.cT K)).map (·.2), lsOf K tls⟩ 1 "_law_month" 3 Ty.S__law_month := CF.of (He.glo_ok X G (c.t.d.fact 35 (f := .glo "_law_month") rfl)) D__law_month.kp b__law_month (ok__law_month T D__law_month )
  have b__law_settles : Binds K fd__law_settles ["pond", "chances"] [] := FunD.bindsN E__law_settles fun _ _ _ _ _ _ us hl => match us, hl with | [_, _], _ => rfl
  have C__law_settles : CF PySem.Challenge.rw_damworks_k26_whole_waits.prog w K mg base ⟨(tgs.map (He.cT K)).map (·.2), lsOf K tls⟩ 1 "_law_settles" 2 Ty.S__law_settles := CF.of (He.glo_ok X G (c.t.d.fact 36 (f := .glo "_law_settles") rfl)) D__law_settles.kp b__law_settles (ok__law_settles T D__law_settles )
  have b__law_told : Binds K fd__law_told ["work"] [] := FunD.bindsN E__law_told fun _ _ _ _ _ _ us hl => match us, hl with | [_], _ => rfl
  have C__law_told : Told K mg "_law_told" (He.ga K "Unsettled") "unsettled" := told_mk (Ng := ["work", "e"]) D__law_told (He.glo_ok X G (c.t.d.fact 37 (f := .glo "_law_told") rfl)) b__law_told EXc TFc ⟨rfl, rfl, rfl, by decide +kernel, rfl, by decide +kernel, by decide +kernel⟩ rfl rfl rfl rfl rfl rfl rfl rfl (fun _ => rfl)
  have b__law_taken : Binds K fd__law_taken ["row", "many"] [] := FunD.bindsN E__law_taken fun _ _ _ _ _ _ us hl => match us, hl with | [_, _], _ => rfl
  have C__law_taken : CW PySem.Challenge.rw_damworks_k26_whole_waits.prog w K mg base ⟨(tgs.map (He.cT K)).map (·.2), lsOf K tls⟩ 1 "_law_taken" 1 cTaken := ⟨_, fd__law_taken, _, (He.glo_ok X G (c.t.d.fact 38 (f := .glo "_law_taken") rfl)), D__law_taken.kp, b__law_taken, ok_taken T D__law_taken ⟩
  have b__law_pick : Binds K fd__law_pick ["row", "things"] [] := FunD.bindsN E__law_pick fun _ _ _ _ _ _ us hl => match us, hl with | [_, _], _ => rfl
  have C__law_pick : CW PySem.Challenge.rw_damworks_k26_whole_waits.prog w K mg base ⟨(tgs.map (He.cT K)).map (·.2), lsOf K tls⟩ 2 "_law_pick" 1 cPick := ⟨_, fd__law_pick, _, (He.glo_ok X G (c.t.d.fact 39 (f := .glo "_law_pick") rfl)), D__law_pick.kp, b__law_pick, ok_pick T D__law_pick C__law_taken⟩
  have b__law_pond : Binds K fd__law_pond ["row"] [] := FunD.bindsN E__law_pond fun _ _ _ _ _ _ us hl => match us, hl with | [_], _ => rfl
  have C__law_pond : CW PySem.Challenge.rw_damworks_k26_whole_waits.prog w K mg base ⟨(tgs.map (He.cT K)).map (·.2), lsOf K tls⟩ 3 "_law_pond" 0 cPond := ⟨_, fd__law_pond, _, (He.glo_ok X G (c.t.d.fact 40 (f := .glo "_law_pond") rfl)), D__law_pond.kp, b__law_pond, ok_pond T D__law_pond C__law_ratio C__law_taken C__law_pick⟩
  exact ok_law T tb_law tm_law D_law C__law_told C__law_settles C_mean_wait C_mean_wait__r C_spill_first C_spill_first__r C__law_is_ratio C__law_month C__law_plus C__law_by C__law_alike C__law_less C__law_pond (law_of (adM mg) TheLaw)
end L26
open PySem PySem.W PySem.Calls PyProof.Rows
theorem PySem.Challenge.cw_damworks_k26_whole_waits_holds : PySem.Challenge.rw_damworks_k26_whole_waits.Holds := by
  w_on; o_law
  refine HandSHeadRun.head_imp (r := L26.TheRow) (q := view L26.TheRow.prog [0, 58]) (H := L26.hk) (ob := L26.ob) (M := 9000) (loose := L26.others) (d := HandSHeadRun.topDef L26.TheRow.prog 58) (kwd := []) L26.ob_eq
    L26.run (by kernel_rfl) (by kernel_rfl) (by kernel_rfl) (by rfl) (by first | assumption | decide +kernel) (by decide +kernel) ⟨rfl, rfl, rfl, rfl, rfl, by decide +kernel⟩ ?hw ?hc
  case hw => w_witness2
  case hc =>
    refine LamX.walk_ofTsE (l := PySem.Challenge.rw_damworks_k26_whole_waits) (n := 63) (k := 11) (x := "script") (CX := fun _ => L2.CX0) rfl (by decide) (by kernel_rfl) ⟨rfl, by decide, by decide⟩ ?F (fun _ _ _ _ _ z => z)
    intro w mg fa h Y G hmg0
    obtain ⟨K, KX, c⟩ := Y
    have hmg : mg ("law" : PySem.Str) = some (.ref fa) := by
      have e : (HandSHeadRun.topDef L26.TheRow.prog 58).name = ("law" : PySem.Str) := by kernel_rfl
      rw [← e]
      exact hmg0
    exact ⟨K, KX, L26.facts KX G hmg c⟩
