import PyProof.Rows.All
import Wide.All
import OpenK.AllK
import Wide.FinOn
import HandS.Words
import HandS.Defaults
import HandS.EndTab
import HandS.HeadWalk
import HandS.Head0
import HandS.Head1
import HandS.Head2
import HandS.HeadHook4
import HandS.Head3
import HandS.ForMost
import HandS.AnyAll
import HandS.GenOver
import HandS.Lambda
import HandS.Wide
import HandS.IsInst
import HandS.Deep
import HandS.TupMul
import HandS.Gcd
import HandS.TupAny
import KE.KTupSum
import HandS.Style
import HandS.Zip
import KE.GoesMore
import KE.GoesEnum
import KE.DataMinMax
import HandS.Rev
import PyProof.Rows.ListCopyD
import HandS.NoneIn
import KE.KDictZip
import PyProof.CollectWalk
import PyProof.ListNew
import HandS.ListItems
import HandS.WordsExc
import HandS.ExcIs
import HandS.TryOnly
import HandS.SortKw
import KE.GoesEnumKw
import KE.SortData
import KE.SortKeyHeap
import HandS.SetFor
import HandS.Strs
import HandS.Flow
import KE.GoesZip
import PySem.Challenge.RW_damworks_k40_whole_ages
set_option Elab.async false
set_option linter.all false
namespace DN
open PySem PySem.Spec PyProof.Rows L2
abbrev lsOf (K : PySem.W.Frag) (tl : List He.Defn) : List (Addr × Str) := tl.map fun d => ((He.cT K d).2, d.1 ++ (".<locals>.<lambda>" : Str))
end DN
set_option maxRecDepth 100000
set_option maxHeartbeats 0
namespace L40
open PySem PySem.Spec PyProof.Rows L2 DN
def top (i : Nat) : Stmt := PySem.Challenge.pw_damworks_k40_whole_ages.main.body.getD i (.Pass ⟨0, 0, 0, 0⟩)
def tgs : List He.Defn := [("is_row_between", none), ("is_row_of_ratios", none), ("can_hold", none)]
def tls : List He.Defn := []
def exs : PySem.W.Frag → Bool := fun K => He.eqO (PySem.W.nsIn K mainGlobals "gcd") (some (some (.builtin "math.gcd")))
def dd (x : Str) (i : Nat) : He.DefD := ⟨(x, none), x, x, defArgs (top i), defBody (top i), defScope (top i), [], []⟩
def fns : List He.DefD := [dd "is_whole" 6, dd "is_between" 7, dd "is_row_between" 8, dd "is_ratio" 9, dd "is_row_of_ratios" 10, dd "ratio" 11, dd "plus" 12, dd "minus" 13, dd "times" 14, dd "divided" 15, dd "sum_of_ratios" 16, dd "is_less" 17, dd "least_ratio" 18, dd "is_inflows" 22, dd "is_dam" 23, dd "check_dam" 24, dd "levels_from" 25, dd "levels_behind" 26, dd "can_hold" 27, dd "is_plan" 28, dd "check_plan" 29, dd "parted" 31, dd "waters_of_months" 32, dd "mean_age" 33, dd "ages" 34, dd "oldest" 35, dd "_law_alike" 39, dd "_law_ratio" 40, dd "_law_plus" 41, dd "_law_by" 42, dd "_law_sum" 43, dd "_law_less" 44, dd "_law_is_ratio" 45, dd "_law_levels" 50, dd "_law_taken" 37, dd "_law_pick" 38, dd "_law_flow" 46, dd "_law_dam" 47, dd "_law_draw" 52, dd "law" 53]
def fas : List He.Fa := [.glo "is_whole", .glo "is_between", .glo "is_row_between", .glo "is_ratio", .glo "is_row_of_ratios", .glo "ratio", .glo "plus", .glo "minus", .glo "times", .glo "divided", .glo "sum_of_ratios", .glo "is_less", .glo "least_ratio", .glo "is_inflows", .glo "is_dam", .glo "check_dam", .glo "levels_from", .glo "levels_behind", .glo "can_hold", .glo "is_plan", .glo "check_plan", .glo "parted", .glo "waters_of_months", .glo "mean_age", .glo "ages", .glo "oldest", .glo "_law_alike", .glo "_law_ratio", .glo "_law_plus", .glo "_law_by", .glo "_law_sum", .glo "_law_less", .glo "_law_is_ratio", .glo "_law_levels", .glo "_law_taken", .glo "_law_pick", .glo "_law_flow", .glo "_law_dam", .glo "_law_draw", .glo "law", .free "abs", .free "all", .free "any", .free "bool", .free "enumerate", .free "int", .free "isinstance", .free "len", .free "list", .free "range", .free "str", .free "tuple", .free "zip", .int "MOST_MONTHS" 12, .int "MOST_WATER" 1000]
def tfs : List He.Defn := tgs ++ tls
def others : List PySem.Str := (["DamError", "BadDam", "BadPlan", "is_whole", "is_between", "is_row_between", "is_ratio", "is_row_of_ratios", "ratio", "plus"] : List PySem.Str) ++ (["minus", "times", "divided", "sum_of_ratios", "is_less", "least_ratio", "MOST_WATER", "MOST_MONTHS", "is_inflows", "is_dam"] : List PySem.Str) ++ (["check_dam", "levels_from", "levels_behind", "can_hold", "is_plan", "check_plan", "parted", "waters_of_months", "mean_age", "ages"] : List PySem.Str) ++ (["oldest", "_law_taken", "_law_pick", "_law_alike", "_law_ratio", "_law_plus", "_law_by", "_law_sum", "_law_less", "_law_is_ratio"] : List PySem.Str) ++ (["_law_flow", "_law_dam", "_law_demands", "_law_most_held", "_law_levels", "_law_can", "_law_draw"] : List PySem.Str)
abbrev TheRow : PySem.W.OpenRow := PySem.W.OpenLaw.row PySem.Challenge.rw_damworks_k40_whole_ages
abbrev hk : PySem.W.Hook := He.hookX 2 fas fns [] tfs exs
def ob (s : PySem.W.SharedT) : He.AlX := He.obsX 2 fas fns [] tfs exs (HandSHeadRun.getT s)
theorem ob_eq (s : PySem.W.SharedT) : ob s = hk.obs s.abs := He.obsX_eq (HandSHeadRun.getT_eq s)
theorem run (w : World) : HandSHeadRun.RunEqI TheRow (PySem.W.view TheRow.prog [0, 53]) hk ob 9000 others w := by
  unfold HandSHeadRun.RunEqI
  kernel_rfl
end L40
set_option maxHeartbeats 4000000
namespace GA
open PySem PySem.Spec PyProof.Rows L2
abbrev St := L2.St
section
variable {prog : Program} {w : World} {A : Around} {R : Result → Shared → Prop} {I : Addr}
theorem all_loop {St : Nat → Shared → Prop} (turn : ∀ m s, St m s → wpAny (model prog w) A.in1 (pyNext (.ref I)) (fun r s' => match r with
      | none => R (.ok (.ret (.bool true))) s'
      | some v => ∃ b, v = .bool b ∧ if b = true then ∃ m', m' < m ∧ St m' s' else R (.ok (.ret (.bool b))) s') (fun _ _ => False) s) :
    ∀ m s, St m s → codeAny (model prog w) A (.builtin "all.loop" ⟨[.ref I], []⟩) R s := by
  intro m
  induction m using Nat.strongRecOn with
  | ind m ih =>
    intro s hst
    refine codeAny_builtin F.entry_all_loop ?_
    rw [Around.under_plainId F.plain_all_loop _]
    show wpAny _ A.in1 (pyNext (.ref I) >>= _) _ _ s
    refine wpAny_bind (wpAny_mono (turn m s hst) (fun r s' hr => ?_) fun _ _ z => False.elim z)
    cases r with
    | none => exact wpAny_bind (wpAny_rule (wpAny_pure hr))
    | some v =>
      obtain ⟨b, rfl, hb⟩ := hr
      refine wpAny_bind (wpAny_holding (wpAny_truthy_bool ?_))
      refine wpAny_bind (wpAny_letGo ?_)
      cases b with
      | true =>
        simp only [if_true] at hb ⊢
        obtain ⟨m', hm, hs⟩ := hb
        exact wpAny_pure ⟨plainId_quiet F.plain_all_loop _, ih m' hm s' hs⟩
      | false =>
        simp only [Bool.false_eq_true, if_false] at hb ⊢
        exact wpAny_bind (wpAny_rule (wpAny_pure hb))
theorem any_loop {St : Nat → Shared → Prop} (turn : ∀ m s, St m s → wpAny (model prog w) A.in1 (pyNext (.ref I)) (fun r s' => match r with
      | none => R (.ok (.ret (.bool false))) s'
      | some v => ∃ b, v = .bool b ∧ if b = false then ∃ m', m' < m ∧ St m' s' else R (.ok (.ret (.bool b))) s') (fun _ _ => False) s) :
    ∀ m s, St m s → codeAny (model prog w) A (.builtin "any.loop" ⟨[.ref I], []⟩) R s := by
  intro m
  induction m using Nat.strongRecOn with
  | ind m ih =>
    intro s hst
    refine codeAny_builtin F.entry_any_loop ?_
    rw [Around.under_plainId F.plain_any_loop _]
    show wpAny _ A.in1 (pyNext (.ref I) >>= _) _ _ s
    refine wpAny_bind (wpAny_mono (turn m s hst) (fun r s' hr => ?_) fun _ _ z => False.elim z)
    cases r with
    | none => exact wpAny_bind (wpAny_rule (wpAny_pure hr))
    | some v =>
      obtain ⟨b, rfl, hb⟩ := hr
      refine wpAny_bind (wpAny_holding (wpAny_truthy_bool ?_))
      refine wpAny_bind (wpAny_letGo ?_)
      cases b with
      | false =>
        simp only [if_true] at hb
        simp only [Bool.false_eq_true, if_false]
        obtain ⟨m', hm, hs⟩ := hb
        exact wpAny_pure ⟨plainId_quiet F.plain_any_loop _, ih m' hm s' hs⟩
      | true =>
        simp only [Bool.true_eq_false, if_false] at hb
        simp only [if_true]
        exact wpAny_bind (wpAny_rule (wpAny_pure hb))
end
abbrev gCx (X : Cx) (s : Shared) (H : Hp) (cenv : Env) (fp : List Addr) (pn : List (Addr × Obj)) : Cx :=
  { X with A := X.A.in1.in1.deeper cenv, s_0 := s, H_0 := H, env := cenv, outer := X.stack, stack := cenv :: X.stack, ex := fp, fn := fun _ => false, pn := pn, xe := fun _ _ => False }
section
variable {X : Cx} {pins : List (Addr × Obj)} {σ : St} {H : Hp} {s s' : Shared}
theorem inv_rest (I : Inv X pins σ H s) (k : ∀ b u, s.heap.get? b = some u → s'.heap.get? b = some u) (ho : s'.os = s.os) (hb : AllBare s'.gens) : Inv X pins σ H s' := by
  have J := I.step (H' := H) (h' := s'.heap) (g' := s'.gens) (t' := s'.toks) (d' := s'.drawn) (ch := []) (fun b hb => absurd hb (by simp)) (fun b o _ _ _ e _ => k b o e) (fun b o _ _ _ e _ => ⟨o.slots, k b o e⟩)
    (fun _ _ _ _ n => n) (fun b o _ e => ⟨o, k b o e⟩) (fun _ _ q => q) (fun _ _ _ q => q) (fun b ps q => ⟨#[], by rw [q]; simp⟩) (fun m hm => let ⟨o, es, ep, ho, r⟩ := hm; ⟨o, es, ep, k _ o ho, r⟩) (I.hok.kept k) hb
  rw [GxR.sh_eta s s' ho] at J
  exact J
structure Woken (s s' : Shared) : Prop where
  heap : s'.heap = s.heap
  os : s'.os = s.os
  bare : AllBare s'.gens
  size : s.gens.size ≤ s'.gens.size
theorem Woken.inv (W : Woken s s') (I : Inv X pins σ H s) : Inv X pins σ H s' := inv_rest I (fun b u e => by rw [W.heap]; exact e) W.os W.bare
theorem bare_set {G : Array GenState} (h : AllBare G) {g : Nat} {x : GenState} (hx : x.bare = true) : AllBare (G.setIfInBounds g x) := by
  intro y hy
  obtain ⟨i, hi, rfl⟩ := Array.mem_iff_getElem.mp hy
  have hi' : i < G.size := by simpa using hi
  rw [Array.getElem_setIfInBounds hi']
  split
  · exact hx
  · exact h _ (Array.getElem_mem hi')
theorem Woken.set (hb : AllBare s.gens) {g : Nat} {x : GenState} (hx : x.bare = true) : Woken s (s.setGen g x) := ⟨rfl, rfl, bare_set hb hx, by rw [GenW.setGen_size]; exact Nat.le_refl _⟩
end
section
variable {X : Cx} {s₁ : Shared} {H₁ : Hp} {cenv : Env} {fp : List Addr} {pn : List (Addr × Obj)}
def gY (X : Cx) (s₁ : Shared) (H₁ : Hp) (cenv : Env) (fp : List Addr) (pn : List (Addr × Obj)) (ev : Bool) (G0 : Nat) (Qx : Bool → Hp → Prop) : Protocol := fun n s₀ v s kap =>
  ∃ b σ' H', v = .bool b ∧ Inv (gCx X s₁ H₁ cenv fp pn) [] σ' H' s ∧ G0 ≤ s.gens.size ∧ if b = ev then ∀ s'', Woken s s'' → kap (.send .none) s'' else Qx b H'
def gP (X : Cx) (s₁ : Shared) (H₁ : Hp) (cenv : Env) (fp : List Addr) (pn : List (Addr × Obj)) (ev : Bool) (Qx : Bool → Hp → Prop) : Nat → Shared → Shared → Prop := fun _ _ s =>
  ∃ σ' H', Inv (gCx X s₁ H₁ cenv fp pn) [] σ' H' s ∧ Qx ev H'
def gR (X : Cx) (s₁ : Shared) (H₁ : Hp) (cenv : Env) (fp : List Addr) (pn : List (Addr × Obj)) (ev : Bool) (Qx : Bool → Hp → Prop) : GenEnd := fun n s₀ r s => r = .ok .next ∧ gP X s₁ H₁ cenv fp pn ev Qx n s₀ s
theorem seg_loop {elt tg iter : Expr} {scope : Scope} {pos : Pos} {it : Addr} {tn : Nat → Heap → Prop} {J : It} {g : TG} {te : TE} {σ : St} {vs : List Nat} {ev : Bool} {G0 : Nat} {Qx : Bool → Hp → Prop} {W : Nat → Nat → Hp → Prop}
    (hc : X.calm = true) (hco : cenv.scope.isCoroutine = false) (T : Turn X.prog X.w X.K tg J fp it tn) (pg : PG (gCx X s₁ H₁ cenv fp pn) tg g) (pe : PE (gCx X s₁ H₁ cenv fp pn) elt te)
    (hpn : ∀ b ∈ fp, ∀ p ∈ pn, p.1 ≠ b)
    (turn : ∀ i m H, W i m H → (J.stop i H ∧ Qx ev H) ∨ (J.go i H ∧ ∃ Nx : Hp → Prop, (∀ H', Nx H' → ∃ m', m' < m ∧ W (i + 1) m' H') ∧ ∀ x H', J.yld i H x H' → g x (wipe σ vs) H' fun σ2 H3 => wipe σ2 vs = wipe σ vs ∧
      te σ2 H3 fun y H4 => ∃ b, y = .bl b ∧ if b = ev then Nx H4 else Qx b H4)) :
    ∀ (n i m : Nat) (H : Hp) (s₀ s : Shared), m ≤ n → W i m H → Inv (gCx X s₁ H₁ cenv fp pn) [] (wipe σ vs) H s → tn i s.heap → (∀ b ∈ fp, H b = none) → G0 ≤ s.gens.size →
      Seg (model X.prog X.w) X.A.in1.in1 (gR X s₁ H₁ cenv fp pn ev Qx) (gY X s₁ H₁ cenv fp pn ev G0 Qx) (n + 1) s₀
        (.compLoop (.GeneratorExp elt [⟨tg, iter, [], 0⟩] scope pos) 0 (.ref it) .none cenv) ((model X.prog X.w).den (.compLoop (.GeneratorExp elt [⟨tg, iter, [], 0⟩] scope pos) 0 (.ref it) .none cenv)) [] s := by
  have stat : ∀ {σ' : St} {H' : Hp} {s' : Shared}, Inv (gCx X s₁ H₁ cenv fp pn) [] σ' H' s' → (∀ b ∈ fp, H' b = none) → ∀ b ∈ fp, FpOk (gCx X s₁ H₁ cenv fp pn) [] H' b := fun {σ' H' s'} I' hn b hb =>
    ⟨hn b hb, (I'.ok.exf b hb).1, I'.ok.exfs b hb, .inl hb, fun x c e => (I'.ok.exf b hb).2 x c e, fun p hp => by
      rcases List.mem_append.mp hp with hp | hp
      · exact hpn b hb p hp
      · exact absurd hp (by simp)⟩
  intro n
  induction n using Nat.strongRecOn with
  | ind n ih =>
    intro i m H s₀ s hm w I st nfp hG
    show Seg _ X.A.in1.in1 _ _ _ s₀ _ ((compTurn (.GeneratorExp elt [⟨tg, iter, [], 0⟩] scope pos) 0 (.ref it) .none cenv).onRaise (leaving cenv)) [] s
    rw [compTurn_gen, Sem.onRaise_eq_wrap]
    refine seg_bind_wrap (wpAny_standAt ?_)
    rcases turn i m H w with ⟨stop, qq⟩ | ⟨go, Nx, hNx, step⟩
    · have td := T.done (gCx X s₁ H₁ cenv fp pn) rfl rfl rfl hc i [] s _ H (fun _ _ => False) I (stat I nfp) st stop
      refine seg_bind_wrap (thnF td fun r s6 ⟨hr, I6⟩ => ?_)
      subst hr
      exact seg_end (.ok .next) ⟨rfl, _, _, I6, qq⟩
    · have ti := T.item (gCx X s₁ H₁ cenv fp pn) rfl rfl rfl hc i [] s _ H (fun _ _ => False) I (stat I nfp) st go
      refine seg_bind_wrap (thnF (GenW.wpAny_gsz hG (wpAny_mono ti (fun _ _ z hg => (⟨hg, z⟩ : G0 ≤ _ ∧ _)) fun _ _ z _ => z)) fun r s6 ⟨hG6, u, hr, h6⟩ => ?_)
      subst hr
      refine seg_bind_wrap (thnF (GenW.wpAny_gsz hG6 (wpAny_mono h6 (fun _ _ z hg => (⟨hg, z⟩ : G0 ≤ _ ∧ _)) fun _ _ z _ => z)) fun _ s7 ⟨hG7, x, H7, I7, r7, y7, st7, n7⟩ => ?_)
      have I7' := I7.pinned (stat I7 n7) (T.obj _ _ st7)
      refine seg_bind_wrap (thnF (GenW.wpAny_gsz hG7 (wpAny_mono (pg.run _ s7 _ H7 x u _ I7' r7 (step x H7 y7)) (fun _ _ z hg => (⟨hg, z⟩ : G0 ≤ _ ∧ _)) fun _ _ z _ => z)) fun _ s8 ⟨hG8, σ8, H8, I8, hw8, q8⟩ => ?_)
      refine seg_bind_wrap (wpAny_tests_nil ?_)
      simp only [if_true]
      have hy : ∀ v, yieldOut cenv v = yieldValue v := fun v => by simp only [yieldOut, hco, Bool.false_eq_true, if_false]
      simp only [hy]
      rw [Sem.bind_eq_wrap', Sem.bind_eq_wrap', Sem.wrap_wrap, Sem.wrap_wrap]
      refine seg_wrap (thnF (GenW.wpAny_gsz hG8 (wpAny_mono (pe.run _ s8 σ8 H8 _ I8 q8) (fun _ _ z hg => (⟨hg, z⟩ : G0 ≤ _ ∧ _)) fun _ _ z _ => z)) fun z s10 ⟨hG10, yv, H10, I10, r10, b, hb, nx⟩ => ?_)
      subst hb
      obtain rfl : z = Value.bool b := r10
      refine seg_at (seg_yield rfl rfl rfl ⟨b, σ8, H10, rfl, I10.unpinned (pins := []), hG10, ?_⟩)
      by_cases hb : b = ev
      · rw [if_pos hb] at nx ⊢
        intro s'' wk
        obtain ⟨m', hm', w'⟩ := hNx H10 nx
        obtain ⟨n', rfl⟩ : ∃ n', n = n' + 1 := ⟨n - 1, by omega⟩
        have pin' : ∀ b ∈ fp, ∀ o, s7.heap.get? b = some o → s10.heap.get? b = some o ∧ H10 b = none := fun b hb o e =>
          let z := I10.pin (b, o) (List.mem_append_right _ (List.mem_append_right _ (mem_pinsAt hb e)))
          ⟨z.1, z.2.1⟩
        have hl : (wipe σ vs).length = σ8.length := by rw [← hw8, wipe_length]
        have I11 : Inv (gCx X s₁ H₁ cenv fp pn) [] (wipe σ vs) H10 s10 := (I10.unpinned (pins := [])).weak hl fun j v e => by
          rw [← hw8] at e
          exact (wipe_some e).1
        refine seg_again rfl (ih n' (by omega) (i + 1) m' H10 s'' s'' (by omega) w' (wk.inv I11) ?_ (fun b hb => ?_) (Nat.le_trans hG10 wk.size))
        · exact T.keep _ _ _ st7 fun b hb o e => by rw [wk.heap]; exact (pin' b hb o e).1
        · obtain ⟨o, e, _⟩ := T.obj _ _ st7 b hb
          exact (pin' b hb o e).2
      · rw [if_neg hb] at nx ⊢
        exact nx
theorem seg_start {elt tg iter : Expr} {scope : Scope} {pos : Pos} {it : Addr} {tn : Nat → Heap → Prop} {J : It} {R : GenEnd} {Y : Protocol} {n : Nat} {s₀ s : Shared}
    (T : Turn X.prog X.w X.K tg J fp it tn) (st : tn 0 s.heap)
    (loop : Seg (model X.prog X.w) X.A.in1.in1 R Y n s₀ (.compLoop (.GeneratorExp elt [⟨tg, iter, [], 0⟩] scope pos) 0 (.ref it) .none cenv) ((model X.prog X.w).den (.compLoop (.GeneratorExp elt [⟨tg, iter, [], 0⟩] scope pos) 0 (.ref it) .none cenv)) [] s) :
    Seg (model X.prog X.w) X.A.in1.in1 R Y n s₀ (.compStart (.GeneratorExp elt [⟨tg, iter, [], 0⟩] scope pos) 0 (.ref it) .none cenv) ((model X.prog X.w).den (.compStart (.GeneratorExp elt [⟨tg, iter, [], 0⟩] scope pos) 0 (.ref it) .none cenv)) [] s := by
  show Seg _ X.A.in1.in1 _ _ _ s₀ _ ((compStart (.GeneratorExp elt [⟨tg, iter, [], 0⟩] scope pos) 0 (.ref it) .none cenv).onRaise (leaving cenv)) [] s
  unfold compStart
  rw [Sem.onRaise_eq_wrap]
  show Seg _ X.A.in1.in1 _ _ _ s₀ _ ((ask >>= _).wrap _ _ _ _) [] s
  refine seg_bind_wrap (wpAny_askSetting ?_)
  split
  · exact seg_again rfl loop
  · first
      | exact seg_bind_wrap (wpAny_rule (seg_bind_wrap (wpAny_standAt (seg_bind_wrap (T.self _ 0 s _ _ st (seg_again rfl loop))))))
      | (refine seg_bind_wrap (wpAny_rule ?_); show Seg _ X.A.in1.in1 _ _ _ s₀ _ ((standAt iter.pos >>= _).wrap _ _ _ _) [] s; exact seg_bind_wrap (wpAny_standAt (seg_bind_wrap (T.self _ 0 s _ _ st (seg_again rfl loop)))))
def Sleeps (X : Cx) (s₁ : Shared) (H₁ : Hp) (cenv : Env) (fp : List Addr) (pn : List (Addr × Obj)) (ev : Bool) (Qx : Bool → Hp → Prop) (a : Addr) (g : Nat) (m : Nat) (s : Shared) : Prop :=
  s.heap.IsGen a g ∧ s.heap.NoLimit ∧ AllBare s.gens ∧ ∃ gs, s.gens[g]? = some gs ∧ ∀ s'', Woken s s'' → gs.Goes (model X.prog X.w) X.A.in1.in1 (gR X s₁ H₁ cenv fp pn ev Qx) (gY X s₁ H₁ cenv fp pn ev (g + 1) Qx) m (.send .none) s''
theorem sleeps_next {ev : Bool} {Qx : Bool → Hp → Prop} {a : Addr} {g m : Nat} {s : Shared} {o : Obj} (hh : X.A.handled = none) (hdp : X.A.depth < recursionLimit) (hpn : pn = [(a, o)]) (hgen : ∀ h : Heap, h.get? a = some o → h.IsGen a g)
    (S : Sleeps X s₁ H₁ cenv fp pn ev Qx a g m s) :
    wpAny (model X.prog X.w) X.A.in1 (pyNext (.ref a)) (fun r s' => match r with
      | none => ∃ σ' H', Inv (gCx X s₁ H₁ cenv fp pn) [] σ' H' s' ∧ Qx ev H'
      | some v => ∃ b, v = .bool b ∧ if b = ev then ∃ m', m' < m ∧ Sleeps X s₁ H₁ cenv fp pn ev Qx a g m' s' else ∃ σ' H', Inv (gCx X s₁ H₁ cenv fp pn) [] σ' H' s' ∧ Qx b H') (fun _ _ => False) s := by
  obtain ⟨hg, hl, hbr, gs, hgs, hgo⟩ := S
  refine wpAny_pyNext_genexpQ (A := X.A.in1) (n := m) (P := gP X s₁ H₁ cenv fp pn ev Qx) (Y := gY X s₁ H₁ cenv fp pn ev (g + 1) Qx) hh hl hdp hg hgs (hgo _ (Woken.set hbr rfl)) (fun v s2 gs' hb hv => ?_) (fun s2 hp h' hk => ?_)
  · obtain ⟨b, σ', H', hv1, I, hsz, hq⟩ := hv
    have wk : Woken s2 (s2.setGen g gs') := Woken.set I.bare hb
    refine ⟨b, hv1, ?_⟩
    by_cases hbe : b = ev
    · rw [if_pos hbe] at hq ⊢
      cases m with
      | zero => exact (hq s2 ⟨rfl, rfl, I.bare, Nat.le_refl _⟩).elim
      | succ k =>
        have I2 := wk.inv I
        refine ⟨k, Nat.lt_succ_self k, hgen _ (I2.pin (a, o) (by rw [show (gCx X s₁ H₁ cenv fp pn).pn = pn from rfl, hpn]; simp)).1, I2.nolimit, I2.bare, gs', ?_, fun s'' w2 => hq s'' ⟨w2.heap.trans wk.heap, w2.os.trans wk.os, w2.bare, Nat.le_trans wk.size w2.size⟩⟩
        have hlt : g < s2.gens.size := hsz
        simp only [Shared.setGen]
        rw [Array.getElem?_setIfInBounds_self]
        simp [hlt]
    · rw [if_neg hbe] at hq ⊢
      exact ⟨σ', H', wk.inv I, hq⟩
  · obtain ⟨σ', H', I, q⟩ := hp
    refine ⟨σ', H', inv_rest I hk rfl (bare_set I.bare rfl), q⟩
end
section
variable {X : Cx} {pins : List (Addr × Obj)} {σ : St} {H : Hp} {s s' : Shared}
theorem gen_begin {scope : Scope} {own : List (Str × Nat)} {fp : List Addr} {code : Value} {cenv : Env} {a : Addr} {o : Obj} {m : Str → Option Value} (I : Inv X pins σ H s) (ok : BlkOk X.N X.env.scope scope own) (hN : X.N.Nodup) (hcell : ∀ y ∈ scope.names, y.2 ≠ .cell)
    (hfp : ∀ b ∈ fp, FpOk X pins H b ∧ b < s.heap.objs.size) (hce : cenv = genEnv scope (cloFrom X.env.cells scope.names []) s.heap.objs.size code builtinsNs X.env)
    (kp : ∀ b o, s.heap.get? b = some o → s'.heap.get? b = some o) (ho : s'.os = s.os) (hb : AllBare s'.gens) (hns : s'.heap.Ns s.heap.objs.size m) (ha : s.heap.objs.size < a) (hga : s'.heap.get? a = some o) (hod : ∀ v, o.data ≠ .cell v) :
    Inv (gCx X s H cenv fp [(a, o)]) [] (wipe σ (own.map (·.2))) H s' := by
  have hfree : ∀ y ∈ scope.names, y.2 = .free → ∃ c, X.env.cells.lookup y.1 = some c := fun y hy e => by
    rcases ok.free y hy e with k | k
    · exact I.ok.has _ (.inl k)
    · exact I.ok.has _ (.inr k)
  have hL : cenv.locals = s.heap.objs.size := by rw [hce]; rfl
  have hcl : cenv.cells = cloFrom X.env.cells scope.names [] := by rw [hce]; rfl
  have hsc : cenv.scope = scope := by rw [hce]; rfl
  have cm : ∀ {y c}, cenv.cells.lookup y = some c → X.env.cells.lookup y = some c ∧ c < s.heap.objs.size := fun {y c} e => by
    rw [hcl] at e
    rcases cloFrom_mem (PySem.mem_of_lookup e) with hm | ⟨h1, rfl⟩
    · cases hm
    · obtain ⟨c, hc⟩ := hfree _ h1 rfl
      have hc : X.env.cells.lookup y = some c := hc
      rw [hc]
      obtain ⟨w, z⟩ := I.cell _ _ hc
      exact ⟨rfl, z.lt⟩
  have look : ∀ {y}, scope.names.lookup y = some .free → ∃ c, cenv.cells.lookup y = some c := fun {y} hl => by
    have hy : (y, NameKind.free) ∈ scope.names := PySem.mem_of_lookup hl
    rw [hcl]
    exact mem_lookup (cloFrom_has (cells := X.env.cells) (acc := []) hy)
  have okB : (gCx X s H cenv fp [(a, o)]).Ok := by
    refine ⟨I.ok.mod, by show cenv.scope.kind = _; rw [hsc]; exact ok.kind, by show cenv.globals = _; rw [hce]; exact I.ok.glob, by show cenv.builtins = _; rw [hce]; rfl, by show s.heap.objs.size ≤ cenv.locals; rw [hL]; exact Nat.le_refl _,
      fun y z c e1 e2 => I.ok.inj y z c (cm e1).1 (cm e2).1, fun y hy => ?_, fun y c z _ => absurd (show false = true from z) Bool.false_ne_true, fun h => I.ok.hd h, Around.frames_deeper (A := X.A.in1.in1) I.ok.frames, .inr ⟨rfl, by show cenv.frame = some cenv.locals; rw [hce]; rfl⟩, fun b hb => ⟨?_, fun y c e z => ?_⟩, I.bs, Nat.le_trans I.ok.bsz I.sz, fun b o e hb => ?_, fun b hb z => ?_, I.stack, I.stkFree⟩
    · show ∃ c, cenv.cells.lookup y = some c
      have hy : cenv.scope.names.lookup y = some .cell ∨ cenv.scope.names.lookup y = some .free := hy
      rw [hsc] at hy
      rcases hy with hy | hy
      · exact absurd rfl (hcell _ (PySem.mem_of_lookup hy))
      · exact look hy
    · show b ≠ cenv.locals
      rw [hL]; exact Nat.ne_of_lt (hfp b hb).2
    · have e : cenv.cells.lookup y = some c := e
      exact (hfp b hb).1.2.2.2.2.1 y c (cm e).1 z
    · rcases (hfp b hb).1.2.2.2.1 with z | z
      · exact I.ok.noex b o e z
      · exact absurd (Nat.lt_of_lt_of_le (Heap.lt_size e) (Nat.le_trans I.ok.bsz z)) (Nat.lt_irrefl _)
    · rcases List.mem_cons.mp (I.stkSub b z) with z | z
      · exact (hfp b hb).1.2.1 z
      · exact (hfp b hb).1.2.2.1 z
  have nofr : a ∉ frs X.stack := fun z => by
    rcases List.mem_cons.mp (I.stkSub _ z) with e | e
    · have h1 := I.lt
      rw [← e] at h1
      exact absurd (Nat.lt_trans h1 ha) (Nat.lt_irrefl _)
    · exact I.nofs (Nat.le_of_lt ha) e
  refine ⟨okB, ho, hb, Un.kept kp, ⟨m, ?_, fun i y av e1 e2 e3 => ?_⟩, fun y c e => ?_, ?_, fun y c e => ?_, fun p hp => ?_, I.hok.kept kp, by rw [wipe_length]; exact I.len⟩
  · show Heap.Ns _ cenv.locals _
    rw [hL]
    exact hns
  · obtain ⟨e2, hne⟩ := wipe_some e2
    have e3 : Vis cenv.scope y := e3
    rw [hsc] at e3
    have no : ∀ k, scope.names.lookup y = some k → ¬ (k = .local ∨ k = .cell) := fun k hk hh => by
      rcases ok.own _ (PySem.mem_of_lookup hk) hh with e' | e'
      · obtain ⟨p, hp, hpy⟩ := List.mem_map.mp e'
        have e3 := ok.ix p hp
        have : p.1 = y := hpy
        rw [this] at e3
        exact hne (List.mem_map.mpr ⟨p, hp, nodup_ix hN e3 e1⟩)
      · exact e' (List.mem_of_getElem? e1)
    have hfr : scope.names.lookup y = some .free := by
      rcases e3 with e3 | e3 | e3
      · exact absurd (.inl rfl) (no _ e3)
      · exact absurd (.inr rfl) (no _ e3)
      · exact e3
    obtain ⟨m', hn, hl⟩ := I.loc
    have hvis : Vis X.env.scope y := (ok.free _ (PySem.mem_of_lookup hfr) rfl).elim (fun k => .inr (.inl k)) (fun k => .inr (.inr k))
    obtain ⟨w', r, q⟩ := hl i y av e1 e2 hvis
    obtain ⟨c, h1⟩ := look hfr
    refine ⟨w', r, .inr ⟨.inr (by show cenv.scope.names.lookup y = _; rw [hsc]; exact hfr), c, h1, ?_⟩⟩
    have h2 := (cm h1).1
    rcases q with ⟨k, _⟩ | ⟨_, c', e', z⟩
    · have k : X.env.scope.names.lookup y = some .local := k
      rcases ok.free _ (PySem.mem_of_lookup hfr) rfl with k' | k' <;> rw [show X.env.scope.names.lookup y = _ from k'] at k <;> cases k
    · rw [h2] at e'; cases e'
      exact z.keeps kp
  · have e : cenv.cells.lookup y = some c := e
    obtain ⟨w', z⟩ := I.cell y c (cm e).1
    exact ⟨w', z.keeps kp⟩
  · show H cenv.locals = none
    rw [hL]; exact I.hok.fresh (Nat.le_refl _)
  · have e : cenv.cells.lookup y = some c := e
    exact I.freeC y c (cm e).1
  · have hp : p = (a, o) := by simpa using hp
    subst hp
    exact ⟨hga, I.hok.fresh (Nat.le_of_lt ha), by show a ≠ cenv.locals; rw [hL]; exact Nat.ne_of_gt ha, nofr, hod⟩
end
structure GenK (scope : Scope) : Prop where
  co : scope.isCoroutine = false
  cell : ∀ y ∈ scope.names, y.2 ≠ .cell
  dot : scope.names.lookup (".0" : Str) = some NameKind.local
def genKB (scope : Scope) : Bool := !scope.isCoroutine && (scope.names.all fun y => !decide (y.2 = .cell)) && decide (scope.names.lookup (".0" : Str) = some NameKind.local)
theorem genK_by {scope : Scope} (h : genKB scope = true) : GenK scope := by
  unfold genKB at h
  simp only [Bool.and_eq_true, Bool.not_eq_true', List.all_eq_true, decide_eq_true_eq, decide_eq_false_iff_not] at h
  exact ⟨h.1.1, h.1.2, h.2⟩
def GTurn (ev : Bool) (g : TG) (te : TE) (vs : List Nat) (σ : St) (Qx : Bool → Hp → Prop) (J : It) (H2 : Hp) : Prop :=
  ∃ W : Nat → Nat → Hp → Prop, (∃ m, W 0 m H2) ∧ ∀ i m H, W i m H → (J.stop i H ∧ Qx ev H) ∨ (J.go i H ∧ ∃ Nx : Hp → Prop, (∀ H', Nx H' → ∃ m', m' < m ∧ W (i + 1) m' H') ∧ ∀ x H', J.yld i H x H' → g x (wipe σ vs) H' fun σ2 H3 => wipe σ2 vs = wipe σ vs ∧
      te σ2 H3 fun y H4 => ∃ b, y = .bl b ∧ if b = ev then Nx H4 else Qx b H4)
def tGen (ev : Bool) (P : Addr) (wi : TI) (g : TG) (te : TE) (vs : List Nat) : TE := fun σ H Q => wi σ H fun J H1 => GxR.TabG H1 P ∧ ∀ H2, GxR.Tabbed P H1 H2 → GTurn ev g te vs σ (fun b H' => Q (.bl b) H') J H2
section
variable {X : Cx} {pins : List (Addr × Obj)} {σ : St} {H : Hp} {s : Shared}
theorem gen_make {ev : Bool} {c P : Addr} {elt tg iter : Expr} {scope : Scope} {own : List (Str × Nat)} {gpos : Pos} {wi : TI} {g : TG} {te : TE} {k : Nat} {Qx : Bool → Hp → Prop} {Q' : Value → Shared → Prop}
    (hr : Room k X.A) (TB : LamX.TabB X.base X.mg c P) (hcode : X.env.code = .ref c) (hc : X.calm = true) (hN : X.N.Nodup) (hi : PI X tg iter wi) (ok : BlkOk X.N X.env.scope scope own) (gk : GenK scope)
    (hg : ∀ (s : Shared) (H : Hp) (cl : List (Str × Addr)) (C : Addr) (code : Value) (fp : List Addr) (pn : List (Addr × Obj)), PG (gCx X s H (genEnv scope cl C code builtinsNs X.env) fp pn) tg g)
    (he : ∀ (s : Shared) (H : Hp) (cl : List (Str × Addr)) (C : Addr) (code : Value) (fp : List Addr) (pn : List (Addr × Obj)), PE (gCx X s H (genEnv scope cl C code builtinsNs X.env) fp pn) elt te)
    (hs : ∀ v, genFold iter X.env v = pure v) (I : Inv X pins σ H s) (h : wi σ H fun J H1 => GxR.TabG H1 P ∧ ∀ H2, GxR.Tabbed P H1 H2 → GTurn ev g te (own.map (·.2)) σ Qx J H2)
    (hQ : ∀ (a : Addr) (gn m : Nat) (s4 s5 : Shared) (H4 : Hp) (cenv : Env) (fp : List Addr) (o : Obj), Inv X pins σ H4 s4 → (∀ b ∈ fp, FpOk X pins H4 b) → (∀ h : Heap, h.get? a = some o → h.IsGen a gn) →
      Sleeps X s4 H4 cenv fp [(a, o)] ev Qx a gn m s5 → Q' (.ref a) s5) :
    wpAny (model X.prog X.w) X.A (eval (.GeneratorExp elt [⟨tg, iter, [], 0⟩] scope gpos) X.env) Q' X.xe s := by
  have hfree : ∀ y ∈ scope.names, y.2 = .free → ∃ c, X.env.cells.lookup y.1 = some c := fun y hy e => by
    rcases ok.free y hy e with k | k
    · exact I.ok.has _ (.inl k)
    · exact I.ok.has _ (.inr k)
  refine wpAny_GeneratorExp_make gk.co (closure_ok hfree) gk.cell gk.dot ok.kind (by have := hr.dp; omega) ?_ hs
  refine thn (hi.run pins s σ H _ I h) fun xv s1 hx => thn hx fun itv s2 h2 => ?_
  obtain ⟨it, fp, tn, J, H2, e, I2, T, st2, f2, ⟨ps, hP, ht⟩, q2⟩ := h2
  subst e
  have hPs : s2.heap.get? P = some { cls := .none, data := .fields ps } := I2.hok P _ hP
  have cd : PySem.W.CodeHd s2.heap c P := TB.code.keeps I2.bk
  have nP : ∀ b ∈ fp, b ≠ P := fun b hb z => by
    have := (f2 b hb).1
    rw [z, hP] at this
    cases this
  have cont : ∀ (code : Value) (h3 : Heap) (tk : Nat) (ps' : Array Value), Heap.ExtBut P s2.heap h3 → s2.heap.objs.size ≤ h3.objs.size → h3.get? P = some { cls := .none, data := .fields ps' } → (∃ more, ps' = ps ++ more) → TriplesOk ps'.toList →
      wpAny (model X.prog X.w) X.A (builtinsFor X.env.globals X.env.builtins) (fun bi s₄ => ∀ (h' : Heap), (h'.Ns s₄.heap.objs.size fun y => if y = Str.ofString ".0" then some (.ref it) else none) → Heap.SameBut s₄.heap.objs.size (s₄.heap.push { cls := Value.type "frame", data := Data.dict #[] }) h' →
          Q' (Value.ref h'.objs.size) { heap := h'.push { cls := Value.type "generator", data := Data.fields #[Value.int (↑s₄.gens.size) 0, Value.str (Str.ofString "<genexpr>") (s₄.toks + 1), Value.str (X.env.qual ++ Str.ofString "<genexpr>") (s₄.toks + 1 + 1)] }, gens := s₄.gens.push (GenState.fresh (Code.compStart (elt.GeneratorExp [⟨tg, iter, [], 0⟩] scope gpos) 0 (.ref it) Value.none (genEnv scope (cloFrom X.env.cells scope.names []) s₄.heap.objs.size code bi X.env))), drawn := s₄.drawn, toks := s₄.toks + 1 + 1 + 1, os := s₄.os }) X.xe { s2 with heap := h3, toks := tk } := by
    intro code h3 tk ps' hx hsz hP3 hmore ht3
    obtain ⟨bm, ob, e1, e2, e3, e4, e5, e6, e7, e8⟩ := TB.bm
    have keep3 : ∀ b u, b ≠ P → s2.heap.get? b = some u → h3.get? b = some u := fun b u hb e => hx b u hb e
    refine wpAny_builtinsFor (m := X.mg) (by rw [I2.ok.glob]; exact (I2.mod.glob.keeps I2.bk).extBut hx TB.gP) e1 e2 (keep3 _ _ e4 (I2.bk _ _ e5)) e6 e7 e8 ?_
    intro h' hn' hs'
    obtain ⟨more, em⟩ := hmore
    have I4 := GxR.inv_tab (more := more) (h' := h3) (g' := s2.gens) (d' := s2.drawn) (t' := tk) I2 hP keep3 (by rw [← em]; exact hP3) I2.bare
    generalize hH4 : upd H2 P (.tbl (ps ++ more)) = H4 at I4
    have tb : GxR.Tabbed P H2 H4 := by
      rw [← hH4]
      exact ⟨⟨ps ++ more, upd_same, by rw [← em]; exact ht3⟩, fun b hb => upd_ne hb⟩
    obtain ⟨W, ⟨m0, w0⟩, turn⟩ := q2 H4 tb
    have f4 : ∀ b ∈ fp, FpOk X pins H4 b ∧ b < h3.objs.size := fun b hb => by
      obtain ⟨o, eo, _⟩ := T.obj _ _ st2 b hb
      refine ⟨⟨?_, (f2 b hb).2⟩, Nat.lt_of_lt_of_le (Heap.lt_size eo) hsz⟩
      rw [← hH4, upd_ne (nP b hb)]
      exact (f2 b hb).1
    have st3 : tn 0 h3 := T.keep _ _ _ st2 fun b hb o e => keep3 b o (nP b hb) e
    have hC : h'.objs.size = h3.objs.size + 1 := by rw [hs'.1, Heap.size_push]
    have kp' : ∀ b o, h3.get? b = some o → h'.get? b = some o := fun b o e => hs'.extBut b o (Nat.ne_of_lt (Heap.lt_size e)) (Heap.get?_push_of_some _ e)
    generalize hob : ({ cls := Value.type "generator", data := Data.fields #[Value.int (↑s2.gens.size) 0, Value.str (Str.ofString "<genexpr>") (tk + 1), Value.str (X.env.qual ++ Str.ofString "<genexpr>") (tk + 1 + 1)] } : Obj) = og
    have hbg : AllBare (s2.gens.push (GenState.fresh (Code.compStart (elt.GeneratorExp [⟨tg, iter, [], 0⟩] scope gpos) 0 (.ref it) Value.none (genEnv scope (cloFrom X.env.cells scope.names []) h3.objs.size code builtinsNs X.env)))) := AllBare.push I2.bare rfl
    generalize hcenv : genEnv scope (cloFrom X.env.cells scope.names []) h3.objs.size code builtinsNs X.env = cenv at hbg
    have goal := hQ h'.objs.size s2.gens.size (m0 + 1) { s2 with heap := h3, toks := tk }
      { heap := h'.push og, gens := s2.gens.push (GenState.fresh (Code.compStart (elt.GeneratorExp [⟨tg, iter, [], 0⟩] scope gpos) 0 (.ref it) Value.none cenv)), drawn := s2.drawn, toks := tk + 1 + 1 + 1, os := s2.os } H4 cenv fp og I4 (fun b hb => (f4 b hb).1)
      (fun h e => by subst hob; exact ⟨_, _, _, e, rfl, rfl, rfl⟩)
    show Q' (Value.ref h'.objs.size) _
    have hget : (h'.push og).get? h'.objs.size = some og := Heap.get?_push_size _ (by subst hob; rfl)
    have kp5 : ∀ b o, h3.get? b = some o → (h'.push og).get? b = some o := fun b o e => Heap.get?_push_of_some _ (kp' b o e)
    have I5 : Inv (gCx X { s2 with heap := h3, toks := tk } H4 cenv fp [(h'.objs.size, og)]) [] (wipe σ (own.map (·.2))) H4 { heap := h'.push og, gens := s2.gens.push (GenState.fresh (Code.compStart (elt.GeneratorExp [⟨tg, iter, [], 0⟩] scope gpos) 0 (.ref it) Value.none cenv)), drawn := s2.drawn, toks := tk + 1 + 1 + 1, os := s2.os } :=
      gen_begin (code := code) I4 ok hN gk.cell f4 hcenv.symm kp5 rfl hbg (hn'.push _) (by show h3.objs.size < h'.objs.size; omega) hget (fun v z => by subst hob; cases z)
    have hgoal := goal ⟨⟨og, _, _, hget, by subst hob; rfl, by subst hob; rfl, by subst hob; rfl⟩, I5.nolimit, hbg, _, Array.getElem?_push_size .., fun s'' wk => ⟨rfl, ?_⟩⟩
    · exact hgoal
    · have I6 := wk.inv I5
      have st6 : tn 0 s''.heap := by
        rw [wk.heap]
        exact T.keep _ _ _ st3 fun b _ o e => kp5 b o e
      have pg := hg { s2 with heap := h3, toks := tk } H4 (cloFrom X.env.cells scope.names []) h3.objs.size code fp [(h'.objs.size, og)]
      have pe := he { s2 with heap := h3, toks := tk } H4 (cloFrom X.env.cells scope.names []) h3.objs.size code fp [(h'.objs.size, og)]
      rw [hcenv] at pg pe
      refine seg_start T st6 (seg_loop (G0 := s2.gens.size + 1) hc (by rw [← hcenv]; exact gk.co) T pg pe (fun b hb p hp => ?_) turn m0 0 m0 H4 s'' s'' (Nat.le_refl _) w0 I6 st6 (fun b hb => (f4 b hb).1.1) ?_)
      · have hp : p = (h'.objs.size, og) := by simpa using hp
        subst hp
        show h'.objs.size ≠ b
        have h1 : b < h3.objs.size := (f4 b hb).2
        have h2 : h'.objs.size = h3.objs.size + 1 := hC
        exact Nat.ne_of_gt (by rw [h2]; exact Nat.lt_succ_of_lt h1)
      · have := wk.size
        simp only [Array.size_push] at this
        exact this
  refine ⟨I2.nolimit, ?_⟩
  cases hf : codeAmong gpos ps.toList with
  | none =>
    refine wpAny_genexprCodeX hcode (cd.code hPs ht) (cd.tab hPs) hf fun c' h' tk hx hge hlt hco' _ htab' _ => ?_
    obtain ⟨o1, vs, f1, tf, fl, tgg, inF, tx, tt, op, _, _, _, _, _, _, _, _, _, htr, _⟩ := hco'
    exact cont _ h' tk _ hx (Nat.le_trans hge (Nat.le_of_lt hlt)) htab'.2 ⟨_, rfl⟩ htr
  | some cv =>
    refine wpAny_genexprCode_hit hcode (cd.code hPs ht) hf ?_
    exact cont cv s2.heap s2.toks ps (Heap.ExtBut.refl _ _) (Nat.le_refl _) hPs ⟨#[], by simp⟩ ht
theorem back_to {s4 s' : Shared} {H4 H' : Hp} {σ' : St} {cenv : Env} {fp : List Addr} {pn : List (Addr × Obj)} (I4 : Inv X pins σ H4 s4) (f4 : ∀ b ∈ fp, FpOk X pins H4 b) (I : Inv (gCx X s4 H4 cenv fp pn) [] σ' H' s') : Inv X pins σ H' s' :=
  I4.call' (ch := fp) I.os I.base I.hok I.bare fun b hb => ⟨(f4 b hb).2.2.2.1, (f4 b hb).2.1, (f4 b hb).2.2.2.2.1, (f4 b hb).2.2.2.2.2⟩
theorem pe_allG {c P : Addr} {elt tg iter : Expr} {scope : Scope} {own : List (Str × Nat)} {p pos gpos : Pos} {wi : TI} {g : TG} {te : TE} {k : Nat}
    (hr : Room k X.A) (hgl : Gl X "all") (hm : X.mg "all" = none) (hb : bootBuiltins "all" = some (.builtin "all")) (TB : LamX.TabB X.base X.mg c P) (hcode : X.env.code = .ref c) (hc : X.calm = true) (hN : X.N.Nodup) (hi : PI X tg iter wi) (ok : BlkOk X.N X.env.scope scope own) (gk : GenK scope)
    (hg : ∀ (s : Shared) (H : Hp) (cl : List (Str × Addr)) (C : Addr) (code : Value) (fp : List Addr) (pn : List (Addr × Obj)), PG (gCx X s H (genEnv scope cl C code builtinsNs X.env) fp pn) tg g)
    (he : ∀ (s : Shared) (H : Hp) (cl : List (Str × Addr)) (C : Addr) (code : Value) (fp : List Addr) (pn : List (Addr × Obj)), PE (gCx X s H (genEnv scope cl C code builtinsNs X.env) fp pn) elt te)
    (hs : ∀ v, genFold iter X.env v = pure v := by intro _; rfl)
    (hst : starEach [.GeneratorExp elt [⟨tg, iter, [], 0⟩] scope gpos] X.env = (false, eval (.GeneratorExp elt [⟨tg, iter, [], 0⟩] scope gpos) X.env) :: starEach [] X.env := by rfl) :
    PE X (.Call (.Name "all" p) [.GeneratorExp elt [⟨tg, iter, [], 0⟩] scope gpos] [] pos) (tGen true P wi g te (own.map (·.2))) := by
  refine ⟨fun pins s σ H Q I h => ?_⟩
  refine wpAny_Call_Name_kw (ld_blt I hgl hm hb ?_)
  refine PyProof.Rows.callWith_builtin1 ?_ hst (by rfl)
  rw [hst]
  show wpAny _ _ (spliced ((false, eval (.GeneratorExp elt [⟨tg, iter, [], 0⟩] scope gpos) X.env) :: backTo pos (starEach [] X.env))) _ _ s
  refine Calls.spliced_cons (gen_make (ev := true) hr TB hcode hc hN hi ok gk hg he hs I h fun a gn m s4 s5 H4 cenv fp o I4 f4 hgen S => ?_)
  refine Calls.spliced_nil ?_
  refine call_function_tree F.kind_all F.plain_all F.entry_all (F.args_all1 _) ?_
  unfold Builtin.«all»
  refine wpAny_bind (m := oneArg "all" _) (wpAny_pure ?_)
  refine wpAny_bind (wpAny_pyIter_gen S.1 ?_)
  refine wpAny_pure ⟨plainId_quiet F.plain_all_loop _, all_loop (St := Sleeps X s4 H4 cenv fp [(a, o)] true _ a gn) (fun m s S => ?_) m s5 S⟩
  refine wpAny_mono (sleeps_next hr.hd hr.depth rfl hgen S) (fun r s' hr => ?_) fun _ _ z => z
  cases r with
  | none =>
    obtain ⟨σ', H', J, q⟩ := hr
    exact ⟨.bl true, H', back_to I4 f4 J, rfl, q⟩
  | some v =>
    obtain ⟨b, hv, hb⟩ := hr
    refine ⟨b, hv, ?_⟩
    by_cases hbt : b = true
    · rw [if_pos hbt] at hb ⊢
      exact hb
    · rw [if_neg hbt] at hb ⊢
      obtain ⟨σ', H', J, q⟩ := hb
      exact ⟨.bl b, H', back_to I4 f4 J, rfl, q⟩
theorem pe_anyG {c P : Addr} {elt tg iter : Expr} {scope : Scope} {own : List (Str × Nat)} {p pos gpos : Pos} {wi : TI} {g : TG} {te : TE} {k : Nat}
    (hr : Room k X.A) (hgl : Gl X "any") (hm : X.mg "any" = none) (hb : bootBuiltins "any" = some (.builtin "any")) (TB : LamX.TabB X.base X.mg c P) (hcode : X.env.code = .ref c) (hc : X.calm = true) (hN : X.N.Nodup) (hi : PI X tg iter wi) (ok : BlkOk X.N X.env.scope scope own) (gk : GenK scope)
    (hg : ∀ (s : Shared) (H : Hp) (cl : List (Str × Addr)) (C : Addr) (code : Value) (fp : List Addr) (pn : List (Addr × Obj)), PG (gCx X s H (genEnv scope cl C code builtinsNs X.env) fp pn) tg g)
    (he : ∀ (s : Shared) (H : Hp) (cl : List (Str × Addr)) (C : Addr) (code : Value) (fp : List Addr) (pn : List (Addr × Obj)), PE (gCx X s H (genEnv scope cl C code builtinsNs X.env) fp pn) elt te)
    (hs : ∀ v, genFold iter X.env v = pure v := by intro _; rfl)
    (hst : starEach [.GeneratorExp elt [⟨tg, iter, [], 0⟩] scope gpos] X.env = (false, eval (.GeneratorExp elt [⟨tg, iter, [], 0⟩] scope gpos) X.env) :: starEach [] X.env := by rfl) :
    PE X (.Call (.Name "any" p) [.GeneratorExp elt [⟨tg, iter, [], 0⟩] scope gpos] [] pos) (tGen false P wi g te (own.map (·.2))) := by
  refine ⟨fun pins s σ H Q I h => ?_⟩
  refine wpAny_Call_Name_kw (ld_blt I hgl hm hb ?_)
  refine PyProof.Rows.callWith_builtin1 ?_ hst (by rfl)
  rw [hst]
  show wpAny _ _ (spliced ((false, eval (.GeneratorExp elt [⟨tg, iter, [], 0⟩] scope gpos) X.env) :: backTo pos (starEach [] X.env))) _ _ s
  refine Calls.spliced_cons (gen_make (ev := false) hr TB hcode hc hN hi ok gk hg he hs I h fun a gn m s4 s5 H4 cenv fp o I4 f4 hgen S => ?_)
  refine Calls.spliced_nil ?_
  refine call_function_tree F.kind_any F.plain_any F.entry_any (F.args_any1 _) ?_
  unfold Builtin.«any»
  refine wpAny_bind (m := oneArg "any" _) (wpAny_pure ?_)
  refine wpAny_bind (wpAny_pyIter_gen S.1 ?_)
  refine wpAny_pure ⟨plainId_quiet F.plain_any_loop _, any_loop (St := Sleeps X s4 H4 cenv fp [(a, o)] false _ a gn) (fun m s S => ?_) m s5 S⟩
  refine wpAny_mono (sleeps_next hr.hd hr.depth rfl hgen S) (fun r s' hr => ?_) fun _ _ z => z
  cases r with
  | none =>
    obtain ⟨σ', H', J, q⟩ := hr
    exact ⟨.bl false, H', back_to I4 f4 J, rfl, q⟩
  | some v =>
    obtain ⟨b, hv, hb⟩ := hr
    refine ⟨b, hv, ?_⟩
    by_cases hbt : b = false
    · rw [if_pos hbt] at hb ⊢
      exact hb
    · rw [if_neg hbt] at hb ⊢
      obtain ⟨σ', H', J, q⟩ := hb
      exact ⟨.bl b, H', back_to I4 f4 J, rfl, q⟩
end
end GA
namespace DN
open PySem PySem.Spec PyProof.Rows L2
abbrev St := L2.St
mutual
inductive Dp (K : PySem.W.Frag) (H : Hp) : V → PyData → Prop
  | non : Dp K H .non .none
  | bl (b : Bool) : Dp K H (.bl b) (.bool b)
  | int (i : Int) : Dp K H (.int i) (.int i)
  | str (x : Str) : Dp K H (.str x) (.str x)
  | lst {a : Addr} {xs : List V} {ds : List PyData} : SqL K H a xs → DpAll K H xs ds → Dp K H (.ref a) (.list ds)
  | tup {a : Addr} {xs : List V} {ds : List PyData} : SqT K H a xs → DpAll K H xs ds → Dp K H (.ref a) (.tuple ds)
  | dct {a : Addr} : H a = some (.dK []) → Dp K H (.ref a) (.dict [])
inductive DpAll (K : PySem.W.Frag) (H : Hp) : List V → List PyData → Prop
  | nil : DpAll K H [] []
  | cons {v : V} {vs : List V} {d : PyData} {ds : List PyData} : Dp K H v d → DpAll K H vs ds → DpAll K H (v :: vs) (d :: ds)
end
mutual
theorem Dp.toC {K : PySem.W.Frag} {H : Hp} : ∀ {v : V} {d : PyData}, Dp K H v d → PyData.canLay0 d = true → L2.Dp K H v d
  | _, _, .non, _ => .non
  | _, _, .bl b, _ => .bl b
  | _, _, .int i, _ => .int i
  | _, _, .str s, _ => .str s
  | _, _, .lst s a, h => .lst s (DpAll.toC a (by unfold PyData.canLay0 at h; exact h))
  | _, _, .tup s a, h => .tup s (DpAll.toC a (by unfold PyData.canLay0 at h; exact h))
  | _, _, .dct _, h => by unfold PyData.canLay0 at h; cases h
theorem DpAll.toC {K : PySem.W.Frag} {H : Hp} : ∀ {vs : List V} {ds : List PyData}, DpAll K H vs ds → PyData.canLayAll0 ds = true → L2.DpAll K H vs ds
  | _, _, .nil, _ => .nil
  | _, _, .cons h t, c => by
    unfold PyData.canLayAll0 at c
    rw [Bool.and_eq_true] at c
    exact .cons (Dp.toC h c.1) (DpAll.toC t c.2)
end
theorem Dp.toL {K : PySem.W.Frag} {H : Hp} {v : V} {d : PyData} (h : Dp K H v d) (s : SeqAt.shaped d = true) : L2.Dp K H v d := h.toC (SeqAt.canLay_of_shaped s)
def hide (H : Hp) (O : List Addr) : Hp := fun b => if b ∈ O then none else H b
theorem hide_some {H : Hp} {O : List Addr} {b : Addr} {o : HO} (h : hide H O b = some o) : b ∉ O ∧ H b = some o := by
  unfold hide at h
  split at h
  · cases h
  · exact ⟨by assumption, h⟩
theorem hide_of {H : Hp} {O : List Addr} {b : Addr} {o : HO} (n : b ∉ O) (h : H b = some o) : hide H O b = some o := by
  unfold hide
  rw [if_neg n]
  exact h
def Xt (H H' : Hp) : Prop := ∀ b o, H b = some o → H' b = some o ∨ ∃ ps qs, o = .tbl ps ∧ H' b = some (.tbl qs)
theorem Xt.get {H H' : Hp} (x : Xt H H') : ∀ b o, H b = some o → (∀ ps, o ≠ .tbl ps) → H' b = some o := fun b o h n => (x b o h).elim id fun ⟨ps, _, e, _⟩ => absurd e (n ps)
theorem Xt.refl (H : Hp) : Xt H H := fun _ _ h => .inl h
theorem Xt.trans {H H1 H2 : Hp} (a : Xt H H1) (b : Xt H1 H2) : Xt H H2 := fun c o h => by
  rcases a c o h with e | ⟨ps, qs, e, e1⟩
  · exact b c o e
  · rcases b c _ e1 with e2 | ⟨ps', qs', _, e2⟩
    · exact .inr ⟨ps, qs, e, e2⟩
    · exact .inr ⟨ps, qs', e, e2⟩
theorem Xt.upd {H : Hp} {p : Addr} {o : HO} (h : H p = none) : Xt H (upd H p o) := fun b u e => by
  rw [upd_ne (ne_of_none e h)]
  exact .inl e
theorem Xt.there {H H' : Hp} (x : Xt H H') {b : Addr} (h : H' b = none) : H b = none := by
  cases e : H b with
  | none => rfl
  | some o =>
    rcases x b o e with q | ⟨_, _, _, q⟩ <;> rw [h] at q <;> cases q
structure TsT where
  gs : List Addr
  ls : List (Addr × Str)
def Tb (Ts : TsT) (H : Hp) : Prop := (∀ P ∈ Ts.gs, GxR.TabG H P) ∧ (∀ P ∈ Ts.ls, LamX.TabS H P.1 P.2) ∧ ∀ P ∈ Ts.ls, P.1 ∉ Ts.gs ∧ ∀ Q ∈ Ts.ls, Q.1 = P.1 → Q = P
theorem Tb.upd {Ts : TsT} {H : Hp} {p : Addr} {o : HO} (t : Tb Ts H) (h : ∀ u, H p = some u → (∀ ps, u ≠ .tbl ps) ∧ ∀ c q, u ≠ LamX.CodeO c q) : Tb Ts (upd H p o) := by
  obtain ⟨t1, t2, t3⟩ := t
  refine ⟨fun P hP => ?_, fun P hP => ?_, t3⟩
  · obtain ⟨ps, e, q⟩ := t1 P hP
    refine ⟨ps, ?_, q⟩
    rw [upd_ne (fun z => (h _ (by rw [← z]; exact e)).1 ps rfl)]
    exact e
  · obtain ⟨ps, e, q, r⟩ := t2 P hP
    refine ⟨ps, ?_, q, fun pos cv hc => ?_⟩
    · rw [upd_ne (fun z => (h _ (by rw [← z]; exact e)).1 ps rfl)]
      exact e
    · obtain ⟨c, e1, e2⟩ := r pos cv hc
      refine ⟨c, e1, ?_⟩
      rw [upd_ne (fun z => (h _ (by rw [← z]; exact e2)).2 c P.2 rfl)]
      exact e2
theorem lst_noc {xs : List V} : (∀ ps, HO.lst xs ≠ .tbl ps) ∧ ∀ c q, HO.lst xs ≠ LamX.CodeO c q := ⟨(fun _ z => nomatch z), fun c q (z : HO.lst xs = LamX.CodeO c q) => by unfold LamX.CodeO at z; cases z⟩
theorem Tb.kept {Ts : TsT} {H H' : Hp} (t : Tb Ts H) (k : ∀ b o, H b = some o → H' b = some o) : Tb Ts H' :=
  ⟨fun P hP => let ⟨ps, e, q⟩ := t.1 P hP; ⟨ps, k _ _ e, q⟩, fun P hP => (t.2.1 P hP).ext k, t.2.2⟩
theorem Tb.new {Ts : TsT} {H : Hp} {p : Addr} {o : HO} (t : Tb Ts H) (h : H p = none) : Tb Ts (L2.upd H p o) := t.upd fun u z => by rw [h] at z; cases z
theorem sqL_mono {K : PySem.W.Frag} {H H' : Hp} {a : Addr} {xs : List V} (h : ∀ o, (∀ ps, o ≠ .tbl ps) → H a = some o → H' a = some o) (s : SqL K H a xs) : SqL K H' a xs := by
  rcases s with (e | ⟨o, e⟩) | e
  · exact .inl (.inl (h _ (fun _ z => nomatch z) e))
  · exact .inl (.inr ⟨o, h _ (fun _ z => nomatch z) e⟩)
  · exact .inr e
theorem sqT_mono {K : PySem.W.Frag} {H H' : Hp} {a : Addr} {xs : List V} (h : ∀ o, (∀ ps, o ≠ .tbl ps) → H a = some o → H' a = some o) (s : SqT K H a xs) : SqT K H' a xs := by
  rcases s with (e | ⟨o, e⟩) | e
  · exact .inl (.inl (h _ (fun _ z => nomatch z) e))
  · exact .inl (.inr ⟨o, h _ (fun _ z => nomatch z) e⟩)
  · exact .inr e
mutual
theorem Dp.mono {K : PySem.W.Frag} {H H' : Hp} (x : Xt H H') : ∀ {v : V} {d : PyData}, Dp K H v d → Dp K H' v d
  | _, _, .non => .non
  | _, _, .bl b => .bl b
  | _, _, .int i => .int i
  | _, _, .str s => .str s
  | _, _, .lst s a => .lst (sqL_mono (fun o n e => x.get _ o e n) s) (DpAll.mono x a)
  | _, _, .tup s a => .tup (sqT_mono (fun o n e => x.get _ o e n) s) (DpAll.mono x a)
  | _, _, .dct e => .dct (x.get _ _ e (fun _ z => nomatch z))
theorem DpAll.mono {K : PySem.W.Frag} {H H' : Hp} (x : Xt H H') : ∀ {vs : List V} {ds : List PyData}, DpAll K H vs ds → DpAll K H' vs ds
  | _, _, .nil => .nil
  | _, _, .cons h t => .cons (Dp.mono x h) (DpAll.mono x t)
end
theorem hide_mono {H H' : Hp} {O : List Addr} (x : Xt H H') : Xt (hide H O) (hide H' O) := fun b o h => by
  obtain ⟨h1, h2⟩ := hide_some h
  rcases x b o h2 with e | ⟨ps, qs, e, e1⟩
  · exact .inl (hide_of h1 e)
  · exact .inr ⟨ps, qs, e, hide_of h1 e1⟩
theorem hide_sub {H : Hp} {O O' : List Addr} (s : ∀ b ∈ O', b ∈ O) : Xt (hide H O) (hide H O') := fun b o h => by
  obtain ⟨h1, h2⟩ := hide_some h
  exact .inl (hide_of (fun z => h1 (s b z)) h2)
theorem hide_out {H : Hp} {O : List Addr} : Xt (hide H O) H := fun b o h => .inl (hide_some h).2
theorem hide_upd {H : Hp} {O : List Addr} {a : Addr} {o : HO} (h : a ∈ O) : Xt (hide H O) (hide (upd H a o) O) := fun b u e => by
  obtain ⟨h1, h2⟩ := hide_some e
  exact .inl <| hide_of h1 (by rw [upd_ne (fun z => h1 (by rw [z]; exact h))]; exact h2)
theorem DpAll.len {K : PySem.W.Frag} {H : Hp} : ∀ {vs : List V} {ds : List PyData}, DpAll K H vs ds → vs.length = ds.length
  | _, _, .nil => rfl
  | _, _, .cons _ t => by rw [List.length_cons, List.length_cons, DpAll.len t]
theorem DpAll.get {K : PySem.W.Frag} {H : Hp} : ∀ {vs : List V} {ds : List PyData} {i : Nat} {v : V}, DpAll K H vs ds → vs[i]? = some v → ∃ d, ds[i]? = some d ∧ Dp K H v d
  | _, _, _, _, .nil, e => by simp at e
  | _, _, 0, _, .cons h _, e => by simp at e; subst e; exact ⟨_, rfl, h⟩
  | _, _, i + 1, v, .cons _ t, e => by
    obtain ⟨d, h1, h2⟩ := DpAll.get (i := i) (v := v) t (by simpa using e)
    exact ⟨d, by simpa using h1, h2⟩
theorem DpAll.get' {K : PySem.W.Frag} {H : Hp} : ∀ {vs : List V} {ds : List PyData} {i : Nat} {d : PyData}, DpAll K H vs ds → ds[i]? = some d → ∃ v, vs[i]? = some v ∧ Dp K H v d
  | _, _, _, _, .nil, e => by simp at e
  | _, _, 0, _, .cons h _, e => by simp at e; subst e; exact ⟨_, rfl, h⟩
  | _, _, i + 1, v, .cons _ t, e => by
    obtain ⟨d, h1, h2⟩ := DpAll.get' (i := i) t (by simpa using e)
    exact ⟨d, by simpa using h1, h2⟩
theorem DpAll.app {K : PySem.W.Frag} {H : Hp} : ∀ {vs ws : List V} {ds es : List PyData}, DpAll K H vs ds → DpAll K H ws es → DpAll K H (vs ++ ws) (ds ++ es)
  | _, _, _, _, .nil, s => s
  | _, _, _, _, .cons h t, s => .cons h (DpAll.app t s)
theorem DpAll.drop {K : PySem.W.Frag} {H : Hp} : ∀ {vs : List V} {ds : List PyData} (n : Nat), DpAll K H vs ds → DpAll K H (vs.drop n) (ds.drop n)
  | _, _, 0, r => r
  | _, _, _ + 1, .nil => .nil
  | _, _, n + 1, .cons _ t => DpAll.drop n t
theorem DpAll.take {K : PySem.W.Frag} {H : Hp} : ∀ {vs : List V} {ds : List PyData} (n : Nat), DpAll K H vs ds → DpAll K H (vs.take n) (ds.take n)
  | _, _, 0, _ => .nil
  | _, _, _ + 1, .nil => .nil
  | _, _, n + 1, .cons h t => .cons h (DpAll.take n t)
theorem DpAll.of_ints {K : PySem.W.Frag} {H : Hp} : ∀ (ns : List Int), DpAll K H (ns.map V.int) (ns.map .int)
  | [] => .nil
  | n :: ns => .cons (.int n) (DpAll.of_ints ns)
inductive Slot where
  | no | dat (d : PyData) | own (ds : List PyData)
abbrev En := List Slot
structure Rep (K : PySem.W.Frag) (Ts : TsT) (He : Hp) (O : List Addr) (σ : St) (H : Hp) (en : En) : Prop where
  len : en.length = σ.length
  dat : ∀ (i : Nat) (d : PyData), en[i]? = some (Slot.dat d) → ∃ v, σ[i]? = some (some v) ∧ Dp K (hide H O) v d
  own : ∀ (i : Nat) (ds : List PyData), en[i]? = some (Slot.own ds) → ∃ a vs, σ[i]? = some (some (V.ref a)) ∧ a ∈ O ∧ He a = none ∧ H a = some (.lst vs) ∧ DpAll K (hide H O) vs ds
  inj : ∀ (i j : Nat) (ds es : List PyData) (a : Addr), en[i]? = some (Slot.own ds) → en[j]? = some (Slot.own es) → σ[i]? = some (some (V.ref a)) → σ[j]? = some (some (V.ref a)) → i = j
  occ : ∀ b ∈ O, H b ≠ none ∧ ∀ ps, H b ≠ some (.tbl ps)
  ext : Xt He H
  tabs : Tb Ts H
section
variable {K : PySem.W.Frag} {Ts : TsT} {He : Hp} {O : List Addr} {σ : St} {H H' : Hp} {en : En}
theorem Rep.go (r : Rep K Ts He O σ H en) (x : Xt H H') (t : Tb Ts H') : Rep K Ts He O σ H' en :=
  ⟨r.len, fun i d e => let ⟨v, a, b⟩ := r.dat i d e; ⟨v, a, Dp.mono (hide_mono x) b⟩,
    fun i ds e => let ⟨a, vs, h1, h2, h3, h4, h5⟩ := r.own i ds e; ⟨a, vs, h1, h2, h3, x.get a _ h4 (fun _ z => nomatch z), DpAll.mono (hide_mono x) h5⟩,
    r.inj, fun b hb => by
      obtain ⟨h1, h2⟩ := r.occ b hb
      cases e : H b with
      | none => exact absurd e h1
      | some o =>
        have q := x.get b o e fun ps z => h2 ps (by rw [e, z])
        rw [q]
        exact ⟨by simp, fun ps z => h2 ps (by rw [e]; exact z)⟩, r.ext.trans x, t⟩
theorem Rep.hid (r : Rep K Ts He O σ H en) {D : Addr} (hD : H D = none) {o : HO} (no : ∀ ps, o ≠ .tbl ps) : Rep K Ts He (D :: O) σ (upd H D o) en := by
  have x : Xt H (upd H D o) := Xt.upd hD
  have nD : ∀ b u, H b = some u → b ≠ D := fun b u e => ne_of_none e hD
  have hx : Xt (hide H O) (hide (upd H D o) (D :: O)) := fun b u e => by
    obtain ⟨h1, h2⟩ := hide_some e
    refine .inl (hide_of (fun z => ?_) (by rw [upd_ne (nD b u h2)]; exact h2))
    rcases List.mem_cons.mp z with z | z
    · exact nD b u h2 z
    · exact h1 z
  refine ⟨r.len, fun i d e => let ⟨v, a, b⟩ := r.dat i d e; ⟨v, a, Dp.mono hx b⟩,
    fun i ds e => let ⟨a, vs, h1, h2, h3, h4, h5⟩ := r.own i ds e; ⟨a, vs, h1, List.mem_cons_of_mem _ h2, h3, x.get a _ h4 (fun _ z => nomatch z), DpAll.mono hx h5⟩,
    r.inj, fun b hb => ?_, r.ext.trans x, r.tabs.new hD⟩
  rcases List.mem_cons.mp hb with z | z
  · subst z
    rw [upd_same]
    exact ⟨by simp, fun ps z => no ps (Option.some.inj z)⟩
  · have hne : b ≠ D := fun e => (r.occ b z).1 (by rw [e]; exact hD)
    rw [upd_ne hne]
    exact r.occ b z
end
def tD (K : PySem.W.Frag) (Ts : TsT) (f : En → Option PyData) : TE := fun σ H Q => ∃ He O en d, Rep K Ts He O σ H en ∧ f en = some d ∧ ∀ v H', Xt H H' → Tb Ts H' → Dp K (hide H' O) v d → Q v H'
def DpB (K : PySem.W.Frag) (H : Hp) (O : List Addr) (v : V) (d : PyData) : Prop := Dp K (hide H O) v d ∨ ∃ a vs ds, v = .ref a ∧ d = .list ds ∧ H a = some (.lst vs) ∧ DpAll K (hide H O) vs ds
def tB (K : PySem.W.Frag) (Ts : TsT) (f : En → Option PyData) : TE := fun σ H Q => ∃ He O en d, Rep K Ts He O σ H en ∧ f en = some d ∧ ∀ v H', Xt H H' → Tb Ts H' → DpB K H' O v d → Q v H'
def tDs (K : PySem.W.Frag) (Ts : TsT) (f : En → Option (List PyData)) : TA := fun σ H Q => ∃ He O en ds, Rep K Ts He O σ H en ∧ f en = some ds ∧ ∀ vs H', Xt H H' → Tb Ts H' → DpAll K (hide H' O) vs ds → Q vs H'
def tT (K : PySem.W.Frag) (Ts : TsT) (f : En → Option Bool) : TT := fun σ H Q => ∃ He O en b, Rep K Ts He O σ H en ∧ f en = some b ∧ ∀ H', Xt H H' → Tb Ts H' → Q b H'
abbrev DE (X : Cx) (Ts : TsT) (e : Expr) (f : En → Option PyData) : Prop := PE X e (tD X.K Ts f)
abbrev DB (X : Cx) (Ts : TsT) (e : Expr) (f : En → Option PyData) : Prop := PE X e (tB X.K Ts f)
abbrev DA (X : Cx) (Ts : TsT) (es : List Expr) (f : En → Option (List PyData)) : Prop := PA X es (tDs X.K Ts f)
abbrev DT (X : Cx) (Ts : TsT) (e : Expr) (f : En → Option Bool) : Prop := PT X e (tT X.K Ts f)
abbrev DW (X : Cx) (Ts : TsT) (e : Expr) (f : En → Option Bool) : Prop := PW X e (tT X.K Ts f)
theorem PE.imp {X : Cx} {e : Expr} {t t' : TE} (h : PE X e t) (w : ∀ σ H Q, t' σ H Q → t σ H Q) : PE X e t' := ⟨fun pins s σ H Q I q => h.run pins s σ H Q I (w σ H Q q)⟩
theorem PT.imp {X : Cx} {e : Expr} {t t' : TT} (h : PT X e t) (w : ∀ σ H Q, t' σ H Q → t σ H Q) : PT X e t' := ⟨fun pins s σ H Q I q => h.run pins s σ H Q I (w σ H Q q)⟩
theorem PW.imp {X : Cx} {e : Expr} {t t' : TT} (h : PW X e t) (w : ∀ σ H Q, t' σ H Q → t σ H Q) : PW X e t' := ⟨fun wh pins s σ H Q I q => h.run wh pins s σ H Q I (w σ H Q q)⟩
theorem PA.imp {X : Cx} {es : List Expr} {t t' : TA} (h : PA X es t) (w : ∀ σ H Q, t' σ H Q → t σ H Q) : PA X es t' := ⟨fun pos pins s σ H Q I q => h.run pos pins s σ H Q I (w σ H Q q)⟩
theorem PS.imp {X : Cx} {st : Stmt} {t t' : TS} (h : PS X st t) (w : ∀ D σ H, t' D σ H → t D σ H) : PS X st t' := ⟨fun pins s σ H D I q => h.run pins s σ H D I (w D σ H q)⟩
theorem PSs.imp {X : Cx} {st : List Stmt} {t t' : TS} (h : PSs X st t) (w : ∀ D σ H, t' D σ H → t D σ H) : PSs X st t' := ⟨fun pins s σ H D I q => h.run pins s σ H D I (w D σ H q)⟩
section
variable {K : PySem.W.Frag} {Ts : TsT} {He : Hp} {O : List Addr} {σ : St} {H : Hp} {en : En} {f : En → Option PyData} {d : PyData}
theorem tD.of (r : Rep K Ts He O σ H en) (hf : f en = some d) {Q : VK} (h : ∀ v H', Xt H H' → Rep K Ts He O σ H' en → Dp K (hide H' O) v d → Q v H') : tD K Ts f σ H Q :=
  ⟨He, O, en, d, r, hf, fun v H' x t q => h v H' x (r.go x t) q⟩
theorem tB.of (r : Rep K Ts He O σ H en) (hf : f en = some d) {Q : VK} (h : ∀ v H', Xt H H' → Rep K Ts He O σ H' en → DpB K H' O v d → Q v H') : tB K Ts f σ H Q :=
  ⟨He, O, en, d, r, hf, fun v H' x t q => h v H' x (r.go x t) q⟩
theorem tDs.of {f : En → Option (List PyData)} {ds : List PyData} (r : Rep K Ts He O σ H en) (hf : f en = some ds) {Q : List V → Hp → Prop} (h : ∀ v H', Xt H H' → Rep K Ts He O σ H' en → DpAll K (hide H' O) v ds → Q v H') : tDs K Ts f σ H Q :=
  ⟨He, O, en, ds, r, hf, fun v H' x t q => h v H' x (r.go x t) q⟩
theorem tT.of {f : En → Option Bool} {b : Bool} (r : Rep K Ts He O σ H en) (hf : f en = some b) {Q : Bool → Hp → Prop} (h : ∀ H', Xt H H' → Rep K Ts He O σ H' en → Q b H') : tT K Ts f σ H Q :=
  ⟨He, O, en, b, r, hf, fun H' x t => h H' x (r.go x t)⟩
end
def fVar (i : Nat) : En → Option PyData := fun en => match en[i]? with
  | some (Slot.dat d) => some d
  | _ => none
def fOwn (i : Nat) : En → Option PyData := fun en => match en[i]? with
  | some (Slot.own ds) => some (.list ds)
  | some (Slot.dat d) => some d
  | _ => none
def fLit (d : PyData) : En → Option PyData := fun _ => some d
section
variable {X : Cx} {Ts : TsT} {pos : Pos}
theorem d_var (i : Nat) {x : Str} (hN : X.N[i]? = some x := by rfl) (hv : Vis X.env.scope x := by first | exact Or.inl rfl | exact Or.inr (Or.inl rfl) | exact Or.inr (Or.inr rfl)) (hd : (x == ("__debug__" : Str)) = false := by decide)
    (hcd : (x == ("__classdict__" : Str)) = false := by decide) : DE X Ts (.Name x pos) (fVar i) := PE.imp (pe_var hN hv hd hcd) fun σ H Q ⟨He, O, en, d, r, hf, k⟩ => by
  unfold fVar at hf
  split at hf
  · rename_i d' e
    cases hf
    obtain ⟨v, h1, h2⟩ := r.dat i _ e
    exact ⟨v, h1, k v H (Xt.refl H) r.tabs h2⟩
  · cases hf
theorem b_own (i : Nat) {x : Str} (hN : X.N[i]? = some x := by rfl) (hv : Vis X.env.scope x := by first | exact Or.inl rfl | exact Or.inr (Or.inl rfl) | exact Or.inr (Or.inr rfl)) (hd : (x == ("__debug__" : Str)) = false := by decide)
    (hcd : (x == ("__classdict__" : Str)) = false := by decide) : DB X Ts (.Name x pos) (fOwn i) := PE.imp (pe_var hN hv hd hcd) fun σ H Q ⟨He, O, en, d, r, hf, k⟩ => by
  unfold fOwn at hf
  split at hf
  · rename_i ds e
    cases hf
    obtain ⟨a, vs, h1, h2, h3, h4, h5⟩ := r.own i _ e
    exact ⟨.ref a, h1, k _ H (Xt.refl H) r.tabs (.inr ⟨a, vs, ds, rfl, rfl, h4, h5⟩)⟩
  · rename_i d' e
    cases hf
    obtain ⟨v, h1, h2⟩ := r.dat i _ e
    exact ⟨v, h1, k v H (Xt.refl H) r.tabs (.inl h2)⟩
  · cases hf
theorem d_b {e : Expr} {f : En → Option PyData} (h : DE X Ts e f) : DB X Ts e f := PE.imp h fun σ H Q ⟨He, O, en, d, r, hf, k⟩ => ⟨He, O, en, d, r, hf, fun v H' x t q => k v H' x t (.inl q)⟩
theorem d_int {i j} : DE X Ts (.Constant (.int i) j pos) (fLit (.int i)) := PE.imp pe_int fun σ H Q ⟨He, O, en, d, r, hf, k⟩ => by cases hf; exact k _ H (Xt.refl H) r.tabs (.int i)
theorem d_bl {b j} : DE X Ts (.Constant (.bool b) j pos) (fLit (.bool b)) := PE.imp pe_bl fun σ H Q ⟨He, O, en, d, r, hf, k⟩ => by cases hf; exact k _ H (Xt.refl H) r.tabs (.bl b)
theorem d_non {j} : DE X Ts (.Constant .none j pos) (fLit .none) := PE.imp pe_non fun σ H Q ⟨He, O, en, d, r, hf, k⟩ => by cases hf; exact k _ H (Xt.refl H) r.tabs .non
theorem d_glob {x : Str} {i : Int} {t : Tok} (hg : Gl X x) (hm : X.mg x = some (.int i t)) (hd : (x == ("__debug__" : Str)) = false := by decide) : DE X Ts (.Name x pos) (fLit (.int i)) :=
  PE.imp (pe_glob (v := .int i) hg hm ⟨t, rfl⟩ hd) fun σ H Q ⟨He, O, en, d, r, hf, k⟩ => by cases hf; exact k _ H (Xt.refl H) r.tabs (.int i)
end
def f2 (g : PyData → PyData → Option PyData) (f1 f2 : En → Option PyData) : En → Option PyData := fun en => (f1 en).bind fun x => (f2 en).bind fun y => g x y
def f1 (g : PyData → Option PyData) (f : En → Option PyData) : En → Option PyData := fun en => (f en).bind g
def gI (g : Int → Int → PyData) : PyData → PyData → Option PyData
  | .int i, .int j => some (g i j)
  | _, _ => none
def gIc (c : Int → Int → Bool) (g : Int → Int → PyData) : PyData → PyData → Option PyData
  | .int i, .int j => if c i j = true then some (g i j) else none
  | _, _ => none
section
variable {X : Cx} {Ts : TsT} {pos : Pos} {a b : Expr} {fa fb : En → Option PyData}
theorem f2_some {g : PyData → PyData → Option PyData} {p q : En → Option PyData} {en : En} {d : PyData} (h : f2 g p q en = some d) : ∃ x y, p en = some x ∧ q en = some y ∧ g x y = some d := by
  unfold f2 at h
  obtain ⟨x, h1, h⟩ := Option.bind_eq_some_iff.mp h
  obtain ⟨y, h2, h⟩ := Option.bind_eq_some_iff.mp h
  exact ⟨x, y, h1, h2, h⟩
theorem f1_some {g : PyData → Option PyData} {p : En → Option PyData} {en : En} {d : PyData} (h : f1 g p en = some d) : ∃ x, p en = some x ∧ g x = some d := Option.bind_eq_some_iff.mp h
theorem w_2 {r : R2} {g : PyData → PyData → Option PyData} {K : PySem.W.Frag}
    (k : ∀ x y v w d H O Q, g x y = some d → Dp K (hide H O) v x → Dp K (hide H O) w y → Tb Ts H → (∀ b ∈ O, H b ≠ none) → (∀ u H', Xt H H' → Tb Ts H' → Dp K (hide H' O) u d → Q u H') → r v w H Q) :
    ∀ σ H Q, tD K Ts (f2 g fa fb) σ H Q → tOp r (tD K Ts fa) (tD K Ts fb) σ H Q :=
  fun σ H Q ⟨He, O, en, d, rp, hf, kk⟩ => by
    obtain ⟨x, y, h1, h2, hg⟩ := f2_some hf
    refine tD.of rp h1 fun v H1 x1 r1 q1 => tD.of r1 h2 fun w H2 x2 r2 q2 => ?_
    exact k x y v w d H2 O Q hg (Dp.mono (hide_mono x2) q1) q2 r2.tabs (fun b hb => (r2.occ b hb).1) fun u H' x3 t3 q3 => kk u H' (x1.trans (x2.trans x3)) t3 q3
theorem w_i {C : Int → Int → Prop} {c : Int → Int → Bool} {g : Int → Int → PyData} {gv : Int → Int → V} {K : PySem.W.Frag} (hC : ∀ i j, c i j = true → C i j) (hv : ∀ i j K H, Dp K H (gv i j) (g i j)) :
    ∀ σ H Q, tD K Ts (f2 (gIc c g) fa fb) σ H Q → tOp (rI C gv) (tD K Ts fa) (tD K Ts fb) σ H Q :=
  w_2 fun x y v w d H O Q hg q1 q2 ht _ kk => by
    cases q1 <;> cases q2 <;> simp only [gIc] at hg <;> try cases hg
    rename_i i j
    split at hg
    · rename_i hc
      cases hg
      exact ⟨i, j, rfl, rfl, hC i j hc, kk _ H (Xt.refl H) ht (hv ..)⟩
    · cases hg
theorem w_i0 {g : Int → Int → PyData} {gv : Int → Int → V} {K : PySem.W.Frag} (hv : ∀ i j K H, Dp K H (gv i j) (g i j)) :
    ∀ σ H Q, tD K Ts (f2 (gI g) fa fb) σ H Q → tOp (rI0 gv) (tD K Ts fa) (tD K Ts fb) σ H Q :=
  w_2 fun x y v w d H O Q hg q1 q2 ht _ kk => by
    cases q1 <;> cases q2 <;> simp only [gI] at hg <;> try cases hg
    rename_i i j
    exact ⟨i, j, rfl, rfl, kk _ H (Xt.refl H) ht (hv ..)⟩
theorem d_i {e : Expr} {C : Int → Int → Prop} {c : Int → Int → Bool} {g : Int → Int → PyData} {gv : Int → Int → V} (hC : ∀ i j, c i j = true → C i j) (hv : ∀ i j K H, Dp K H (gv i j) (g i j))
    (h : PE X e (tOp (rI C gv) (tD X.K Ts fa) (tD X.K Ts fb))) : DE X Ts e (f2 (gIc c g) fa fb) := PE.imp h (w_i hC hv)
theorem d_i0 {e : Expr} {g : Int → Int → PyData} {gv : Int → Int → V} (hv : ∀ i j K H, Dp K H (gv i j) (g i j)) (h : PE X e (tOp (rI0 gv) (tD X.K Ts fa) (tD X.K Ts fb))) : DE X Ts e (f2 (gI g) fa fb) := PE.imp h (w_i0 hv)
def fSub := f2 (gI fun i j => .int (i - j))
theorem d_sub (ha : DE X Ts a fa) (hb : DE X Ts b fb) : DE X Ts (.BinOp a .Sub b pos) (fSub fa fb) := d_i0 (fun _ _ _ _ => .int _) (pe_op op_sub ha hb)
def cMul (i j : Int) : Bool := decide (i.natAbs.log2 + j.natAbs.log2 < 1000000)
def fMul := f2 (gIc cMul fun i j => .int (i * j))
theorem d_mul (ha : DE X Ts a fa) (hb : DE X Ts b fb) : DE X Ts (.BinOp a .Mult b pos) (fMul fa fb) := d_i (fun i j h => show CMulW i j from @of_decide_eq_true (i.natAbs.log2 + j.natAbs.log2 < 1000000) _ h) (fun _ _ _ _ => .int _) (pe_op op_mulW ha hb)
def cDiv (_ j : Int) : Bool := decide (0 < j ∧ j.natAbs.log2 < 9000)
def fDiv := f2 (gIc cDiv fun i j => .int (i / j))
theorem d_div (ha : DE X Ts a fa) (hb : DE X Ts b fb) : DE X Ts (.BinOp a .FloorDiv b pos) (fDiv fa fb) := d_i (fun i j h => show CDivW i j from @of_decide_eq_true (0 < j ∧ j.natAbs.log2 < 9000) _ h) (fun _ _ _ _ => .int _) (pe_op op_fdivW ha hb)
def cMod (_ j : Int) : Bool := decide (j ≠ 0)
def fMod := f2 (gIc cMod fun i j => .int (i.fmod j))
theorem d_mod (ha : DE X Ts a fa) (hb : DE X Ts b fb) : DE X Ts (.BinOp a .Mod b pos) (fMod fa fb) := d_i (fun i j h => of_decide_eq_true (show decide (j ≠ 0) = true from h)) (fun _ _ _ _ => .int _) (pe_op op_modN ha hb)
def gNeg : PyData → Option PyData
  | .int i => some (.int (-i))
  | _ => none
def fNeg := f1 gNeg
theorem d_neg (ha : DE X Ts a fa) : DE X Ts (.UnaryOp .USub a pos) (fNeg fa) := PE.imp (pe_un un_neg ha) fun σ H Q ⟨He, O, en, d, r, hf, k⟩ => by
  obtain ⟨x, h1, h2⟩ := f1_some hf
  refine tD.of r h1 fun v H1 x1 r1 q1 => ?_
  cases q1 <;> simp only [gNeg] at h2 <;> try cases h2
  exact ⟨_, rfl, k _ H1 x1 r1.tabs (.int _)⟩
def fLt := f2 (gI fun i j => .bool (decide (i < j)))
def fGt := f2 (gI fun i j => .bool (decide (j < i)))
def fGe := f2 (gI fun i j => .bool (decide (j ≤ i)))
theorem d_lt (ha : DE X Ts a fa) (hb : DE X Ts b fb) : DE X Ts (.Compare a [.Lt] [b] pos) (fLt fa fb) := d_i0 (fun _ _ _ _ => .bl _) (pe_cmpR op_lt ha hb (nomark _))
theorem d_gt (ha : DE X Ts a fa) (hb : DE X Ts b fb) : DE X Ts (.Compare a [.Gt] [b] pos) (fGt fa fb) := d_i0 (fun _ _ _ _ => .bl _) (pe_cmpR op_gt ha hb (nomark _))
theorem d_ge (ha : DE X Ts a fa) (hb : DE X Ts b fb) : DE X Ts (.Compare a [.GtE] [b] pos) (fGe fa fb) := d_i0 (fun _ _ _ _ => .bl _) (pe_cmpR op_ge ha hb (nomark _))
def gEq : PyData → PyData → Option PyData := fun x y => if (SeqAt.shaped x && SeqAt.shaped y) = true then some (.bool (PyData.eqv x y)) else none
def gNe : PyData → PyData → Option PyData := fun x y => if (SeqAt.shaped x && SeqAt.shaped y) = true then some (.bool (!PyData.eqv x y)) else none
def fEq := f2 gEq
def fNe := f2 gNe
theorem w_eq {K : PySem.W.Frag} : ∀ σ H Q, tD K Ts (fEq fa fb) σ H Q → tOp (rEqD K) (tD K Ts fa) (tD K Ts fb) σ H Q :=
  w_2 fun x y v w d H O Q hg q1 q2 ht _ kk => by
    unfold gEq at hg
    split at hg
    · rename_i hs
      rw [Bool.and_eq_true] at hs
      cases hg
      exact ⟨x, y, (Dp.mono hide_out q1).toL hs.1, (Dp.mono hide_out q2).toL hs.2, hs.1, hs.2, kk _ H (Xt.refl H) ht (.bl _)⟩
    · cases hg
theorem w_ne {K : PySem.W.Frag} : ∀ σ H Q, tD K Ts (fNe fa fb) σ H Q → tOp (rNeD K) (tD K Ts fa) (tD K Ts fb) σ H Q :=
  w_2 fun x y v w d H O Q hg q1 q2 ht _ kk => by
    unfold gNe at hg
    split at hg
    · rename_i hs
      rw [Bool.and_eq_true] at hs
      cases hg
      exact ⟨x, y, (Dp.mono hide_out q1).toL hs.1, (Dp.mono hide_out q2).toL hs.2, hs.1, hs.2, kk _ H (Xt.refl H) ht (.bl _)⟩
    · cases hg
theorem d_eq {k : Nat} (hr : Room k X.A) (ha : DE X Ts a fa) (hb : DE X Ts b fb) : DE X Ts (.Compare a [.Eq] [b] pos) (fEq fa fb) := PE.imp (pe_cmpR (op_eqD hr.units) ha hb (nomark _)) w_eq
def isNone : PyData → Bool
  | .none => true
  | _ => false
theorem isNone_of {K : PySem.W.Frag} {H : Hp} {v : V} {d : PyData} (h : Dp K H v d) : decide (v = .non) = isNone d := by
  cases h <;> rfl
def gIsN : PyData → PyData → Option PyData := fun x y => if isNone y = true then some (.bool (isNone x)) else none
def gNotN : PyData → PyData → Option PyData := fun x y => if isNone y = true then some (.bool (!isNone x)) else none
def fIsN := f2 gIsN
def fNotN := f2 gNotN
theorem non_of {K : PySem.W.Frag} {H : Hp} {v : V} {d : PyData} (h : Dp K H v d) (e : isNone d = true) : v = .non := by
  cases h <;> first | rfl | cases e
theorem w_isN {K : PySem.W.Frag} : ∀ σ H Q, tD K Ts (fIsN fa fb) σ H Q → tOp (fun x y H Q => y = .non ∧ Q (.bl (decide (x = .non))) H) (tD K Ts fa) (tD K Ts fb) σ H Q :=
  w_2 fun x y v w d H O Q hg q1 q2 ht _ kk => by
    unfold gIsN at hg
    split at hg
    · rename_i hs
      cases hg
      refine ⟨non_of q2 hs, ?_⟩
      rw [isNone_of q1]
      exact kk _ H (Xt.refl H) ht (.bl _)
    · cases hg
theorem w_notN {K : PySem.W.Frag} : ∀ σ H Q, tD K Ts (fNotN fa fb) σ H Q → tOp (fun x y H Q => y = .non ∧ Q (.bl (!decide (x = .non))) H) (tD K Ts fa) (tD K Ts fb) σ H Q :=
  w_2 fun x y v w d H O Q hg q1 q2 ht _ kk => by
    unfold gNotN at hg
    split at hg
    · rename_i hs
      cases hg
      refine ⟨non_of q2 hs, ?_⟩
      rw [isNone_of q1]
      exact kk _ H (Xt.refl H) ht (.bl _)
    · cases hg
def fT (f : En → Option PyData) : En → Option Bool := fun en => match f en with
  | some (.bool b) => some b
  | _ => none
theorem fT_some {f : En → Option PyData} {en : En} {b : Bool} (h : fT f en = some b) : f en = some (.bool b) := by
  unfold fT at h
  split at h
  · rename_i e
    cases h
    exact e
  · cases h
theorem dt_of {e : Expr} {t : TE} {f : En → Option PyData} (h : PT X e (tTest t)) (w : ∀ σ H Q, tD X.K Ts f σ H Q → t σ H Q) : DT X Ts e (fT f) := PT.imp h fun σ H Q ⟨He, O, en, b, r, hf, k⟩ =>
  w σ H _ ⟨He, O, en, .bool b, r, fT_some hf, fun v H' x t q => by cases q; exact ⟨b, rfl, k H' x t⟩⟩
theorem dt_val {e : Expr} {f : En → Option PyData} (h : DE X Ts e f) (he : ∀ whole, isTrue e X.env whole = (do let v ← whole; standAt e.pos; holding [v] (truthy v)) := by intro _; rfl) : DT X Ts e (fT f) :=
  PT.imp (pt_val h he) fun σ H Q ⟨He, O, en, b, r, hf, k⟩ => ⟨He, O, en, .bool b, r, fT_some hf, fun v H' x t q => by cases q; exact ⟨b, rfl, k H' x t⟩⟩
theorem dt_lt (ha : DE X Ts a fa) (hb : DE X Ts b fb) : DT X Ts (.Compare a [.Lt] [b] pos) (fT (fLt fa fb)) := dt_of (pt_cmpR op_lt ha hb (nomark _)) (w_i0 fun _ _ _ _ => .bl _)
theorem dt_gt (ha : DE X Ts a fa) (hb : DE X Ts b fb) : DT X Ts (.Compare a [.Gt] [b] pos) (fT (fGt fa fb)) := dt_of (pt_cmpR op_gt ha hb (nomark _)) (w_i0 fun _ _ _ _ => .bl _)
theorem dt_ge (ha : DE X Ts a fa) (hb : DE X Ts b fb) : DT X Ts (.Compare a [.GtE] [b] pos) (fT (fGe fa fb)) := dt_of (pt_cmpR op_ge ha hb (nomark _)) (w_i0 fun _ _ _ _ => .bl _)
theorem dt_eq {k : Nat} (hr : Room k X.A) (ha : DE X Ts a fa) (hb : DE X Ts b fb) : DT X Ts (.Compare a [.Eq] [b] pos) (fT (fEq fa fb)) := dt_of (pt_cmpR (op_eqD hr.units) ha hb (nomark _)) w_eq
theorem dt_ne {k : Nat} (hr : Room k X.A) (ha : DE X Ts a fa) (hb : DE X Ts b fb) : DT X Ts (.Compare a [.NotEq] [b] pos) (fT (fNe fa fb)) := dt_of (pt_cmpR (op_neD hr.units) ha hb (nomark _)) w_ne
theorem dt_isN (ha : DE X Ts a fa) (hb : DE X Ts b fb) : DT X Ts (.Compare a [.Is] [b] pos) (fT (fIsN fa fb)) := dt_of (pt_cmpR op_isN ha hb (nomark _)) w_isN
theorem dt_notN (ha : DE X Ts a fa) (hb : DE X Ts b fb) : DT X Ts (.Compare a [.IsNot] [b] pos) (fT (fNotN fa fb)) := dt_of (pt_cmpR op_notN ha hb (nomark _)) w_notN
def fChain (g1 g2 : PyData → PyData → Option PyData) (fa fb fc : En → Option PyData) : En → Option PyData := fun en => (fa en).bind fun x => (fb en).bind fun y => (g1 x y).bind fun z => match z with
  | .bool true => (fc en).bind fun w => g2 y w
  | .bool false => some (.bool false)
  | _ => none
def gLe := gI fun i j => .bool (decide (i ≤ j))
theorem w_chain {g1 g2 : Int → Int → Bool} {c : Expr} {fc : En → Option PyData} {K : PySem.W.Frag} : ∀ σ H Q, tD K Ts (fChain (gI fun i j => .bool (g1 i j)) (gI fun i j => .bool (g2 i j)) fa fb fc) σ H Q →
    tChain (rI0 fun i j => .bl (g1 i j)) (rI0 fun i j => .bl (g2 i j)) (tD K Ts fa) (tD K Ts fb) (tD K Ts fc) σ H Q := fun σ H Q ⟨He, O, en, d, rp, hf, kk⟩ => by
  unfold fChain at hf
  obtain ⟨x, h1, hf1⟩ := Option.bind_eq_some_iff.mp hf
  obtain ⟨y, h2, hf2⟩ := Option.bind_eq_some_iff.mp hf1
  obtain ⟨z, h3, hf3⟩ := Option.bind_eq_some_iff.mp hf2
  clear hf hf1 hf2
  refine tD.of rp h1 fun v H1 x1 r1 q1 => tD.of r1 h2 fun w H2 x2 r2 q2 => ?_
  obtain ⟨i, j, rfl, rfl, rfl⟩ : ∃ i j, x = .int i ∧ y = .int j ∧ z = .bool (g1 i j) := by
    cases x <;> cases y <;> simp only [gI] at h3 <;> first | (cases h3; exact ⟨_, _, rfl, rfl, rfl⟩) | cases h3
  cases q1
  cases q2
  have hf := hf3
  refine ⟨i, j, rfl, rfl, g1 i j, rfl, ?_⟩
  cases hg : g1 i j with
  | true =>
    rw [hg] at hf
    obtain ⟨u, h4, hf⟩ := Option.bind_eq_some_iff.mp hf
    refine iteT (tD.of r2 h4 fun w' H3 x3 r3 q3 => ?_)
    cases q3 <;> simp only [gI] at hf <;> try cases hf
    exact ⟨_, _, rfl, rfl, kk _ H3 (x1.trans (x2.trans x3)) r3.tabs (.bl _)⟩
  | false =>
    rw [hg] at hf
    cases hf
    exact iteF (kk _ H2 (x1.trans x2) r2.tabs (.bl _))
theorem d_lele {c : Expr} {fc : En → Option PyData} (ha : DE X Ts a fa) (hb : DE X Ts b fb) (hc : DE X Ts c fc) (hm : lastMarks [.LtE, .LtE] [b, c] = false := by with_unfolding_all rfl) :
    DE X Ts (.Compare a [.LtE, .LtE] [b, c] pos) (fChain gLe gLe fa fb fc) := PE.imp (pe_chain op_le op_le ha hb hc hm) (w_chain (c := c))
def fAnd (f g : En → Option PyData) : En → Option PyData := fun en => match f en with
  | some (.bool true) => g en
  | some (.bool false) => some (.bool false)
  | _ => none
def fOr (f g : En → Option PyData) : En → Option PyData := fun en => match f en with
  | some (.bool true) => some (.bool true)
  | some (.bool false) => g en
  | _ => none
def fNot (f : En → Option PyData) : En → Option PyData := fun en => match f en with
  | some (.bool b) => some (.bool (!b))
  | _ => none
variable {rest : List Expr}
theorem d_one {op} {f : En → Option PyData} (h : DE X Ts a f) : DE X Ts (.BoolOp op [a] pos) f := pe_one h
theorem d_and {ga : En → Option PyData} (ha : DE X Ts a fa) (hb : DE X Ts (.BoolOp .And (b :: rest) pos) ga) : DE X Ts (.BoolOp .And (a :: b :: rest) pos) (fAnd fa ga) := PE.imp (pe_and ha hb) fun σ H Q ⟨He, O, en, d, rp, hf, kk⟩ => by
  unfold fAnd at hf
  split at hf
  · rename_i e
    exact tD.of rp e fun v H1 x1 r1 q1 => by cases q1; exact ⟨true, rfl, iteT (tD.of r1 hf fun w H2 x2 r2 q2 => kk w H2 (x1.trans x2) r2.tabs q2)⟩
  · rename_i e
    cases hf
    exact tD.of rp e fun v H1 x1 r1 q1 => by cases q1; exact ⟨false, rfl, iteF (kk _ H1 x1 r1.tabs (.bl _))⟩
  · cases hf
theorem d_or {ga : En → Option PyData} (ha : DE X Ts a fa) (hb : DE X Ts (.BoolOp .Or (b :: rest) pos) ga) : DE X Ts (.BoolOp .Or (a :: b :: rest) pos) (fOr fa ga) := PE.imp (pe_or ha hb) fun σ H Q ⟨He, O, en, d, rp, hf, kk⟩ => by
  unfold fOr at hf
  split at hf
  · rename_i e
    cases hf
    exact tD.of rp e fun v H1 x1 r1 q1 => by cases q1; exact ⟨true, rfl, iteT (kk _ H1 x1 r1.tabs (.bl _))⟩
  · rename_i e
    exact tD.of rp e fun v H1 x1 r1 q1 => by cases q1; exact ⟨false, rfl, iteF (tD.of r1 hf fun w H2 x2 r2 q2 => kk w H2 (x1.trans x2) r2.tabs q2)⟩
  · cases hf
theorem d_not (ha : DE X Ts a fa) : DE X Ts (.UnaryOp .Not a pos) (fNot fa) := PE.imp (pe_not ha) fun σ H Q ⟨He, O, en, d, rp, hf, kk⟩ => by
  unfold fNot at hf
  split at hf
  · rename_i b e
    cases hf
    exact tD.of rp e fun v H1 x1 r1 q1 => by cases q1; exact ⟨b, rfl, kk _ H1 x1 r1.tabs (.bl _)⟩
  · cases hf
def kAnd (f g : En → Option Bool) : En → Option Bool := fun en => match f en with
  | some true => g en
  | some false => some false
  | none => none
def kOr (f g : En → Option Bool) : En → Option Bool := fun en => match f en with
  | some true => some true
  | some false => g en
  | none => none
def kNot (f : En → Option Bool) : En → Option Bool := fun en => (f en).map (!·)
variable {ta tb : En → Option Bool}
theorem dw_and1 (ha : DT X Ts a ta) : DW X Ts (.BoolOp .And [a] pos) ta := pw_and1 ha
theorem dw_or1 (ha : DT X Ts a ta) : DW X Ts (.BoolOp .Or [a] pos) ta := pw_or1 ha
theorem dw_and (ha : DT X Ts a ta) (hb : DW X Ts (.BoolOp .And (b :: rest) pos) tb) : DW X Ts (.BoolOp .And (a :: b :: rest) pos) (kAnd ta tb) := PW.imp (pw_and ha hb) fun σ H Q ⟨He, O, en, d, rp, hf, kk⟩ => by
  unfold kAnd at hf
  split at hf
  · rename_i e
    exact tT.of rp e fun H1 x1 r1 => iteT (tT.of r1 hf fun H2 x2 r2 => kk H2 (x1.trans x2) r2.tabs)
  · rename_i e
    cases hf
    exact tT.of rp e fun H1 x1 r1 => iteF (kk H1 x1 r1.tabs)
  · cases hf
theorem dw_or (ha : DT X Ts a ta) (hb : DW X Ts (.BoolOp .Or (b :: rest) pos) tb) : DW X Ts (.BoolOp .Or (a :: b :: rest) pos) (kOr ta tb) := PW.imp (pw_or ha hb) fun σ H Q ⟨He, O, en, d, rp, hf, kk⟩ => by
  unfold kOr at hf
  split at hf
  · rename_i e
    cases hf
    exact tT.of rp e fun H1 x1 r1 => iteT (kk H1 x1 r1.tabs)
  · rename_i e
    exact tT.of rp e fun H1 x1 r1 => iteF (tT.of r1 hf fun H2 x2 r2 => kk H2 (x1.trans x2) r2.tabs)
  · cases hf
theorem dt_w {e : Expr} (h : DW X Ts e ta) : DT X Ts e ta := h.pt
theorem dt_not (ha : DT X Ts a ta) : DT X Ts (.UnaryOp .Not a pos) (kNot ta) := PT.imp (pt_not ha) fun σ H Q ⟨He, O, en, d, rp, hf, kk⟩ => by
  unfold kNot at hf
  obtain ⟨b, h1, h2⟩ := Option.map_eq_some_iff.mp hf
  subst h2
  exact tT.of rp h1 fun H1 x1 r1 => kk H1 x1 r1.tabs
def fIf (t : En → Option Bool) (f g : En → Option PyData) : En → Option PyData := fun en => match t en with
  | some true => f en
  | some false => g en
  | none => none
theorem d_if {c : Expr} (hc : DT X Ts c ta) (ha : DE X Ts a fa) (hb : DE X Ts b fb) : DE X Ts (.IfExp c a b pos) (fIf ta fa fb) := PE.imp (pe_ifExp hc ha hb) fun σ H Q ⟨He, O, en, d, rp, hf, kk⟩ => by
  unfold fIf at hf
  split at hf
  · rename_i e
    exact tT.of rp e fun H1 x1 r1 => iteT (tD.of r1 hf fun w H2 x2 r2 q2 => kk w H2 (x1.trans x2) r2.tabs q2)
  · rename_i e
    exact tT.of rp e fun H1 x1 r1 => iteF (tD.of r1 hf fun w H2 x2 r2 q2 => kk w H2 (x1.trans x2) r2.tabs q2)
  · cases hf
end
def fNil : En → Option (List PyData) := fun _ => some []
def fCons (f : En → Option PyData) (g : En → Option (List PyData)) : En → Option (List PyData) := fun en => (f en).bind fun x => (g en).bind fun xs => some (x :: xs)
section
variable {X : Cx} {Ts : TsT} {pos : Pos} {e : Expr} {es : List Expr} {f : En → Option PyData} {g : En → Option (List PyData)}
theorem da_nil : DA X Ts [] fNil := PA.imp pa_nil fun σ H Q ⟨He, O, en, ds, rp, hf, kk⟩ => by
  cases hf
  exact kk [] H (Xt.refl H) rp.tabs .nil
theorem fCons_some {en : En} {ds : List PyData} (h : fCons f g en = some ds) : ∃ x xs, f en = some x ∧ g en = some xs ∧ ds = x :: xs := by
  unfold fCons at h
  obtain ⟨x, h1, h⟩ := Option.bind_eq_some_iff.mp h
  obtain ⟨y, h2, h⟩ := Option.bind_eq_some_iff.mp h
  cases h
  exact ⟨x, y, h1, h2, rfl⟩
theorem da_cons (ha : DE X Ts e f) (hr : DA X Ts es g) (hs : starEach (e :: es) X.env = (false, eval e X.env) :: starEach es X.env := by rfl) : DA X Ts (e :: es) (fCons f g) := PA.imp (pa_cons ha hr hs) fun σ H Q ⟨He, O, en, ds, rp, hf, kk⟩ => by
  obtain ⟨x, xs, h1, h2, rfl⟩ := fCons_some hf
  exact tD.of rp h1 fun v H1 x1 r1 q1 => tDs.of r1 h2 fun vs H2 x2 r2 q2 => kk _ H2 (x1.trans x2) r2.tabs (.cons (Dp.mono (hide_mono x2) q1) q2)
theorem new_out {O : List Addr} {H : Hp} {p : Addr} (occ : ∀ b ∈ O, H b ≠ none ∧ ∀ ps, H b ≠ some (.tbl ps)) (h : H p = none) : p ∉ O := fun z => (occ p z).1 h
theorem small64 {n : Nat} (h : n ≤ 64) : n ≤ sizeLine := Nat.le_of_lt (small1000 (by omega))
theorem tup_new {K : PySem.W.Frag} {H : Hp} {O : List Addr} {p : Addr} {xs : List V} {ds : List PyData} (hp : H p = none) (np : p ∉ O) (q : DpAll K (hide H O) xs ds) : Dp K (hide (upd H p (.tup xs)) O) (.ref p) (.tuple ds) :=
  .tup (.inl (.inl (hide_of np upd_same))) (DpAll.mono (hide_mono (Xt.upd hp)) q)
theorem lst_new {K : PySem.W.Frag} {H : Hp} {O : List Addr} {p : Addr} {xs : List V} {ds : List PyData} (hp : H p = none) (np : p ∉ O) (q : DpAll K (hide H O) xs ds) : Dp K (hide (upd H p (.lst xs)) O) (.ref p) (.list ds) :=
  .lst (.inl (.inl (hide_of np upd_same))) (DpAll.mono (hide_mono (Xt.upd hp)) q)
def fTup (g : En → Option (List PyData)) : En → Option PyData := fun en => (g en).bind fun ds => if ds.length ≤ 64 then some (.tuple ds) else none
def fLst (g : En → Option (List PyData)) : En → Option PyData := fun en => (g en).bind fun ds => if ds.length ≤ 64 then some (.list ds) else none
theorem fTup_some {en : En} {d : PyData} (h : fTup g en = some d) : ∃ ds, g en = some ds ∧ ds.length ≤ 64 ∧ d = .tuple ds := by
  unfold fTup at h
  obtain ⟨x, h1, h⟩ := Option.bind_eq_some_iff.mp h
  split at h
  · cases h; exact ⟨x, h1, by assumption, rfl⟩
  · cases h
theorem fLst_some {en : En} {d : PyData} (h : fLst g en = some d) : ∃ ds, g en = some ds ∧ ds.length ≤ 64 ∧ d = .list ds := by
  unfold fLst at h
  obtain ⟨x, h1, h⟩ := Option.bind_eq_some_iff.mp h
  split at h
  · cases h; exact ⟨x, h1, by assumption, rfl⟩
  · cases h
theorem d_tup {x1} (h : DA X Ts es g) : DE X Ts (.Tuple es x1 pos) (fTup g) := PE.imp (pe_tup h) fun σ H Q ⟨He, O, en, d, rp, hf, kk⟩ => by
  obtain ⟨ds, h1, hl, rfl⟩ := fTup_some hf
  exact tDs.of rp h1 fun vs H1 x1 r1 q1 => ⟨by rw [DpAll.len q1]; exact small64 hl, fun p np => kk _ _ (x1.trans (Xt.upd np)) (r1.tabs.new np) (tup_new np (new_out r1.occ np) q1)⟩
theorem d_lst (h : DA X Ts es g) : DE X Ts (.List es pos) (fLst g) := PE.imp (pe_lst h) fun σ H Q ⟨He, O, en, d, rp, hf, kk⟩ => by
  obtain ⟨ds, h1, hl, rfl⟩ := fLst_some hf
  exact tDs.of rp h1 fun vs H1 x1 r1 q1 => ⟨by rw [DpAll.len q1]; exact small64 hl, fun p np => kk _ _ (x1.trans (Xt.upd np)) (r1.tabs.new np) (lst_new np (new_out r1.occ np) q1)⟩
def spD (K : PySem.W.Frag) (Ts : TsT) (n : Nat) (F : List PyData → Option PyData) : Sp := fun vs H Q _ => vs.length = n ∧ ∃ O ds d, DpAll K (hide H O) vs ds ∧ Tb Ts H ∧ (∀ b ∈ O, H b ≠ none ∧ ∀ ps, H b ≠ some (.tbl ps)) ∧ F ds = some d ∧
  ∀ v H', Xt H H' → Tb Ts H' → Dp K (hide H' O) v d → Q v H'
theorem spD.imp {K : PySem.W.Frag} {Ts : TsT} {n : Nat} {F G : List PyData → Option PyData} (h : ∀ ds d, G ds = some d → F ds = some d) : ∀ vs H Q E, spD K Ts n G vs H Q E → spD K Ts n F vs H Q E :=
  fun vs H Q E ⟨h1, O, ds, d, a, b, c, e, k⟩ => ⟨h1, O, ds, d, a, b, c, h ds d e, k⟩
def fCall (n : Nat) (F : List PyData → Option PyData) (g : En → Option (List PyData)) : En → Option PyData := fun en => (g en).bind fun ds => if ds.length = n then F ds else none
structure DFn (X : Cx) (Ts : TsT) (k : Nat) (x : Str) (n : Nat) (F : List PyData → Option PyData) : Prop where
  ex : ∃ f fd ps dvs us dd G, X.mg x = some (.ref f) ∧ PySem.W.keepIn X.K (.ref f) = true ∧ Binds X.K fd ps us ∧ Vals dvs us ∧ (∀ H, DpAll X.K H dvs dd) ∧ FnOk X.prog X.w X.K X.mg X.base CX0 k f fd ps (spD X.K Ts (n + dd.length) G) ∧ ∀ xs d, xs.length = n → F xs = some d → G (xs ++ dd) = some d
theorem d_call {k j n : Nat} {x : Str} {p : Pos} {F : List PyData → Option PyData} (hr : Room j X.A) (hF : DFn X Ts k x n F) (hk : k ≤ j) (hg : Gl X x) (ha : DA X Ts (e :: es) g) (hdb : (x == ("__debug__" : Str)) = false := by decide)
    (he : starEach (e :: es) X.env = (false, eval e X.env) :: starEach es X.env := by rfl) (hpl : (backTo pos (starEach es X.env)).any (·.1) = false := by rfl) : DE X Ts (.Call (.Name x p) (e :: es) [] pos) (fCall n F g) := by
  obtain ⟨f, fd, ps, dvs, us, dd, G, h1, h2, h3, h3v, h3d, h4, h5⟩ := hF.ex
  refine PE.imp (pe_call h4 (hr.mono hk) hg h1 h2 h3 h3v pass0 ha hdb he hpl) fun σ H Q ⟨He, O, en, d, rp, hf, kk⟩ => ?_
  unfold fCall at hf
  obtain ⟨ds, q1, hf⟩ := Option.bind_eq_some_iff.mp hf
  split at hf
  · rename_i hl
    refine tDs.of rp q1 fun vs H1 x1 r1 qs => ?_
    exact ⟨by rw [List.length_append, DpAll.len qs, hl, DpAll.len (h3d H1)], O, ds ++ dd, d, DpAll.app qs (h3d _), r1.tabs, r1.occ, h5 ds d hl hf, fun v H' x t q => kk v H' (x1.trans x) t q⟩
  · cases hf
end
theorem DpB.seq {K : PySem.W.Frag} {H : Hp} {O : List Addr} {v : V} {d : PyData} (h : DpB K H O v d) :
    (∃ b, v = .bl b ∧ d = .bool b) ∨ (v = .non ∧ d = .none) ∨ (∃ i, v = .int i ∧ d = .int i) ∨ (∃ s, v = .str s ∧ d = .str s) ∨
    (∃ a vs ds, v = .ref a ∧ d = .list ds ∧ SqL K H a vs ∧ DpAll K (hide H O) vs ds) ∨ (∃ a vs ds, v = .ref a ∧ d = .tuple ds ∧ SqT K H a vs ∧ DpAll K (hide H O) vs ds) ∨ d = .dict [] := by
  rcases h with h | ⟨a, vs, ds, rfl, rfl, h1, h2⟩
  · cases h with
    | non => exact .inr (.inl ⟨rfl, rfl⟩)
    | bl b => exact .inl ⟨b, rfl, rfl⟩
    | int i => exact .inr (.inr (.inl ⟨i, rfl, rfl⟩))
    | str s => exact .inr (.inr (.inr (.inl ⟨s, rfl, rfl⟩)))
    | lst s a => exact .inr (.inr (.inr (.inr (.inl ⟨_, _, _, rfl, rfl, sqL_mono (fun o n e => (hide_some e).2) s, a⟩))))
    | tup s a => exact .inr (.inr (.inr (.inr (.inr (.inl ⟨_, _, _, rfl, rfl, sqT_mono (fun o n e => (hide_some e).2) s, a⟩)))))
    | dct _ => exact .inr (.inr (.inr (.inr (.inr (.inr rfl)))))
  · exact .inr (.inr (.inr (.inr (.inl ⟨_, _, _, rfl, rfl, .inl (.inl h1), h2⟩))))
theorem DpB.lst {K : PySem.W.Frag} {H : Hp} {O : List Addr} {v : V} {ds : List PyData} (h : DpB K H O v (.list ds)) : ∃ a vs, v = .ref a ∧ SqL K H a vs ∧ DpAll K (hide H O) vs ds := by
  rcases h.seq with ⟨_, _, e⟩ | ⟨_, e⟩ | ⟨_, _, e⟩ | ⟨_, _, e⟩ | ⟨a, vs, es, rfl, e, h1, h2⟩ | ⟨a, vs, es, rfl, e, h1, h2⟩ | e <;> cases e
  exact ⟨a, vs, rfl, h1, h2⟩
theorem DpB.tup {K : PySem.W.Frag} {H : Hp} {O : List Addr} {v : V} {ds : List PyData} (h : DpB K H O v (.tuple ds)) : ∃ a vs, v = .ref a ∧ SqT K H a vs ∧ DpAll K (hide H O) vs ds := by
  rcases h.seq with ⟨_, _, e⟩ | ⟨_, e⟩ | ⟨_, _, e⟩ | ⟨_, _, e⟩ | ⟨a, vs, es, rfl, e, h1, h2⟩ | ⟨a, vs, es, rfl, e, h1, h2⟩ | e <;> cases e
  exact ⟨a, vs, rfl, h1, h2⟩
def items : PyData → Option (List PyData)
  | .list ds => some ds
  | .tuple ds => some ds
  | _ => none
section
variable {X : Cx} {Ts : TsT} {pos p : Pos} {e e2 : Expr} {f g : En → Option PyData}
theorem b_arg1 {id : String} {r : List V → Hp → VK → Prop} {x : Str} {gg : PyData → Option PyData} (hc : CallR X (.builtin id) r) (hg : Gl X x) (hm : X.mg x = none) (hv : bootBuiltins x = some (.builtin id)) (ha : DB X Ts e f)
    (k : ∀ d z v H O Q, gg d = some z → DpB X.K H O v d → Tb Ts H → (∀ b ∈ O, H b ≠ none ∧ ∀ ps, H b ≠ some (.tbl ps)) → (∀ u H', Xt H H' → Tb Ts H' → Dp X.K (hide H' O) u z → Q u H') → r [v] H Q)
    (hn : x ≠ "__name__" := by decide) (hdb : (x == ("__debug__" : Str)) = false := by decide) (he : starEach [e] X.env = (false, eval e X.env) :: starEach [] X.env := by rfl) :
    DE X Ts (.Call (.Name x p) [e] [] pos) (f1 gg f) := PE.imp (pe_callB (t := tCons (tB X.K Ts f) tNil) hc hg hm hv (pa_cons ha pa_nil he) hn hdb he (by rfl)) fun σ H Q ⟨He, O, en, d, rp, hf, kk⟩ => by
  obtain ⟨x, h1, h2⟩ := f1_some hf
  exact tB.of rp h1 fun v H1 x1 r1 q1 => k x d v H1 O Q h2 q1 r1.tabs r1.occ fun u H' x t q => kk u H' (x1.trans x) t q
theorem b_argT {T : String} {r : List V → Hp → VK → Prop} {x : Str} {gg : PyData → Option PyData} (hc : CallR X (.type T) r) (hg : Gl X x) (hm : X.mg x = none) (hv : bootBuiltins x = some (.type T)) (ha : DB X Ts e f)
    (k : ∀ d z v H O Q, gg d = some z → DpB X.K H O v d → Tb Ts H → (∀ b ∈ O, H b ≠ none ∧ ∀ ps, H b ≠ some (.tbl ps)) → (∀ u H', Xt H H' → Tb Ts H' → Dp X.K (hide H' O) u z → Q u H') → r [v] H Q)
    (hn : x ≠ "__name__" := by decide) (hdb : (x == ("__debug__" : Str)) = false := by decide) (he : starEach [e] X.env = (false, eval e X.env) :: starEach [] X.env := by rfl) :
    DE X Ts (.Call (.Name x p) [e] [] pos) (f1 gg f) := PE.imp (pe_callTy (t := tCons (tB X.K Ts f) tNil) hc hg hm hv (pa_cons ha pa_nil he) hn hdb he (by rfl)) fun σ H Q ⟨He, O, en, d, rp, hf, kk⟩ => by
  obtain ⟨x, h1, h2⟩ := f1_some hf
  exact tB.of rp h1 fun v H1 x1 r1 q1 => k x d v H1 O Q h2 q1 r1.tabs r1.occ fun u H' x t q => kk u H' (x1.trans x) t q
def gLen : PyData → Option PyData
  | .list ds => some (.int ds.length)
  | .tuple ds => some (.int ds.length)
  | _ => none
def fLen := f1 gLen
theorem d_len (hg : Gl X "len") (hm : X.mg "len" = none) (ha : DB X Ts e f) (he : starEach [e] X.env = (false, eval e X.env) :: starEach [] X.env := by rfl) : DE X Ts (.Call (.Name "len" p) [e] [] pos) (fLen f) :=
  b_arg1 call_len hg hm PySem.boot_len ha (he := he) fun d z v H O Q hz q t occ kk => by
    cases d with
    | list ds =>
      cases hz
      obtain ⟨a, vs, rfl, h1, h2⟩ := q.lst
      exact ⟨_, ds.length, rfl, .inl ⟨vs, h1, (DpAll.len h2).symm⟩, kk _ H (Xt.refl H) t (.int _)⟩
    | tuple ds =>
      cases hz
      obtain ⟨a, vs, rfl, h1, h2⟩ := q.tup
      exact ⟨_, ds.length, rfl, .inr ⟨vs, h1, (DpAll.len h2).symm⟩, kk _ H (Xt.refl H) t (.int _)⟩
    | _ => cases hz
def gTuple : PyData → Option PyData := fun d => (items d).map .tuple
def fTuple := f1 gTuple
theorem d_tuple (hg : Gl X "tuple") (hm : X.mg "tuple" = none) (hv : bootBuiltins "tuple" = some (.type "tuple")) (ha : DB X Ts e f) (he : starEach [e] X.env = (false, eval e X.env) :: starEach [] X.env := by rfl) : DE X Ts (.Call (.Name "tuple" p) [e] [] pos) (fTuple f) :=
  b_argT call_tuple_of hg hm hv ha (he := he) fun d z v H O Q hz q t occ kk => by
    cases d <;> simp only [gTuple, items, Option.map_some, Option.map_none] at hz <;> try cases hz
    · obtain ⟨a, vs, rfl, h1, h2⟩ := q.lst
      exact ⟨a, vs, rfl, .inl ⟨h1, fun l nl => kk _ _ (Xt.upd nl) (t.new nl) (tup_new nl (new_out occ nl) h2)⟩⟩
    · rcases q with q | ⟨_, _, _, _, e, _⟩
      · cases q with
        | tup s a => exact ⟨_, _, rfl, .inr ⟨sqT_mono (fun o n e => (hide_some e).2) s, kk _ H (Xt.refl H) t (.tup s a)⟩⟩
      · cases e
def gAbs : PyData → Option PyData
  | .int i => some (.int (if i < 0 then -i else i))
  | _ => none
def fAbs := f1 gAbs
theorem d_abs (hg : Gl X "abs") (hm : X.mg "abs" = none) (hv : bootBuiltins "abs" = some (.builtin "abs")) (ha : DE X Ts e f) (he : starEach [e] X.env = (false, eval e X.env) :: starEach [] X.env := by rfl) : DE X Ts (.Call (.Name "abs" p) [e] [] pos) (fAbs f) :=
  b_arg1 call_abs hg hm hv (d_b ha) (he := he) fun d z v H O Q hz q t occ kk => by
    cases d <;> simp only [gAbs] at hz <;> try cases hz
    rcases q with q | ⟨_, _, _, _, e, _⟩
    · cases q
      exact ⟨_, rfl, kk _ H (Xt.refl H) t (.int _)⟩
    · cases e
def gInt : PyData → Option PyData
  | .int i => some (.int i)
  | .bool k => some (.int (if k then 1 else 0))
  | _ => none
def fInt := f1 gInt
theorem d_toInt (hg : Gl X "int") (hm : X.mg "int" = none) (hv : bootBuiltins "int" = some (.type "int")) (ha : DE X Ts e f) (he : starEach [e] X.env = (false, eval e X.env) :: starEach [] X.env := by rfl) : DE X Ts (.Call (.Name "int" p) [e] [] pos) (fInt f) :=
  b_argT call_int1 hg hm hv (d_b ha) (he := he) fun d z v H O Q hz q t occ kk => by
    cases d with
    | int i =>
      cases hz
      rcases q with q | ⟨_, _, _, _, e, _⟩
      · cases q
        exact .inl ⟨_, rfl, kk _ H (Xt.refl H) t (.int _)⟩
      · cases e
    | bool k =>
      cases hz
      rcases q with q | ⟨_, _, _, _, e, _⟩
      · cases q
        exact .inr ⟨_, rfl, kk _ H (Xt.refl H) t (.int _)⟩
      · cases e
    | _ => cases hz
def pyTy : PyData → String
  | .none => "NoneType"
  | .bool _ => "bool"
  | .int _ => "int"
  | .str _ => "str"
  | .list _ => "list"
  | .tuple _ => "tuple"
  | .dict _ => "dict"
theorem tyX_of {K : PySem.W.Frag} {H : Hp} {v : V} {d : PyData} (h : Dp K H v d) : TyX K H v (.type (pyTy d)) := by
  cases h with
  | non => exact .base .non
  | bl b => exact .base (.bl b)
  | int i => exact .base (.int i)
  | str s => exact .base (.str s)
  | lst s a =>
    rcases s with (s | ⟨o, s⟩) | ⟨o, its, n, h1, h2, _⟩
    · exact .base (.lst s)
    · exact .base (.frz s)
    · exact .kList h1 h2
  | tup s a =>
    rcases s with (s | ⟨o, s⟩) | ⟨o, its, n, h1, h2, _⟩
    · exact .base (.tup s)
    · exact .fTuple s
    · exact .kTuple h1 h2
  | dct e => exact .base (.dK e)
def fIsi (q : PyData → Bool) := f1 (fun d => some (.bool (q d)))
def isInt : PyData → Bool
  | .int _ => true
  | .bool _ => true
  | _ => false
def isBool : PyData → Bool
  | .bool _ => true
  | _ => false
def isTup : PyData → Bool
  | .tuple _ => true
  | _ => false
def isLst : PyData → Bool
  | .list _ => true
  | _ => false
def isStr : PyData → Bool
  | .str _ => true
  | _ => false
theorem isi_int : ∀ d, kitB (pyTy d) "int" = some (isInt d) := fun d => by cases d <;> (simp only [pyTy, isInt]; decide +kernel)
theorem isi_bool : ∀ d, kitB (pyTy d) "bool" = some (isBool d) := fun d => by cases d <;> (simp only [pyTy, isBool]; decide +kernel)
theorem isi_tuple : ∀ d, kitB (pyTy d) "tuple" = some (isTup d) := fun d => by cases d <;> (simp only [pyTy, isTup]; decide +kernel)
theorem isi_list : ∀ d, kitB (pyTy d) "list" = some (isLst d) := fun d => by cases d <;> (simp only [pyTy, isLst]; decide +kernel)
theorem isi_str : ∀ d, kitB (pyTy d) "str" = some (isStr d) := fun d => by cases d <;> (simp only [pyTy, isStr]; decide +kernel)
theorem d_isi {T : String} {x : Str} {q : PyData → Bool} {px : Pos} (hq : ∀ d, kitB (pyTy d) T = some (q d)) (hg : Gl X "isinstance") (hm : X.mg "isinstance" = none) (hv : bootBuiltins "isinstance" = some (.builtin "isinstance"))
    (hgT : Gl X x) (hmT : X.mg x = none) (hvT : bootBuiltins x = some (.type T)) (ha : DE X Ts e f) (hnT : x ≠ "__name__" := by decide) (hdT : (x == ("__debug__" : Str)) = false := by decide)
    (he : starEach [e, .Name x px] X.env = (false, eval e X.env) :: starEach [.Name x px] X.env := by rfl) (he2 : starEach [.Name x px] X.env = (false, eval (.Name x px) X.env) :: starEach [] X.env := by rfl) (hpl : (backTo pos (starEach [.Name x px] X.env)).any (·.1) = false := by rfl) :
    DE X Ts (.Call (.Name "isinstance" p) [e, .Name x px] [] pos) (fIsi q f) :=
  PE.imp (pe_callB (t := tCons (tD X.K Ts f) (tCons (tC (.ty T)) tNil)) call_isi hg hm hv (pa_cons ha (pa_cons (pe_bltn (v := .ty T) hgT hmT hvT rfl hnT hdT) pa_nil he2) he) (by decide) (by decide) he hpl) fun σ H Q ⟨He, O, en, d, rp, hf, kk⟩ => by
    obtain ⟨x, h1, h2⟩ := f1_some hf
    cases h2
    exact tD.of rp h1 fun v H1 x1 r1 q1 => ⟨v, .ty T, _, _, q x, rfl, .ty T, tyX_of (Dp.mono hide_out q1), kit_ty (hq x), kk _ H1 x1 r1.tabs (.bl _)⟩
def gIx : PyData → PyData → Option PyData := fun d i => match i with
  | .int i => (items d).bind fun ds => atI ds i
  | _ => none
def fIx := f2 gIx
theorem atI_dp {K : PySem.W.Frag} {H : Hp} {vs : List V} {ds : List PyData} {i : Int} {d : PyData} (h : DpAll K H vs ds) (e : atI ds i = some d) : ∃ v, atI vs i = some v ∧ Dp K H v d := by
  unfold atI at e ⊢
  rw [DpAll.len h]
  obtain ⟨j, h1, h2⟩ := Option.bind_eq_some_iff.mp e
  obtain ⟨v, h3, h4⟩ := DpAll.get' h h2
  exact ⟨v, by rw [h1]; exact h3, h4⟩
theorem b_ix (ha : DB X Ts e f) (hb : DE X Ts e2 g) (hs : PlainIx e2 := by exact fun _ _ => rfl) : DE X Ts (.Subscript e e2 pos) (fIx f g) := PE.imp (pe_ix ix_seq ha hb hs) fun σ H Q ⟨He, O, en, d, rp, hf, kk⟩ => by
  obtain ⟨x, y, h1, h2, h3⟩ := f2_some hf
  refine tB.of rp h1 fun v H1 x1 r1 q1 => tD.of r1 h2 fun w H2 x2 r2 q2 => ?_
  unfold gIx at h3
  cases q2 <;> try cases h3
  rename_i i
  obtain ⟨ds, h4, h5⟩ := Option.bind_eq_some_iff.mp h3
  cases x <;> simp only [items] at h4 <;> cases h4
  · obtain ⟨a, vs, rfl, s, qs⟩ := q1.lst
    obtain ⟨u, h6, h7⟩ := atI_dp qs h5
    exact .inl ⟨a, vs, i, u, rfl, rfl, sqL_mono (fun o n e => x2.get _ o e n) s, h6, kk u H2 (x1.trans x2) r2.tabs (Dp.mono (hide_mono x2) h7)⟩
  · obtain ⟨a, vs, rfl, s, qs⟩ := q1.tup
    obtain ⟨u, h6, h7⟩ := atI_dp qs h5
    exact .inr (.inl ⟨a, vs, i, u, rfl, rfl, sqT_mono (fun o n e => x2.get _ o e n) s, h6, kk u H2 (x1.trans x2) r2.tabs (Dp.mono (hide_mono x2) h7)⟩)
def fGcd := f2 (gI fun i j => .int ((Nat.gcd i.natAbs j.natAbs : Nat) : Int))
end
def gD (K : PySem.W.Frag) (Ts : TsT) (vs : List Nat) (b : PyData → En → Option En) : TG := fun x σ H Q => ∃ He O en d en', Rep K Ts He O σ H en ∧ Dp K (hide H O) x d ∧ b d en = some en' ∧ ∀ σ', Rep K Ts He O σ' H en' → wipe σ' vs = wipe σ vs → Q σ' H
abbrev DG (X : Cx) (Ts : TsT) (tg : Expr) (vs : List Nat) (b : PyData → En → Option En) : Prop := PG X tg (gD X.K Ts vs b)
theorem PG.imp {X : Cx} {tg : Expr} {g g' : TG} (h : PG X tg g) (w : ∀ x σ H Q, g' x σ H Q → g x σ H Q) : PG X tg g' := ⟨fun pins s σ H v u Q I r q => h.run pins s σ H v u Q I r (w v σ H Q q)⟩
def bName (i : Nat) : PyData → En → Option En := fun d en => if i < en.length then some (en.set i (.dat d)) else none
theorem Rep.setD {K : PySem.W.Frag} {Ts : TsT} {He : Hp} {O : List Addr} {σ : St} {H : Hp} {en : En} (r : Rep K Ts He O σ H en) {i : Nat} {x : V} {d : PyData} (hi : i < en.length) (q : Dp K (hide H O) x d) : Rep K Ts He O (σ.set i (some x)) H (en.set i (.dat d)) := by
  have hs : i < σ.length := by rw [← r.len]; exact hi
  refine ⟨by simp [r.len], fun j e h => ?_, fun j ds h => ?_, fun j k ds es a h1 h2 h3 h4 => ?_, r.occ, r.ext, r.tabs⟩
  · by_cases hj : i = j
    · subst hj
      rw [List.getElem?_set_self hi] at h
      cases h
      exact ⟨x, by rw [List.getElem?_set_self hs], q⟩
    · rw [List.getElem?_set_ne hj] at h
      obtain ⟨v, a, b⟩ := r.dat j e h
      exact ⟨v, by rw [List.getElem?_set_ne hj]; exact a, b⟩
  · by_cases hj : i = j
    · subst hj
      rw [List.getElem?_set_self hi] at h
      cases h
    · rw [List.getElem?_set_ne hj] at h
      obtain ⟨a, vs, h1, h2⟩ := r.own j ds h
      exact ⟨a, vs, by rw [List.getElem?_set_ne hj]; exact h1, h2⟩
  · have hj : i ≠ j := fun e => by subst e; rw [List.getElem?_set_self hi] at h1; cases h1
    have hk : i ≠ k := fun e => by subst e; rw [List.getElem?_set_self hi] at h2; cases h2
    rw [List.getElem?_set_ne hj] at h1 h3
    rw [List.getElem?_set_ne hk] at h2 h4
    exact r.inj j k ds es a h1 h2 h3 h4
theorem wipe_comm (σ : St) (i : Nat) (y : Option V) : ∀ vs : List Nat, i ∈ vs → wipe (σ.set i y) vs = wipe σ vs
  | [], h => by cases h
  | v :: vs, h => by
    unfold wipe
    by_cases hv : i ∈ vs
    · rw [wipe_comm σ i y vs hv]
    · have hvi : i = v := by
        rcases List.mem_cons.mp h with e | e
        · exact e
        · exact absurd e hv
      subst hvi
      have key : ∀ us : List Nat, i ∉ us → wipe (σ.set i y) us = (wipe σ us).set i y := by
        intro us
        induction us with
        | nil => intro _; rfl
        | cons u us ih =>
          intro hn
          have h1 : i ≠ u := fun e => hn (by rw [e]; exact List.mem_cons_self)
          have h2 : i ∉ us := fun e => hn (List.mem_cons_of_mem _ e)
          show (wipe (σ.set i y) us).set u none = ((wipe σ us).set u none).set i y
          rw [ih h2, List.set_comm _ _ h1]
      rw [key vs hv, List.set_set]
theorem wipe_in {σ : St} {i : Nat} : ∀ {vs : List Nat}, i ∈ vs → i < σ.length → (wipe σ vs)[i]? = some none
  | v :: vs, h, hl => by
    unfold wipe
    by_cases hv : v = i
    · subst hv
      rw [List.getElem?_set_self (by rw [wipe_length]; exact hl)]
    · rw [List.getElem?_set_ne hv]
      rcases List.mem_cons.mp h with e | e
      · exact absurd e.symm hv
      · exact wipe_in e hl
theorem wipe_wipe (σ : St) (vs : List Nat) : wipe (wipe σ vs) vs = wipe σ vs := by
  apply List.ext_getElem?
  intro i
  by_cases h : i ∈ vs
  · by_cases hl : i < σ.length
    · rw [wipe_in h (by rw [wipe_length]; exact hl), wipe_in h hl]
    · rw [List.getElem?_eq_none (by rw [wipe_length, wipe_length]; omega), List.getElem?_eq_none (by rw [wipe_length]; omega)]
  · rw [wipe_out h]
section
variable {X : Cx} {Ts : TsT} {pos : Pos}
theorem dg_name (i : Nat) {x : Str} {vs : List Nat} (hN : X.N.Nodup) (hi : X.N[i]? = some x) (hx : Loc X.env.scope x) (hv : i ∈ vs) (hf : X.fn x = true ∨ X.env.scope.names.lookup x = some .local := by first | exact .inl rfl | exact .inr rfl | assumption) : DG X Ts (.Name x pos) vs (bName i) :=
  PG.imp (pg_name hN hi hx hf) fun v σ H Q ⟨He, O, en, d, en', r, q, hb, kk⟩ => by
    unfold bName at hb
    split at hb
    · rename_i hl
      cases hb
      exact kk _ (r.setD hl q) (wipe_comm σ i _ vs hv)
    · cases hb
def bNames : List Nat → List PyData → En → Option En
  | [], [], en => some en
  | i :: is, d :: ds, en => (bName i d en).bind fun e => bNames is ds e
  | _, _, _ => none
def gDs (K : PySem.W.Frag) (Ts : TsT) (vs : List Nat) (is : List Nat) : TGs := fun xs σ H Q => ∃ He O en ds en', Rep K Ts He O σ H en ∧ DpAll K (hide H O) xs ds ∧ bNames is ds en = some en' ∧ ∀ σ', Rep K Ts He O σ' H en' → wipe σ' vs = wipe σ vs → Q σ' H
theorem dgs_nil {vs : List Nat} : PGs X [] (gDs X.K Ts vs []) := ⟨fun pins s σ H xs us Q I r ⟨He, O, en, ds, en', rp, q, hb, kk⟩ => by
  cases q with
  | nil =>
    cases hb
    exact pgs_nil.run pins s σ H _ us Q I r ⟨rfl, kk σ rp rfl⟩
  | cons _ _ => cases hb⟩
theorem dgs_cons {e : Expr} {es : List Expr} {vs is : List Nat} {i : Nat} (h1 : DG X Ts e vs (bName i)) (h2 : PGs X es (gDs X.K Ts vs is)) (hs : (assignEach (e :: es) X.env).map (·.2) = assign e X.env :: (assignEach es X.env).map (·.2) := by rfl) : PGs X (e :: es) (gDs X.K Ts vs (i :: is)) :=
  ⟨fun pins s σ H xs us Q I r ⟨He, O, en, ds, en', rp, q, hb, kk⟩ => by
    cases q with
    | nil => cases hb
    | cons qd qt =>
      obtain ⟨e1, hb1, hb2⟩ := Option.bind_eq_some_iff.mp hb
      exact (pgs_cons h1 h2 hs).run pins s σ H _ us Q I r ⟨_, _, rfl, He, O, en, _, e1, rp, qd, hb1, fun σ' r' w' => ⟨He, O, e1, _, en', r', qt, hb2, fun σ2 r2 w2 => kk σ2 r2 (w2.trans w')⟩⟩⟩
def bTup (is : List Nat) : PyData → En → Option En := fun d en => match d with
  | .tuple ds => bNames is ds en
  | _ => none
theorem bNames_len : ∀ {is : List Nat} {ds : List PyData} {en en' : En}, bNames is ds en = some en' → ds.length = is.length
  | [], [], _, _, _ => rfl
  | i :: is, d :: ds, en, en', h => by
    obtain ⟨e1, _, h2⟩ := Option.bind_eq_some_iff.mp h
    rw [List.length_cons, List.length_cons, bNames_len h2]
  | [], _ :: _, _, _, h => by cases h
  | _ :: _, [], _, _, h => by cases h
theorem dg_tup {es : List Expr} {k : Nat} {vs is : List Nat} (hc : X.calm = true) (h : PGs X es (gDs X.K Ts vs is)) (hn : (assignEach es X.env).length = is.length := by rfl) (hst : (assignEach es X.env).findIdx? (·.1) = none := by rfl) : DG X Ts (.Tuple es k pos) vs (bTup is) :=
  PG.imp (pg_tup hc h hn hst) fun v σ H Q ⟨He, O, en, d, en', r, q, hb, kk⟩ => by
    cases d <;> try cases hb
    rename_i ds
    cases q with
    | tup s a =>
      exact ⟨_, _, rfl, sqT_mono (fun o n e => (hide_some e).2) s, by rw [DpAll.len a]; exact bNames_len hb, He, O, en, ds, en', r, a, hb, kk⟩
def Gives (K : PySem.W.Frag) (Ts : TsT) (J : It) (ds : List PyData) (H1 : Hp) (O : List Addr) : Prop :=
  ∀ O' H2, Xt (hide H1 O) (hide H2 O') → Xt (hide H1 O) H2 → (∀ b ∈ O', H2 b ≠ none ∧ ∀ ps, H2 b ≠ some (.tbl ps)) → (∀ i, i < ds.length → J.go i H2) ∧ J.stop ds.length H2 ∧
    ∀ i x H3, i < ds.length → J.yld i H2 x H3 → ∃ d, ds[i]? = some d ∧ Xt H2 H3 ∧ (Tb Ts H2 → Tb Ts H3) ∧ Dp K (hide H3 O') x d
def tI (K : PySem.W.Frag) (Ts : TsT) (f : En → Option (List PyData)) : TI := fun σ H R => ∃ He O en ds, Rep K Ts He O σ H en ∧ f en = some ds ∧ ∀ J H1, Xt H H1 → Tb Ts H1 → Gives K Ts J ds H1 O → R J H1
abbrev DI (X : Cx) (Ts : TsT) (tg iter : Expr) (f : En → Option (List PyData)) : Prop := PI X tg iter (tI X.K Ts f)
theorem PI.imp {X : Cx} {tg iter : Expr} {t t' : TI} (h : PI X tg iter t) (w : ∀ σ H R, t' σ H R → t σ H R) : PI X tg iter t' := ⟨fun pins s σ H R I q => h.run pins s σ H R I (w σ H R q)⟩
variable {tg e e2 : Expr} {f f2 : En → Option PyData}
def rangeD (lo : Int) (n : Nat) : List PyData := (List.range n).map fun (i : Nat) => PyData.int (lo + (i : Int))
def iRange1 (f : En → Option PyData) : En → Option (List PyData) := fun en => match f en with
  | some (.int j) => if -1000000 ≤ j ∧ j ≤ 1000000 then some (rangeD 0 j.toNat) else none
  | _ => none
theorem gives_range {K : PySem.W.Frag} {lo : Int} {n : Nat} {H1 : Hp} {O : List Addr} : Gives K Ts (Itr lo n) (rangeD lo n) H1 O := fun O' H2 _ _ _ => by
  have hl : (rangeD lo n).length = n := by simp [rangeD]
  refine ⟨fun i hi => by rw [hl] at hi; exact hi, by rw [hl]; exact Nat.le_refl _, fun i x H3 hi hy => ?_⟩
  obtain ⟨rfl, rfl⟩ := hy
  rw [hl] at hi
  exact ⟨.int (lo + i), by simp [rangeD, hi], Xt.refl _, id, .int _⟩
theorem di_range1 {p pos : Pos} (hg : Gl X "range") (hm : X.mg "range" = none) (ha : DE X Ts e f) (hs : starEach [e] X.env = [(false, eval e X.env)] := by rfl) : DI X Ts tg (.Call (.Name "range" p) [e] [] pos) (iRange1 f) :=
  PI.imp (pi_range1 (ta := tCons (tD X.K Ts f) tNil) hg hm (pa_cons ha pa_nil hs) hs) fun σ H R ⟨He, O, en, ds, rp, hf, kk⟩ => by
    unfold iRange1 at hf
    split at hf
    · rename_i j e
      split at hf
      · rename_i hj
        cases hf
        refine tD.of rp e fun v H1 x1 r1 q1 => ?_
        cases q1
        exact ⟨j, rfl, by omega, by omega, kk _ H1 x1 r1.tabs gives_range⟩
      · cases hf
    · cases hf
def wipeE (en : En) : List Nat → En
  | [] => en
  | v :: vs => (wipeE en vs).set v .no
theorem Rep.wipe {K : PySem.W.Frag} {He : Hp} {O : List Addr} {σ : St} {H : Hp} {en : En} (r : Rep K Ts He O σ H en) : ∀ vs : List Nat, Rep K Ts He O (L2.wipe σ vs) H (wipeE en vs)
  | [] => r
  | v :: vs => by
    have ih := Rep.wipe r vs
    show Rep K Ts He O ((L2.wipe σ vs).set v none) H ((wipeE en vs).set v .no)
    refine ⟨by simp [ih.len], fun j e h => ?_, fun j ds h => ?_, fun j k ds es a h1 h2 h3 h4 => ?_, ih.occ, ih.ext, ih.tabs⟩
    · have hj : v ≠ j := fun z => by
        subst z
        by_cases hl : v < (wipeE en vs).length
        · rw [List.getElem?_set_self hl] at h; cases h
        · rw [List.getElem?_eq_none (by simpa using hl)] at h; cases h
      rw [List.getElem?_set_ne hj] at h ⊢
      exact ih.dat j e h
    · have hj : v ≠ j := fun z => by
        subst z
        by_cases hl : v < (wipeE en vs).length
        · rw [List.getElem?_set_self hl] at h; cases h
        · rw [List.getElem?_eq_none (by simpa using hl)] at h; cases h
      rw [List.getElem?_set_ne hj] at h ⊢
      exact ih.own j ds h
    · have hno : ∀ i ds, ((wipeE en vs).set v Slot.no)[i]? = some (Slot.own ds) → v ≠ i := fun i ds h z => by
        subst z
        by_cases hl : v < (wipeE en vs).length
        · rw [List.getElem?_set_self hl] at h; cases h
        · rw [List.getElem?_eq_none (by simpa using hl)] at h; cases h
      have hj := hno j ds h1
      have hk := hno k es h2
      rw [List.getElem?_set_ne hj] at h1 h3
      rw [List.getElem?_set_ne hk] at h2 h4
      exact ih.inj j k ds es a h1 h2 h3 h4
def lcGo (b : PyData → En → Option En) (t : En → Option Bool) (f : En → Option PyData) (en : En) : List PyData → Option (List PyData)
  | [] => some []
  | d :: r => (b d en).bind fun e1 => (t e1).bind fun k => if k = true then (f e1).bind fun y => (lcGo b t f en r).map (y :: ·) else lcGo b t f en r
def fLc (it : En → Option (List PyData)) (b : PyData → En → Option En) (t : En → Option Bool) (f : En → Option PyData) (vs : List Nat) : En → Option PyData := fun en => (it en).bind fun ds =>
  if ds.length ≤ 1000000 then (lcGo b t f (wipeE en vs) ds).map .list else none
def kYes : En → Option Bool := fun _ => some true
theorem dts_nil : PTs X [] (tT X.K Ts kYes) := ⟨fun pins s σ H Q I ⟨He, O, en, b, rp, hf, kk⟩ => by
  cases hf
  exact pts_nil.run pins s σ H Q I (kk H (Xt.refl H) rp.tabs)⟩
theorem dts_one {c : Expr} {t : En → Option Bool} (h : DT X Ts c t) : PTs X [c] (tT X.K Ts t) := pts_one h
def tNew (K : PySem.W.Frag) (Ts : TsT) (f : En → Option PyData) : TE := fun σ H Q => ∃ He O en ds, Rep K Ts He O σ H en ∧ f en = some (.list ds) ∧ ∀ a vs H', Xt H H' → Tb Ts H' → H a = none → H' a = some (.lst vs) → DpAll K (hide H' (a :: O)) vs ds → Q (.ref a) H'
abbrev DNew (X : Cx) (Ts : TsT) (e : Expr) (f : En → Option PyData) : Prop := PE X e (tNew X.K Ts f)
theorem Rep.free {K : PySem.W.Frag} {He : Hp} {O : List Addr} {σ : St} {H : Hp} {en : En} (r : Rep K Ts He O σ H en) {a : Addr} (h : H a = none) : a ∉ O := fun z => (r.occ a z).1 h
theorem new_w {K : PySem.W.Frag} {f : En → Option PyData} {σ : St} {H : Hp} {Q : VK} (h : tD K Ts f σ H Q) (hl : ∀ en d, f en = some d → ∃ ds, d = .list ds) : tNew K Ts f σ H Q := by
  obtain ⟨He, O, en, d, rp, hf, kk⟩ := h
  obtain ⟨ds, rfl⟩ := hl en d hf
  exact ⟨He, O, en, ds, rp, hf, fun a vs H' x t na ha q => kk _ H' x t (.lst (.inl (.inl (hide_of (rp.free na) ha))) (DpAll.mono (hide_sub fun b hb => List.mem_cons_of_mem _ hb) q))⟩
theorem fLc_list {it : En → Option (List PyData)} {b : PyData → En → Option En} {t : En → Option Bool} {f : En → Option PyData} {vs : List Nat} : ∀ en d, fLc it b t f vs en = some d → ∃ ds, d = .list ds := fun en d h => by
  unfold fLc at h
  obtain ⟨ds, _, h⟩ := Option.bind_eq_some_iff.mp h
  split at h
  · obtain ⟨out, _, rfl⟩ := Option.map_eq_some_iff.mp h
    exact ⟨out, rfl⟩
  · cases h
theorem lc_w {K : PySem.W.Frag} {it : En → Option (List PyData)} {b : PyData → En → Option En} {t : En → Option Bool} {f : En → Option PyData} {vs : List Nat} {σ : St} {H : Hp} {Q : VK} (h : tNew K Ts (fLc it b t f vs) σ H Q) :
    tLc (tI K Ts it) (gD K Ts vs b) (tT K Ts t) (tD K Ts f) vs σ H Q := by
  obtain ⟨He, O, en, out, rp, hf, kk⟩ := h
  unfold fLc at hf
  obtain ⟨ds, h1, hf1⟩ := Option.bind_eq_some_iff.mp hf
  clear hf
  split at hf1
  · rename_i hlen
    obtain ⟨out', h2, h3⟩ := Option.map_eq_some_iff.mp hf1
    cases h3
    refine ⟨He, O, en, ds, rp, h1, fun J H1 x1 t1 gv D nD => ?_⟩
    have nDH : H D = none := x1.there nD
    have r1 := rp.go x1 t1
    have rD : Rep K Ts He (D :: O) σ (upd H1 D (.lst [])) en := r1.hid nD (fun _ z => nomatch z)
    refine ⟨fun i m H2 => m = ds.length - i ∧ i ≤ ds.length ∧ Xt H1 H2 ∧ Rep K Ts He (D :: O) (L2.wipe σ vs) H2 (wipeE en vs) ∧ ∃ acc done rest, H2 D = some (.lst acc) ∧ DpAll K (hide H2 (D :: O)) acc done ∧ acc.length ≤ i ∧ lcGo b t f (wipeE en vs) (ds.drop i) = some rest ∧ out = done ++ rest,
      ⟨ds.length, by simp, Nat.zero_le _, Xt.upd nD, rD.wipe vs, [], [], out, upd_same, .nil, Nat.zero_le _, by simpa using h2, rfl⟩, fun i m H2 hW => ?_⟩
    obtain ⟨rfl, hi, x12, r2, acc, done, rest, hD, ha, hal, hgo, hout⟩ := hW
    have xh : Xt (hide H1 O) (hide H2 (D :: O)) := fun b o e => by
      obtain ⟨e1, e2⟩ := hide_some e
      have nb : b ∉ D :: O := fun z => by
        rcases List.mem_cons.mp z with z | z
        · rw [z, nD] at e2; cases e2
        · exact e1 z
      rcases x12 b o e2 with q | ⟨ps, qs, e3, q⟩
      · exact .inl (hide_of nb q)
      · exact .inr ⟨ps, qs, e3, hide_of nb q⟩
    obtain ⟨g1, g2, g3⟩ := gv (D :: O) H2 xh (hide_out.trans x12) r2.occ
    by_cases hlt : i < ds.length
    · refine .inr ⟨g1 i hlt, fun H' => Xt H1 H' ∧ Rep K Ts He (D :: O) (L2.wipe σ vs) H' (wipeE en vs) ∧ ∃ acc done rest, H' D = some (.lst acc) ∧ DpAll K (hide H' (D :: O)) acc done ∧ acc.length ≤ i + 1 ∧ lcGo b t f (wipeE en vs) (ds.drop (i + 1)) = some rest ∧ out = done ++ rest,
        fun H' ⟨a, c⟩ => ⟨ds.length - (i + 1), by omega, rfl, hlt, a, c⟩, fun x H3 hy => ?_⟩
      obtain ⟨d, hd, x23, t23, qd⟩ := g3 i x H3 hlt hy
      have r3 := r2.go x23 (t23 r2.tabs)
      rw [List.drop_eq_getElem_cons hlt] at hgo
      have hd' : ds[i] = d := by rw [List.getElem?_eq_getElem hlt] at hd; exact Option.some.inj hd
      rw [hd'] at hgo
      unfold lcGo at hgo
      obtain ⟨e1, hb, hgo1⟩ := Option.bind_eq_some_iff.mp hgo
      obtain ⟨k, ht, hgo2⟩ := Option.bind_eq_some_iff.mp hgo1
      clear hgo hgo1
      refine ⟨He, D :: O, _, d, e1, r3, qd, hb, fun σ2 r4 hw => ⟨hw.trans (wipe_wipe _ _), ?_⟩⟩
      refine tT.of r4 ht fun H4 x34 r5 => ?_
      have x14 : Xt H2 H4 := x23.trans x34
      have hD4 : H4 D = some (.lst acc) := x14.get D _ hD (fun _ z => nomatch z)
      have ha4 := DpAll.mono (hide_mono (O := D :: O) x14) ha
      have rw4 : Rep K Ts He (D :: O) (L2.wipe σ vs) H4 (wipeE en vs) := r2.go x14 r5.tabs
      cases k with
      | false =>
        simp only [Bool.false_eq_true, if_false] at hgo2 ⊢
        exact ⟨x12.trans x14, rw4, acc, done, rest, hD4, ha4, by omega, hgo2, hout⟩
      | true =>
        simp only [if_true] at hgo2 ⊢
        obtain ⟨y, hy1, hgo3⟩ := Option.bind_eq_some_iff.mp hgo2
        obtain ⟨rest', hr1, hr2⟩ := Option.map_eq_some_iff.mp hgo3
        subst hr2
        refine tD.of r5 hy1 fun v H5 x45 r6 q6 => ?_
        have x25 : Xt H2 H5 := x14.trans x45
        have hD5 : H5 D = some (.lst acc) := x25.get D _ hD (fun _ z => nomatch z)
        have ha5 := DpAll.mono (hide_mono (O := D :: O) x25) ha
        have hDm : D ∈ D :: O := List.mem_cons_self
        have hu : Xt (hide H5 (D :: O)) (hide (upd H5 D (.lst (acc ++ [v]))) (D :: O)) := hide_upd hDm
        refine ⟨acc, hD5, by rw [sizeLine_eq]; omega, ?_, ?_, acc ++ [v], done ++ [y], rest', upd_same, DpAll.app (DpAll.mono hu ha5) (.cons (Dp.mono hu q6) .nil), by rw [List.length_append]; simp; omega, hr1, by rw [hout]; simp⟩
        · intro b o e
          have hne : b ≠ D := ne_of_none e nD
          rw [upd_ne hne]
          exact (x12.trans x25) b o e
        · have rw5 : Rep K Ts He (D :: O) (L2.wipe σ vs) H5 (wipeE en vs) := r2.go x25 r6.tabs
          have nown : ∀ j es a, (wipeE en vs)[j]? = some (Slot.own es) → (L2.wipe σ vs)[j]? = some (some (V.ref a)) → a ≠ D := fun j es a h1 h2 z => by
            obtain ⟨a', vs', g1, g2, g3, g4, _⟩ := (r1.wipe vs).own j es h1
            rw [h2] at g1
            cases g1
            rw [z, nD] at g4
            cases g4
          refine ⟨rw5.len, fun j dd h => let ⟨u, p, q⟩ := rw5.dat j dd h; ⟨u, p, Dp.mono hu q⟩, fun j es h => ?_, rw5.inj, fun bb hb => ?_, ?_, rw5.tabs.upd fun u z => by rw [hD5] at z; cases z; exact lst_noc⟩
          · obtain ⟨a, ws, p1, p2, p3, p4, p5⟩ := rw5.own j es h
            exact ⟨a, ws, p1, p2, p3, by rw [upd_ne (nown j es a h p1)]; exact p4, DpAll.mono hu p5⟩
          · by_cases z : bb = D
            · rw [z, upd_same]
              exact ⟨by simp, fun ps q => nomatch q⟩
            · rw [upd_ne z]
              exact rw5.occ bb hb
          · intro bb o e
            have e1 := rw5.ext bb o e
            have hne : bb ≠ D := fun z => by
              have := (rp.ext.trans x1).there (b := bb) (by rw [z]; exact nD)
              rw [this] at e
              cases e
            rw [upd_ne hne]
            exact e1
    · have hie : i = ds.length := by omega
      subst hie
      rw [List.drop_of_length_le (Nat.le_refl _)] at hgo
      cases hgo
      rw [List.append_nil] at hout
      subst hout
      exact .inl ⟨g2, kk D acc H2 (x1.trans x12) r2.tabs nDH hD ha⟩
  · cases hf1
end
abbrev BX (X : Cx) (scope : Scope) (s : Shared) (H : Hp) (C : Addr) (cl : List (Str × Addr)) (fp : List Addr) : Cx := X.blk s H scope (compEnvC scope cl C X.env) fp
section
variable {X : Cx} {Ts : TsT} {pos : Pos} {elt tg iter : Expr} {ifs : List Expr} {scope : Scope} {own : List (Str × Nat)} {it : En → Option (List PyData)} {b : PyData → En → Option En} {t : En → Option Bool} {f : En → Option PyData}
theorem n_lc (hc : X.calm = true) (hN : X.N.Nodup) (hi : DI X Ts tg iter it) (ok : BlkOk X.N X.env.scope scope own)
    (hg : ∀ s H C cl fp, DG (BX X scope s H C cl fp) Ts tg (own.map (·.2)) b) (ht : ∀ s H C cl fp, PTs (BX X scope s H C cl fp) ifs (tT X.K Ts t))
    (he : ∀ s H C cl fp, DE (BX X scope s H C cl fp) Ts elt f) (hs : ∀ x, foldedSetIterable iter X.env x = pure x := by intro _; rfl) : DNew X Ts (.ListComp elt [⟨tg, iter, ifs, 0⟩] scope pos) (fLc it b t f (own.map (·.2))) :=
  PE.imp (pe_lc hc hN hi ok (fun s H C cl fp => hg s H C cl fp) (fun s H C cl fp => ht s H C cl fp) (fun s H C cl fp => he s H C cl fp) hs) fun σ H Q h => lc_w h
theorem d_lc (hc : X.calm = true) (hN : X.N.Nodup) (hi : DI X Ts tg iter it) (ok : BlkOk X.N X.env.scope scope own)
    (hg : ∀ s H C cl fp, DG (BX X scope s H C cl fp) Ts tg (own.map (·.2)) b) (ht : ∀ s H C cl fp, PTs (BX X scope s H C cl fp) ifs (tT X.K Ts t))
    (he : ∀ s H C cl fp, DE (BX X scope s H C cl fp) Ts elt f) (hs : ∀ x, foldedSetIterable iter X.env x = pure x := by intro _; rfl) : DE X Ts (.ListComp elt [⟨tg, iter, ifs, 0⟩] scope pos) (fLc it b t f (own.map (·.2))) :=
  PE.imp (n_lc hc hN hi ok hg ht he hs) fun σ H Q h => new_w h fLc_list
def NoOwn (D : Addr) (τ : St) (en : En) : Prop := ∀ (j : Nat) (es : List PyData) (a : Addr), en[j]? = some (Slot.own es) → τ[j]? = some (some (V.ref a)) → a ≠ D
theorem wipeE_own {en : En} {vs : List Nat} {j : Nat} {es : List PyData} (h : (wipeE en vs)[j]? = some (Slot.own es)) : en[j]? = some (Slot.own es) ∧ j ∉ vs := by
  induction vs with
  | nil => exact ⟨h, by simp⟩
  | cons v vs ih =>
    have h : ((wipeE en vs).set v .no)[j]? = some (Slot.own es) := h
    have hj : v ≠ j := fun z => by
      subst z
      by_cases hl : v < (wipeE en vs).length
      · rw [List.getElem?_set_self hl] at h; cases h
      · rw [List.getElem?_eq_none (by simpa using hl)] at h; cases h
    rw [List.getElem?_set_ne hj] at h
    obtain ⟨h1, h2⟩ := ih h
    exact ⟨h1, by simp only [List.mem_cons, not_or]; exact ⟨fun e => hj e.symm, h2⟩⟩
theorem NoOwn.wipe {D : Addr} {τ : St} {en : En} (h : NoOwn D τ en) (vs : List Nat) : NoOwn D (L2.wipe τ vs) (wipeE en vs) := fun j es a h1 h2 => by
  obtain ⟨h3, h4⟩ := wipeE_own h1
  rw [wipe_out h4] at h2
  exact h j es a h3 h2
def allGo (ev : Bool) (b : PyData → En → Option En) (f : En → Option PyData) (en : En) : List PyData → Option PyData
  | [] => some (.bool ev)
  | d :: r => (b d en).bind fun e1 => match f e1 with
    | some (.bool k) => if k = ev then allGo ev b f en r else some (.bool k)
    | _ => none
def fAll (ev : Bool) (it : En → Option (List PyData)) (b : PyData → En → Option En) (f : En → Option PyData) (vs : List Nat) : En → Option PyData := fun en => (it en).bind fun ds => allGo ev b f (wipeE en vs) ds
theorem all_w {K : PySem.W.Frag} {ev : Bool} {P : Addr} {vs : List Nat} {σ : St} {H : Hp} {Q : VK} (hP : P ∈ Ts.gs) (h : tD K Ts (fAll ev it b f vs) σ H Q) : GA.tGen ev P (tI K Ts it) (gD K Ts vs b) (tD K Ts f) vs σ H Q := by
  obtain ⟨He, O, en, d0, rp, hf, kk⟩ := h
  unfold fAll at hf
  obtain ⟨ds, h1, h2⟩ := Option.bind_eq_some_iff.mp hf
  clear hf
  refine ⟨He, O, en, ds, rp, h1, fun J H1 x1 t1 gv => ⟨t1.1 P hP, fun Hn tb => ?_⟩⟩
  have xn : Xt H1 Hn := fun bb o e => by
    by_cases z : bb = P
    · obtain ⟨ps, e1, _⟩ := t1.1 P hP
      obtain ⟨qs, e2, _⟩ := tb.1
      rw [z] at e ⊢
      rw [e1] at e
      cases e
      exact .inr ⟨ps, qs, rfl, e2⟩
    · rw [tb.2 bb z]
      exact .inl e
  have tn : Tb Ts Hn := by
    refine ⟨fun P' hP' => ?_, fun P' hP' => ?_, t1.2.2⟩
    · by_cases z : P' = P
      · rw [z]; exact tb.1
      · obtain ⟨ps, e1, e2⟩ := t1.1 P' hP'
        exact ⟨ps, by rw [tb.2 P' z]; exact e1, e2⟩
    · have z : P'.1 ≠ P := fun z => (t1.2.2 P' hP').1 (by rw [z]; exact hP)
      obtain ⟨ps, e1, e2, e3⟩ := t1.2.1 P' hP'
      refine ⟨ps, by rw [tb.2 P'.1 z]; exact e1, e2, fun pos cv hc => ?_⟩
      obtain ⟨c, c1, c2⟩ := e3 pos cv hc
      refine ⟨c, c1, ?_⟩
      rw [tb.2 c (fun y => by
        obtain ⟨qs, q1, _⟩ := t1.1 P hP
        rw [y, q1] at c2
        unfold LamX.CodeO at c2
        cases c2)]
      exact c2
  refine ⟨fun i m H2 => m = ds.length - i ∧ i ≤ ds.length ∧ Xt H1 H2 ∧ Rep K Ts He O (L2.wipe σ vs) H2 (wipeE en vs) ∧ allGo ev b f (wipeE en vs) (ds.drop i) = some d0,
    ⟨ds.length, by simp, Nat.zero_le _, xn, ((rp.go x1 t1).go xn tn).wipe vs, by simpa using h2⟩, fun i m H2 hW => ?_⟩
  obtain ⟨rfl, hi, x12, r2, hgo⟩ := hW
  obtain ⟨g1, g2, g3⟩ := gv O H2 (hide_mono x12) (hide_out.trans x12) r2.occ
  by_cases hlt : i < ds.length
  · refine .inr ⟨g1 i hlt, fun H' => Xt H1 H' ∧ Rep K Ts He O (L2.wipe σ vs) H' (wipeE en vs) ∧ allGo ev b f (wipeE en vs) (ds.drop (i + 1)) = some d0, fun H' ⟨a, c⟩ => ⟨ds.length - (i + 1), by omega, rfl, hlt, a, c⟩, fun x H3 hy => ?_⟩
    obtain ⟨d, hd, x23, t23, qd⟩ := g3 i x H3 hlt hy
    have r3 := r2.go x23 (t23 r2.tabs)
    rw [List.drop_eq_getElem_cons hlt] at hgo
    have hd' : ds[i] = d := by rw [List.getElem?_eq_getElem hlt] at hd; exact Option.some.inj hd
    rw [hd'] at hgo
    unfold allGo at hgo
    obtain ⟨e1, hb, hgo1⟩ := Option.bind_eq_some_iff.mp hgo
    clear hgo
    refine ⟨He, O, _, d, e1, r3, qd, hb, fun σ2 r4 hw => ⟨hw.trans (wipe_wipe _ _), ?_⟩⟩
    split at hgo1
    · rename_i k hk
      refine tD.of r4 hk fun v H4 x34 r5 q5 => ?_
      cases q5
      refine ⟨k, rfl, ?_⟩
      by_cases hke : k = ev
      · rw [if_pos hke] at hgo1 ⊢
        exact ⟨x12.trans (x23.trans x34), r2.go (x23.trans x34) r5.tabs, hgo1⟩
      · rw [if_neg hke] at hgo1 ⊢
        cases hgo1
        exact kk _ H4 (x1.trans (x12.trans (x23.trans x34))) r5.tabs (.bl _)
    · cases hgo1
  · have hie : i = ds.length := by omega
    subst hie
    rw [List.drop_of_length_le (Nat.le_refl _)] at hgo
    cases hgo
    exact .inl ⟨g2, kk _ H2 (x1.trans x12) r2.tabs (.bl _)⟩
abbrev GX (X : Cx) (scope : Scope) (s : Shared) (H : Hp) (cl : List (Str × Addr)) (C : Addr) (code : Value) (fp : List Addr) (pn : List (Addr × Obj)) : Cx := GA.gCx X s H (genEnv scope cl C code builtinsNs X.env) fp pn
theorem d_all {c P : Addr} {p gpos : Pos} {k : Nat} (hr : Room k X.A) (hgl : Gl X "all") (hm : X.mg "all" = none) (hb : bootBuiltins "all" = some (.builtin "all")) (TB : LamX.TabB X.base X.mg c P) (hP : P ∈ Ts.gs) (hcode : X.env.code = .ref c) (hc : X.calm = true) (hN : X.N.Nodup)
    (hi : DI X Ts tg iter it) (ok : BlkOk X.N X.env.scope scope own) (gk : GA.GenK scope) (hg : ∀ s H cl C code fp pn, DG (GX X scope s H cl C code fp pn) Ts tg (own.map (·.2)) b) (he : ∀ s H cl C code fp pn, DE (GX X scope s H cl C code fp pn) Ts elt f)
    (hs : ∀ v, genFold iter X.env v = pure v := by intro _; rfl) (hst : starEach [.GeneratorExp elt [⟨tg, iter, [], 0⟩] scope gpos] X.env = (false, eval (.GeneratorExp elt [⟨tg, iter, [], 0⟩] scope gpos) X.env) :: starEach [] X.env := by rfl) :
    DE X Ts (.Call (.Name "all" p) [.GeneratorExp elt [⟨tg, iter, [], 0⟩] scope gpos] [] pos) (fAll true it b f (own.map (·.2))) :=
  PE.imp (GA.pe_allG hr hgl hm hb TB hcode hc hN hi ok gk (fun s H cl C code fp pn => hg s H cl C code fp pn) (fun s H cl C code fp pn => he s H cl C code fp pn) hs hst) fun σ H Q h => all_w hP h
theorem d_any {c P : Addr} {p gpos : Pos} {k : Nat} (hr : Room k X.A) (hgl : Gl X "any") (hm : X.mg "any" = none) (hb : bootBuiltins "any" = some (.builtin "any")) (TB : LamX.TabB X.base X.mg c P) (hP : P ∈ Ts.gs) (hcode : X.env.code = .ref c) (hc : X.calm = true) (hN : X.N.Nodup)
    (hi : DI X Ts tg iter it) (ok : BlkOk X.N X.env.scope scope own) (gk : GA.GenK scope) (hg : ∀ s H cl C code fp pn, DG (GX X scope s H cl C code fp pn) Ts tg (own.map (·.2)) b) (he : ∀ s H cl C code fp pn, DE (GX X scope s H cl C code fp pn) Ts elt f)
    (hs : ∀ v, genFold iter X.env v = pure v := by intro _; rfl) (hst : starEach [.GeneratorExp elt [⟨tg, iter, [], 0⟩] scope gpos] X.env = (false, eval (.GeneratorExp elt [⟨tg, iter, [], 0⟩] scope gpos) X.env) :: starEach [] X.env := by rfl) :
    DE X Ts (.Call (.Name "any" p) [.GeneratorExp elt [⟨tg, iter, [], 0⟩] scope gpos] [] pos) (fAll false it b f (own.map (·.2))) :=
  PE.imp (GA.pe_anyG hr hgl hm hb TB hcode hc hN hi ok gk (fun s H cl C code fp pn => hg s H cl C code fp pn) (fun s H cl C code fp pn => he s H cl C code fp pn) hs hst) fun σ H Q h => all_w hP h
end
inductive Fl where
  | nx (en : En) | rt (d : PyData) | bk (en : En) | ct (en : En)
def RepS (K : PySem.W.Frag) (Ts : TsT) (He : Hp) (O₀ : List Addr) (Vz : Hp) (σ : St) (H : Hp) (en : En) : Prop := ∃ O, (∀ b ∈ O₀, b ∈ O) ∧ (∀ b ∈ O₀, He b ≠ none) ∧ Rep K Ts He O σ H en ∧ Xt Vz (hide H O)
def Post (K : PySem.W.Frag) (Ts : TsT) (He : Hp) (O₀ : List Addr) (Vz : Hp) (D : Ends) : Fl → Prop
  | .nx en => ∀ σ' H', RepS K Ts He O₀ Vz σ' H' en → D.nx σ' H'
  | .rt d => ∀ v H', Xt He H' → Tb Ts H' → Dp K (hide H' O₀) v d → D.rt v H'
  | .bk en => ∀ σ' H', RepS K Ts He O₀ Vz σ' H' en → D.bk σ' H'
  | .ct en => ∀ σ' H', RepS K Ts He O₀ Vz σ' H' en → D.ct σ' H'
def tS (K : PySem.W.Frag) (Ts : TsT) (F : En → Option Fl) : TS := fun D σ H => ∃ He O₀ Vz en r, RepS K Ts He O₀ Vz σ H en ∧ F en = some r ∧ Post K Ts He O₀ Vz D r
abbrev DS (X : Cx) (Ts : TsT) (st : Stmt) (F : En → Option Fl) : Prop := PS X st (tS X.K Ts F)
abbrev DSs (X : Cx) (Ts : TsT) (st : List Stmt) (F : En → Option Fl) : Prop := PSs X st (tS X.K Ts F)
theorem RepS.go {K : PySem.W.Frag} {Ts : TsT} {He : Hp} {O₀ : List Addr} {σ : St} {H H' : Hp} {en : En} {Vz : Hp} (r : RepS K Ts He O₀ Vz σ H en) (x : Xt H H') (t : Tb Ts H') : RepS K Ts He O₀ Vz σ H' en :=
  let ⟨O, a, b, c, d⟩ := r; ⟨O, a, b, c.go x t, d.trans (hide_mono x)⟩
def sSeq (F G : En → Option Fl) : En → Option Fl := fun en => match F en with
  | some (.nx e) => G e
  | r => r
def sNil : En → Option Fl := fun en => some (.nx en)
def sSet (i : Nat) (f : En → Option PyData) : En → Option Fl := fun en => (f en).bind fun d => (bName i d en).map .nx
def sBind (b : PyData → En → Option En) (f : En → Option PyData) : En → Option Fl := fun en => (f en).bind fun d => (b d en).map .nx
def sOwn (i : Nat) (f : En → Option PyData) : En → Option Fl := fun en => match f en with
  | some (.list ds) => if i < en.length then some (.nx (en.set i (.own ds))) else none
  | _ => none
def sApp (i : Nat) (f : En → Option PyData) : En → Option Fl := fun en => (f en).bind fun d => match en[i]? with
  | some (.own ds) => if ds.length ≤ 1000000 then some (.nx (en.set i (.own (ds ++ [d])))) else none
  | _ => none
def sRel (i : Nat) : En → Option Fl := fun en => match en[i]? with
  | some (.own ds) => some (.nx (en.set i (.dat (.list ds))))
  | _ => none
def sIf (t : En → Option Bool) (F G : En → Option Fl) : En → Option Fl := fun en => match t en with
  | some true => F en
  | some false => G en
  | none => none
def sRet (f : En → Option PyData) : En → Option Fl := fun en => (f en).map .rt
def sExpr (f : En → Option PyData) : En → Option Fl := fun en => (f en).map fun _ => .nx en
def sNever : En → Option Fl := fun _ => none
def forGo (b : PyData → En → Option En) (F : En → Option Fl) : List PyData → En → Option Fl
  | [], en => some (.nx en)
  | d :: r, en => (b d en).bind fun e1 => match F e1 with
    | some (.nx e2) => forGo b F r e2
    | some (.ct e2) => forGo b F r e2
    | some (.bk e2) => some (.nx e2)
    | some (.rt v) => some (.rt v)
    | none => none
def sFor (it : En → Option (List PyData)) (b : PyData → En → Option En) (F : En → Option Fl) : En → Option Fl := fun en => (it en).bind fun ds => forGo b F ds en
def whGo (t : En → Option Bool) (F : En → Option Fl) : Nat → En → Option Fl
  | 0, _ => none
  | n + 1, en => match t en with
    | some true => match F en with
      | some (.nx e2) => whGo t F n e2
      | some (.ct e2) => whGo t F n e2
      | some (.bk e2) => some (.nx e2)
      | some (.rt v) => some (.rt v)
      | none => none
    | some false => some (.nx en)
    | none => none
def sWhile (n : En → Nat) (t : En → Option Bool) (F : En → Option Fl) : En → Option Fl := fun en => whGo t F (n en) en
def sPar (i j : Nat) (f g : En → Option PyData) : En → Option Fl := fun en => (f en).bind fun x => (g en).bind fun y => (bName i x en).bind fun e1 => (bName j y e1).map .nx
section
variable {X : Cx} {Ts : TsT} {pos : Pos} {st : Stmt} {rest : List Stmt} {F G : En → Option Fl} {e : Expr} {f g : En → Option PyData}
theorem s_nil : DSs X Ts [] sNil := PSs.imp pss_nil fun D σ H ⟨He, O₀, Vz, en, r, rp, hf, k⟩ => by
  cases hf
  exact k σ H rp
theorem s_cons (h1 : DS X Ts st F) (h2 : DSs X Ts rest G) : DSs X Ts (st :: rest) (sSeq F G) := PSs.imp (pss_cons h1 h2) fun D σ H ⟨He, O₀, Vz, en, r, rp, hf, k⟩ => by
  unfold sSeq at hf
  split at hf
  · rename_i e1 h
    exact ⟨He, O₀, Vz, en, _, rp, h, fun σ' H' r' => ⟨He, O₀, Vz, e1, r, r', hf, k⟩⟩
  · rename_i hn
    refine ⟨He, O₀, Vz, en, r, rp, hf, ?_⟩
    cases r with
    | nx e1 => exact absurd hf (hn e1)
    | rt d => exact k
    | bk e1 => exact k
    | ct e1 => exact k
theorem s_one (h1 : DS X Ts st F) : DSs X Ts [st] F := pss_one h1
theorem s_rel (i : Nat) (h : DSs X Ts rest G) : DSs X Ts rest (sSeq (sRel i) G) := PSs.imp h fun D σ H ⟨He, O₀, Vz, en, r, rp, hf, k⟩ => by
  unfold sSeq sRel at hf
  split at hf
  · rename_i e1 h1
    split at h1
    · rename_i ds hd
      cases h1
      refine ⟨He, O₀, Vz, _, r, ?_, hf, k⟩
      obtain ⟨O, a1, a2, rp, xv⟩ := rp
      obtain ⟨a, vs, p1, p2, p3, p4, p5⟩ := rp.own i ds hd
      have hi : i < en.length := (List.getElem?_eq_some_iff.mp hd).1
      have hsub : ∀ b ∈ O.filter (fun b => decide (b ≠ a)), b ∈ O := fun b hb => (List.mem_filter.mp hb).1
      have nA : a ∉ O.filter (fun b => decide (b ≠ a)) := fun z => by simpa using (List.mem_filter.mp z).2
      have hs : Xt (hide H O) (hide H (O.filter (fun b => decide (b ≠ a)))) := hide_sub hsub
      refine ⟨O.filter (fun b => decide (b ≠ a)), fun b hb => List.mem_filter.mpr ⟨a1 b hb, decide_eq_true fun z => a2 b hb (by rw [z]; exact p3)⟩, a2, ⟨by simp [rp.len], fun j d h => ?_, fun j es h => ?_, fun j k es es' aa h1 h2 h3 h4 => ?_, fun b hb => rp.occ b (hsub b hb), rp.ext, rp.tabs⟩, xv.trans hs⟩
      · by_cases hj : i = j
        · subst hj
          rw [List.getElem?_set_self hi] at h
          cases h
          exact ⟨.ref a, p1, .lst (.inl (.inl (hide_of nA p4))) (DpAll.mono hs p5)⟩
        · rw [List.getElem?_set_ne hj] at h
          obtain ⟨v, q1, q2⟩ := rp.dat j d h
          exact ⟨v, q1, Dp.mono hs q2⟩
      · have hj : i ≠ j := fun z => by subst z; rw [List.getElem?_set_self hi] at h; cases h
        rw [List.getElem?_set_ne hj] at h
        obtain ⟨a', vs', q1, q2, q3, q4, q5⟩ := rp.own j es h
        refine ⟨a', vs', q1, List.mem_filter.mpr ⟨q2, decide_eq_true fun z => hj ?_⟩, q3, q4, DpAll.mono hs q5⟩
        subst z
        exact rp.inj i j ds es a' hd h p1 q1
      · have hj : i ≠ j := fun z => by subst z; rw [List.getElem?_set_self hi] at h1; cases h1
        have hk : i ≠ k := fun z => by subst z; rw [List.getElem?_set_self hi] at h2; cases h2
        rw [List.getElem?_set_ne hj] at h1
        rw [List.getElem?_set_ne hk] at h2
        exact rp.inj j k es es' aa h1 h2 h3 h4
    · cases h1
  · rename_i hn
    split at hf
    · rename_i ds hd
      exact absurd (show (match en[i]? with
        | some (Slot.own ds) => some (Fl.nx (List.set en i (Slot.dat (PyData.list ds))))
        | x => none) = some (Fl.nx (List.set en i (Slot.dat (PyData.list ds)))) by rw [hd]) (hn _)
    · cases hf
theorem RepS.setD {K : PySem.W.Frag} {He : Hp} {O₀ O : List Addr} {σ : St} {H : Hp} {en e1 : En} {i : Nat} {x : V} {d : PyData} (a1 : ∀ b ∈ O₀, b ∈ O) (a2 : ∀ b ∈ O₀, He b ≠ none) (rp : Rep K Ts He O σ H en) (hb : bName i d en = some e1) (q : Dp K (hide H O) x d) {Vz : Hp} (xv : Xt Vz (hide H O)) : RepS K Ts He O₀ Vz (σ.set i (some x)) H e1 := by
  unfold bName at hb
  split at hb
  · rename_i hi
    cases hb
    exact ⟨O, a1, a2, rp.setD hi q, xv⟩
  · cases hb
theorem set_w {K : PySem.W.Frag} {i : Nat} : ∀ D σ H, tS K Ts (sSet i f) D σ H → tAsg (tD K Ts f) (gName i) D σ H := fun D σ H ⟨He, O₀, Vz, en, r, rp, hf, k⟩ => by
  unfold sSet at hf
  obtain ⟨d, h1, h2⟩ := Option.bind_eq_some_iff.mp hf
  obtain ⟨e1, h3, rfl⟩ := Option.map_eq_some_iff.mp h2
  obtain ⟨O, a1, a2, rp, xv⟩ := rp
  exact tD.of rp h1 fun v H1 x1 r1 q1 => k _ H1 (RepS.setD a1 a2 r1 h3 q1 (xv.trans (hide_mono x1)))
theorem s_set {i : Nat} {x : Str} {pos' : Pos} (hN : X.N.Nodup) (hi : X.N[i]? = some x) (hx : Loc X.env.scope x) (he : DE X Ts e f) (hs : swapsWith e (some (.Name x pos')) pos.line X.env = pure false := by rfl) (hf : X.fn x = true ∨ X.env.scope.names.lookup x = some .local := by first | exact .inl rfl | exact .inr rfl | assumption) :
    DS X Ts (.Assign [.Name x pos'] e pos) (sSet i f) := PS.imp (ps_set hN hi hx he hs hf) set_w
theorem s_bind {tg : Expr} {vs : List Nat} {b : PyData → En → Option En} (he : DE X Ts e f) (hg : DG X Ts tg vs b) (hs : swapsWithSole [tg] e pos.line X.env = pure false := by rfl) (hw : swappedStores [tg] e X.env = pure none := by rfl)
    (h1 : (assignEach [tg] X.env).map (·.2) = [assign tg X.env] := by rfl) : DS X Ts (.Assign [tg] e pos) (sBind b f) := PS.imp (ps_asg he hg hs hw h1) fun D σ H ⟨He, O₀, Vz, en, r, rp, hf, k⟩ => by
  unfold sBind at hf
  obtain ⟨d, h1, h2⟩ := Option.bind_eq_some_iff.mp hf
  obtain ⟨e1, h3, rfl⟩ := Option.map_eq_some_iff.mp h2
  obtain ⟨O, a1, a2, rp, xv⟩ := rp
  exact tD.of rp h1 fun v H1 x1 r1 q1 => ⟨He, O, en, d, e1, r1, q1, h3, fun σ' r' _ => k σ' H1 ⟨O, a1, a2, r', xv.trans (hide_mono x1)⟩⟩
theorem s_setLc {i : Nat} {y : Str} {py : Pos} {elt tg iter : Expr} {ifs : List Expr} {scope : Scope} {own : List (Str × Nat)} {spos : Pos} {it : En → Option (List PyData)} {b : PyData → En → Option En} {t : En → Option Bool} (hc : X.calm = true) (hN : X.N.Nodup) (hy : X.N[i]? = some y) (hyl : X.env.scope.names.lookup y = some .local)
    (hsw : swapsWith (.ListComp elt [⟨tg, iter, ifs, 0⟩] scope pos) (some (.Name y py)) spos.line X.env = pure true) (hi : DI X Ts tg iter it) (ok : BlkOk X.N X.env.scope scope own)
    (hg : ∀ s H C cl fp, DG (BX X scope s H C cl fp) Ts tg (own.map (·.2)) b) (ht : ∀ s H C cl fp, PTs (BX X scope s H C cl fp) ifs (tT X.K Ts t))
    (he : ∀ s H C cl fp, DE (BX X scope s H C cl fp) Ts elt f) (hs : ∀ x, foldedSetIterable iter X.env x = pure x := by intro _; rfl) :
    DS X Ts (.Assign [.Name y py] (.ListComp elt [⟨tg, iter, ifs, 0⟩] scope pos) spos) (sSet i (fLc it b t f (own.map (·.2)))) :=
  PS.imp (ps_setLc hc hN hy hyl hsw hi ok (fun s H C cl fp => hg s H C cl fp) (fun s H C cl fp => ht s H C cl fp) (fun s H C cl fp => he s H C cl fp) hs) fun D σ H h => by
    have h2 : tD X.K Ts (fLc it b t f (own.map (·.2))) σ H (fun x H1 => gName i x σ H1 D.nx) := set_w D σ H h
    exact lc_w (new_w h2 fLc_list)
theorem RepS.setO {K : PySem.W.Frag} {He : Hp} {O₀ O : List Addr} {σ : St} {H H1 : Hp} {en : En} {i : Nat} {a : Addr} {vs : List V} {ds : List PyData} (a1 : ∀ b ∈ O₀, b ∈ O) (a2 : ∀ b ∈ O₀, He b ≠ none) (rp : Rep K Ts He O σ H en) (hi : i < en.length) (x : Xt H H1) (t : Tb Ts H1) (na : H a = none) (ha : H1 a = some (.lst vs)) (q : DpAll K (hide H1 (a :: O)) vs ds) {Vz : Hp} (xv : Xt Vz (hide H O)) :
    RepS K Ts He O₀ Vz (σ.set i (some (.ref a))) H1 (en.set i (.own ds)) := by
  have r1 := rp.go x t
  have hs : i < σ.length := by rw [← rp.len]; exact hi
  have nA : a ∉ O := rp.free na
  have hHe : He a = none := rp.ext.there na
  have back : Xt (hide H O) (hide H1 (a :: O)) := fun b o e => by
    obtain ⟨e1, e2⟩ := hide_some e
    have nb : b ∉ a :: O := fun z => by
      rcases List.mem_cons.mp z with z | z
      · rw [z, na] at e2; cases e2
      · exact e1 z
    rcases x b o e2 with q | ⟨ps, qs, e3, q⟩
    · exact .inl (hide_of nb q)
    · exact .inr ⟨ps, qs, e3, hide_of nb q⟩
  refine ⟨a :: O, fun b hb => List.mem_cons_of_mem _ (a1 b hb), a2, ⟨by simp [rp.len], fun j d h => ?_, fun j es h => ?_, fun j k es es' aa h1 h2 h3 h4 => ?_, fun b hb => ?_, r1.ext, t⟩, xv.trans back⟩
  · have hj : i ≠ j := fun z => by subst z; rw [List.getElem?_set_self hi] at h; cases h
    rw [List.getElem?_set_ne hj] at h
    obtain ⟨v, q1, q2⟩ := rp.dat j d h
    exact ⟨v, by rw [List.getElem?_set_ne hj]; exact q1, Dp.mono back q2⟩
  · by_cases hj : i = j
    · subst hj
      rw [List.getElem?_set_self hi] at h
      cases h
      exact ⟨a, vs, by rw [List.getElem?_set_self hs], List.mem_cons_self, hHe, ha, q⟩
    · rw [List.getElem?_set_ne hj] at h
      obtain ⟨a', vs', q1, q2, q3, q4, q5⟩ := rp.own j es h
      exact ⟨a', vs', by rw [List.getElem?_set_ne hj]; exact q1, List.mem_cons_of_mem _ q2, q3, x.get a' _ q4 (fun _ z => nomatch z), DpAll.mono back q5⟩
  · have old : ∀ (j : Nat) (es : List PyData) (aa : Addr), i ≠ j → (en.set i (Slot.own ds))[j]? = some (Slot.own es) → (σ.set i (some (V.ref a)))[j]? = some (some (V.ref aa)) → aa ≠ a := fun j es aa hj h1 h2 z => by
      rw [List.getElem?_set_ne hj] at h1 h2
      obtain ⟨a', vs', q1, q2, _⟩ := rp.own j es h1
      rw [h2] at q1
      cases q1
      exact nA (z ▸ q2)
    by_cases hj : i = j
    · by_cases hk : i = k
      · exact hj.symm.trans hk
      · subst hj
        rw [List.getElem?_set_self hs] at h3
        cases h3
        exact absurd rfl (old k es' _ hk h2 h4)
    · by_cases hk : i = k
      · subst hk
        rw [List.getElem?_set_self hs] at h4
        cases h4
        exact absurd rfl (old j es _ hj h1 h3)
      · rw [List.getElem?_set_ne hj] at h1 h3
        rw [List.getElem?_set_ne hk] at h2 h4
        exact rp.inj j k es es' aa h1 h2 h3 h4
  · rcases List.mem_cons.mp hb with z | z
    · rw [z, ha]
      exact ⟨by simp, fun ps z => nomatch z⟩
    · exact r1.occ b z
theorem own_w {K : PySem.W.Frag} {i : Nat} : ∀ D σ H, tS K Ts (sOwn i f) D σ H → tNew K Ts f σ H (fun x H1 => gName i x σ H1 D.nx) := fun D σ H ⟨He, O₀, Vz, en, r, rp, hf, k⟩ => by
  unfold sOwn at hf
  split at hf
  · rename_i ds h1
    split at hf
    · rename_i hi
      cases hf
      obtain ⟨O, a1, a2, rp, xv⟩ := rp
      exact ⟨He, O, en, ds, rp, h1, fun a vs H' x t na ha q => k _ H' (RepS.setO a1 a2 rp hi x t na ha q xv)⟩
    · cases hf
  · cases hf
theorem s_own {i : Nat} {x : Str} {pos' : Pos} (hN : X.N.Nodup) (hi : X.N[i]? = some x) (hx : Loc X.env.scope x) (he : DNew X Ts e f) (hs : swapsWith e (some (.Name x pos')) pos.line X.env = pure false := by rfl) (hf : X.fn x = true ∨ X.env.scope.names.lookup x = some .local := by first | exact .inl rfl | exact .inr rfl | assumption) :
    DS X Ts (.Assign [.Name x pos'] e pos) (sOwn i f) := PS.imp (ps_set hN hi hx he hs hf) fun D σ H h => own_w D σ H h
theorem n_lst {es : List Expr} {gs : En → Option (List PyData)} (h : DA X Ts es gs) : DNew X Ts (.List es pos) (fLst gs) := PE.imp (pe_lst h) fun σ H Q ⟨He, O, en, ds, rp, hf, kk⟩ => by
  obtain ⟨ds', h1, hl, h2⟩ := fLst_some hf
  cases h2
  exact tDs.of rp h1 fun vs H1 x1 r1 q1 => ⟨by rw [DpAll.len q1]; exact small64 hl, fun p np => kk p vs _ (x1.trans (Xt.upd np)) (r1.tabs.new np) (x1.there np) upd_same (DpAll.mono (fun b o e => by
    obtain ⟨e1, e2⟩ := hide_some e
    have hne := ne_of_none e2 np
    exact .inl (hide_of (fun z => (List.mem_cons.mp z).elim hne e1) (by rw [upd_ne hne]; exact e2))) q1)⟩
theorem s_app {i : Nat} {x : Str} {px ap : Pos} (hN : X.N[i]? = some x := by rfl) (hv : Vis X.env.scope x := by first | exact Or.inl rfl | exact Or.inr (Or.inl rfl) | exact Or.inr (Or.inr rfl)) (ha : DE X Ts e f) (hd : (x == ("__debug__" : Str)) = false := by decide) (hcd : (x == ("__classdict__" : Str)) = false := by decide) {cpos : Pos}
    (hbase : attributeBase (.Name x px) "append" X.env (eval (.Name x px) X.env) = eval (.Name x px) X.env := by rfl)
    (hfew : ((backTo cpos (starEach [e] X.env)).all (fun x => !x.1) && (backToKw cpos (keywordEach [] X.env)).all (fun x => x.1.isSome) && decide ([e].length + ([] : List Keyword).length + (if ([] : List Keyword).isEmpty then 0 else 1) < 30)) = true := by rfl)
    (hline : (ap.endLine == cpos.line) = true := by rfl) (hs : starEach [e] X.env = (false, eval e X.env) :: starEach [] X.env := by rfl) (hplain : (backTo cpos (starEach [] X.env)).any (·.1) = false := by rfl)
    (hsw : swapsWith (.Call (.Attribute (.Name x px) "append" ap) [e] [] cpos) none pos.line X.env = pure false := by rfl) :
    DS X Ts (.Expr (.Call (.Attribute (.Name x px) "append" ap) [e] [] cpos) pos) (sApp i f) :=
  PS.imp (ps_expr (pe_bm (t := tCons (tD X.K Ts f) tNil) PySem.F.plainAttrs_list PySem.F.slot_list_append PySem.F.type_list_append mt_append (pe_var hN hv hd hcd) (pa_cons ha pa_nil hs) hbase hfew hline hs hplain) hsw) fun D σ H ⟨He, O₀, Vz, en, r, rp, hf, k⟩ => by
    unfold sApp at hf
    obtain ⟨d, h1, h2⟩ := Option.bind_eq_some_iff.mp hf
    split at h2
    · rename_i ds hd
      split at h2
      · rename_i hl
        cases h2
        obtain ⟨O, a1, a2, rp, xv⟩ := rp
        obtain ⟨a, vs, p1, p2, p3, p4, p5⟩ := rp.own i ds hd
        have hi : i < en.length := (List.getElem?_eq_some_iff.mp hd).1
        refine ⟨.ref a, p1, .inl ⟨rfl, _, .inl (.inl p4)⟩, tD.of rp h1 fun v H1 x1 r1 q1 => ?_⟩
        have p4' := x1.get a _ p4 (fun _ z => nomatch z)
        have p5' := DpAll.mono (hide_mono (O := O) x1) p5
        refine ⟨a, vs, v, rfl, rfl, p4', by rw [DpAll.len p5, sizeLine_eq]; omega, k σ _ ⟨O, a1, a2, ?_, xv.trans ((hide_mono x1).trans (hide_upd p2))⟩⟩
        have hu : Xt (hide H1 O) (hide (upd H1 a (.lst (vs ++ [v]))) O) := hide_upd p2
        refine ⟨by simp [rp.len], fun j d' h => ?_, fun j es h => ?_, fun j kk es es' aa h1 h2 h3 h4 => ?_, fun b hb => ?_, fun b o e => ?_, r1.tabs.upd fun u z => by rw [p4'] at z; cases z; exact lst_noc⟩
        · have hj : i ≠ j := fun z => by subst z; rw [List.getElem?_set_self hi] at h; cases h
          rw [List.getElem?_set_ne hj] at h
          obtain ⟨u, q1, q2⟩ := r1.dat j d' h
          exact ⟨u, q1, Dp.mono hu q2⟩
        · by_cases hj : i = j
          · subst hj
            rw [List.getElem?_set_self hi] at h
            cases h
            exact ⟨a, vs ++ [v], p1, p2, p3, upd_same, DpAll.app (DpAll.mono hu p5') (.cons (Dp.mono hu q1) .nil)⟩
          · rw [List.getElem?_set_ne hj] at h
            obtain ⟨a', vs', q1, q2, q3, q4, q5⟩ := r1.own j es h
            have hne : a' ≠ a := fun z => hj (by subst z; exact rp.inj i j ds es a' hd h p1 q1)
            exact ⟨a', vs', q1, q2, q3, by rw [upd_ne hne]; exact q4, DpAll.mono hu q5⟩
        · have toOwn : ∀ (j : Nat) (es : List PyData), (en.set i (Slot.own (ds ++ [d])))[j]? = some (Slot.own es) → ∃ es', en[j]? = some (Slot.own es') := fun j es h => by
            by_cases hj : i = j
            · subst hj; exact ⟨ds, hd⟩
            · rw [List.getElem?_set_ne hj] at h; exact ⟨es, h⟩
          obtain ⟨e1, g1⟩ := toOwn j es h1
          obtain ⟨e2, g2⟩ := toOwn kk es' h2
          exact rp.inj j kk e1 e2 aa g1 g2 h3 h4
        · by_cases z : b = a
          · rw [z, upd_same]
            exact ⟨by simp, fun ps z => nomatch z⟩
          · rw [upd_ne z]
            exact r1.occ b hb
        · have hne : b ≠ a := fun z => by rw [z, p3] at e; cases e
          rw [upd_ne hne]
          exact r1.ext b o e
      · cases h2
    · cases h2
theorem s_if {c : Expr} {a b : List Stmt} {t : En → Option Bool} (hc : DT X Ts c t) (ha : DSs X Ts a F) (hb : DSs X Ts b G) : DS X Ts (.If c a b pos) (sIf t F G) := PS.imp (ps_if hc ha hb) fun D σ H ⟨He, O₀, Vz, en, r, rp, hf, k⟩ => by
  unfold sIf at hf
  obtain ⟨O, a1, a2, rp, xv⟩ := rp
  split at hf
  · rename_i h
    exact tT.of rp h fun H1 x1 r1 => iteT ⟨He, O₀, Vz, en, r, ⟨O, a1, a2, r1, xv.trans (hide_mono x1)⟩, hf, k⟩
  · rename_i h
    exact tT.of rp h fun H1 x1 r1 => iteF ⟨He, O₀, Vz, en, r, ⟨O, a1, a2, r1, xv.trans (hide_mono x1)⟩, hf, k⟩
  · cases hf
theorem s_ret (he : DE X Ts e f) : DS X Ts (.Return (some e) pos) (sRet f) := PS.imp (ps_ret he) fun D σ H ⟨He, O₀, Vz, en, r, rp, hf, k⟩ => by
  unfold sRet at hf
  obtain ⟨d, h1, rfl⟩ := Option.map_eq_some_iff.mp hf
  obtain ⟨O, a1, a2, rp, xv⟩ := rp
  exact tD.of rp h1 fun v H1 x1 r1 q1 => k v H1 r1.ext r1.tabs (Dp.mono (hide_sub a1) q1)
theorem s_expr (he : DE X Ts e f) (hs : swapsWith e none pos.line X.env = pure false := by rfl) : DS X Ts (.Expr e pos) (sExpr f) := PS.imp (ps_expr he hs) fun D σ H ⟨He, O₀, Vz, en, r, rp, hf, k⟩ => by
  unfold sExpr at hf
  obtain ⟨d, h1, rfl⟩ := Option.map_eq_some_iff.mp hf
  obtain ⟨O, a1, a2, rp, xv⟩ := rp
  exact tD.of rp h1 fun v H1 x1 r1 q1 => k σ H1 ⟨O, a1, a2, r1, xv.trans (hide_mono x1)⟩
theorem s_never : DS X Ts st sNever := PS.imp ps_never fun D σ H ⟨He, O₀, Vz, en, r, rp, hf, k⟩ => by cases hf
theorem s_par {i j : Nat} {x y : Str} {a b : Expr} {px py pt : Pos} {kt k2 pt2} (hc : X.calm = true) (hN : X.N.Nodup) (hi : X.N[i]? = some x) (hj : X.N[j]? = some y) (hij : i ≠ j)
    (hx : X.env.scope.names.lookup x = some .local) (hy : X.env.scope.names.lookup y = some .local) (ha : DE X Ts a f) (hb : DE X Ts b g) (hw : swappedStores [.Tuple [.Name x px, .Name y py] kt pt] (.Tuple [a, b] k2 pt2) X.env = pure (some [x, y]))
    (hs1 : starEach [a, b] X.env = (false, eval a X.env) :: starEach [b] X.env := by rfl) (hs2 : starEach [b] X.env = (false, eval b X.env) :: starEach [] X.env := by rfl)
    (hs : swapsWithSole [.Tuple [.Name x px, .Name y py] kt pt] (.Tuple [a, b] k2 pt2) pos.line X.env = pure false := by rfl) : DS X Ts (.Assign [.Tuple [.Name x px, .Name y py] kt pt] (.Tuple [a, b] k2 pt2) pos) (sPar i j f g) :=
  PS.imp (ps_par hc hN hi hj hij hx hy (pa_cons ha (pa_cons hb pa_nil hs2) hs1) hw hs) fun D σ H ⟨He, O₀, Vz, en, r, rp, hf, k⟩ => by
    unfold sPar at hf
    obtain ⟨d1, h1, hf1⟩ := Option.bind_eq_some_iff.mp hf
    obtain ⟨d2, h2, hf2⟩ := Option.bind_eq_some_iff.mp hf1
    obtain ⟨e1, h3, hf3⟩ := Option.bind_eq_some_iff.mp hf2
    obtain ⟨e2, h4, rfl⟩ := Option.map_eq_some_iff.mp hf3
    obtain ⟨O, a1, a2, rp, xv⟩ := rp
    refine tD.of rp h1 fun v H1 x1 r1 q1 => tD.of r1 h2 fun w H2 x2 r2 q2 => ⟨v, w, rfl, k _ H2 ?_⟩
    unfold bName at h3 h4
    split at h3
    · rename_i hi'
      cases h3
      split at h4
      · rename_i hj'
        cases h4
        exact ⟨O, a1, a2, (r2.setD hi' (Dp.mono (hide_mono x2) q1)).setD hj' q2, xv.trans (hide_mono (x1.trans x2))⟩
      · cases h4
    · cases h3
theorem for_w {K : PySem.W.Frag} {vs : List Nat} {it : En → Option (List PyData)} {b : PyData → En → Option En} : ∀ D σ H, tS K Ts (sFor it b F) D σ H → tFor (tI K Ts it) (gD K Ts vs b) (tS K Ts F) D σ H := fun D σ H ⟨He, O₀, Vz, en, r, rp, hf, k⟩ => by
  unfold sFor at hf
  obtain ⟨ds, h1, h2⟩ := Option.bind_eq_some_iff.mp hf
  clear hf
  obtain ⟨O, a1, a2, rp, xv⟩ := rp
  refine ⟨He, O, en, ds, rp, h1, fun J H1 x1 t1 gv => ?_⟩
  have xv1 : Xt Vz (hide H1 O) := xv.trans (hide_mono x1)
  refine ⟨fun i m σ2 H2 => m = ds.length - i ∧ i ≤ ds.length ∧ ∃ en2, RepS K Ts He O₀ (hide H1 O) σ2 H2 en2 ∧ forGo b F (ds.drop i) en2 = some r,
    ⟨ds.length, by simp, Nat.zero_le _, en, ⟨O, a1, a2, rp.go x1 t1, Xt.refl _⟩, by simpa using h2⟩, fun i m σ2 H2 hW => ?_⟩
  obtain ⟨rfl, hi, en2, ⟨O2, b1, b2, r2, x12⟩, hgo⟩ := hW
  obtain ⟨g1, g2, g3⟩ := gv O2 H2 x12 (x12.trans hide_out) r2.occ
  have weak : ∀ {σ' H' en'}, RepS K Ts He O₀ (hide H1 O) σ' H' en' → RepS K Ts He O₀ Vz σ' H' en' := fun ⟨O', c1, c2, c3, c4⟩ => ⟨O', c1, c2, c3, xv1.trans c4⟩
  by_cases hlt : i < ds.length
  · rw [List.drop_eq_getElem_cons hlt] at hgo
    unfold forGo at hgo
    obtain ⟨e1, hb1, hgo1⟩ := Option.bind_eq_some_iff.mp hgo
    clear hgo
    refine .inr ⟨g1 i hlt, fun σ' H' => ∃ en2, RepS K Ts He O₀ (hide H1 O) σ' H' en2 ∧ forGo b F (ds.drop (i + 1)) en2 = some r, fun σ' H' c => ⟨ds.length - (i + 1), by omega, rfl, hlt, c⟩, fun x H3 hy => ?_⟩
    obtain ⟨d, hd, x23, t23, qd⟩ := g3 i x H3 hlt hy
    have r3 := r2.go x23 (t23 r2.tabs)
    have hd' : ds[i] = d := by rw [List.getElem?_eq_getElem hlt] at hd; exact Option.some.inj hd
    rw [hd'] at hb1
    refine ⟨He, O2, en2, d, e1, r3, qd, hb1, fun σ4 r4 _ => ?_⟩
    have rs4 : RepS K Ts He O₀ (hide H1 O) σ4 H3 e1 := ⟨O2, b1, b2, r4, x12.trans (hide_mono x23)⟩
    cases hF : F e1 with
    | none => rw [hF] at hgo1; cases hgo1
    | some fl =>
      rw [hF] at hgo1
      refine ⟨He, O₀, hide H1 O, e1, fl, rs4, hF, ?_⟩
      cases fl with
      | nx e2 => exact fun σ' H' r' => ⟨e2, r', hgo1⟩
      | ct e2 => exact fun σ' H' r' => ⟨e2, r', hgo1⟩
      | bk e2 =>
        cases hgo1
        exact fun σ' H' r' => k σ' H' (weak r')
      | rt v =>
        cases hgo1
        exact k
  · have hie : i = ds.length := by omega
    subst hie
    rw [List.drop_of_length_le (Nat.le_refl _)] at hgo
    cases hgo
    exact .inl ⟨g2, k σ2 H2 ⟨O2, b1, b2, r2, xv1.trans x12⟩⟩
theorem s_for {tg iter : Expr} {body : List Stmt} {vs : List Nat} {it : En → Option (List PyData)} {b : PyData → En → Option En} (hp : PassesOwn (model X.prog X.w) X.A X.env X.xe) (hc : X.calm = true) (hi : DI X Ts tg iter it) (hg : DG X Ts tg vs b) (hb : DSs X Ts body F)
    (hs : ∀ x, foldedSetIterable iter X.env x = pure x := by intro _; rfl) : DS X Ts (.For tg iter body [] pos) (sFor it b F) := PS.imp (ps_for hp hc hi hg hb hs) for_w
theorem while_w {K : PySem.W.Frag} {n : En → Nat} {t : En → Option Bool} : ∀ D σ H, tS K Ts (sWhile n t F) D σ H → tWhile (tT K Ts t) (tS K Ts F) D σ H := fun D σ H ⟨He, O₀, Vz, en, r, rp, hf, k⟩ => by
  unfold sWhile at hf
  refine ⟨fun m σ2 H2 => ∃ en2, RepS K Ts He O₀ Vz σ2 H2 en2 ∧ whGo t F m en2 = some r, ⟨n en, en, rp, hf⟩, fun m σ2 H2 ⟨en2, rs, hgo⟩ => ?_⟩
  cases m with
  | zero => cases hgo
  | succ m =>
    unfold whGo at hgo
    obtain ⟨O, a1, a2, rp2, xv⟩ := rs
    cases ht : t en2 with
    | none => rw [ht] at hgo; cases hgo
    | some c =>
      rw [ht] at hgo
      refine tT.of rp2 ht fun H3 x23 r3 => ?_
      have rs3 : RepS K Ts He O₀ Vz σ2 H3 en2 := ⟨O, a1, a2, r3, xv.trans (hide_mono x23)⟩
      cases c with
      | false =>
        cases hgo
        exact iteF (k σ2 H3 rs3)
      | true =>
        refine iteT ⟨fun σ' H' => ∃ en2, RepS K Ts He O₀ Vz σ' H' en2 ∧ whGo t F m en2 = some r, fun σ' H' c => ⟨m, Nat.lt_succ_self m, c⟩, ?_⟩
        cases hF : F en2 with
        | none => simp only [hF] at hgo; cases hgo
        | some fl =>
          simp only [hF] at hgo
          refine ⟨He, O₀, Vz, en2, fl, rs3, hF, ?_⟩
          cases fl with
          | nx e2 => exact fun σ' H' r' => ⟨e2, r', hgo⟩
          | ct e2 => exact fun σ' H' r' => ⟨e2, r', hgo⟩
          | bk e2 =>
            cases hgo
            exact k
          | rt v =>
            cases hgo
            exact k
theorem s_while {c : Expr} {body : List Stmt} {t : En → Option Bool} (n : En → Nat) (hp : PassesOwn (model X.prog X.w) X.A X.env X.xe) (hc : DT X Ts c t) (hb : DSs X Ts body F) : DS X Ts (.While c body [] pos) (sWhile n t F) := PS.imp (ps_while hp hc hb) while_w
end
def runD (n : Nat) (F : En → Option Fl) (ds : List PyData) : Option PyData := match F (ds.map .dat ++ List.replicate (n - ds.length) .no) with
  | some (.rt d) => some d
  | some (.nx _) => some .none
  | _ => none
structure DF (K : PySem.W.Frag) (x qual : Str) (st : Stmt) (f : Addr) (fd : FuncData) (cdv : Value) : Prop where
  ex : ∃ (oc : Value) (od : Option Addr) (dV kV doc pm : Value) (an : Option Addr) (ct : Value) (osl : Array (Option Value)),
    fd = PySem.W.fnOf x qual (defArgs st) (defBody st) (defScope st) dV kV doc pm an cdv ct ∧ K.lookup f = some ⟨oc, od, .func fd, osl⟩ ∧ PySem.W.codeIn K cdv qual = true
  kp : PySem.W.keepIn K (.ref f) = true
section
variable {P : Program} {w : World} {K : PySem.W.Frag} {mg : Str → Option Value} {base : Heap} {Ts : TsT}
theorem DF.ok {x qual : Str} {st : Stmt} {f : Addr} {fd : FuncData} {cdv : Value} {N ps : List Str} {k : Nat} {F : En → Option Fl} (D : DF K x qual st f fd cdv) (S : FnScope N ps (defScope st))
    (hbody : ∀ (A : Around) (outer : List Env) (s : Shared) (H : Hp) (E : XK), Room k (A.deeper (envOfC qual (defScope st) s.heap.objs.size f cdv)) → DSs (cxOf CX0 P w K mg base N qual (defScope st) f cdv A outer s H E).nox Ts (defBody st) F) :
    FnOk P w K mg base CX0 (k + 1) f fd ps (spD K Ts ps.length (runD N.length F)) := by
  obtain ⟨oc, od, dV, kV, doc, pm, an, ct, osl, rfl, lk, hcd⟩ := D.ex
  refine fn_of lk hcd S (fun vs H Q E h => h.1) fun A outer s H vs Q E hr hsp => ?_
  refine ⟨_, (hbody A outer s H E hr).nox, ?_⟩
  obtain ⟨hl, O, ds, d, q, t, occ, hF, kk⟩ := hsp
  unfold runD at hF
  have hlen := DpAll.len q
  have rp : Rep K Ts H O (L2.start N vs) H (ds.map .dat ++ List.replicate (N.length - ds.length) .no) := by
    refine ⟨by simp [L2.start, hlen], fun i d h => ?_, fun i es h => ?_, fun i j es es' a h => ?_, occ, Xt.refl H, t⟩
    · by_cases hi : i < ds.length
      · rw [List.getElem?_append_left (by simpa using hi), List.getElem?_map] at h
        obtain ⟨d', h1, h2⟩ := Option.map_eq_some_iff.mp h
        cases h2
        obtain ⟨v, h3, h4⟩ := DpAll.get' q h1
        refine ⟨v, ?_, h4⟩
        unfold L2.start
        rw [List.getElem?_append_left (by simp; omega), List.getElem?_map, h3]
        rfl
      · rw [List.getElem?_append_right (by simpa using hi), List.getElem?_replicate] at h
        split at h <;> cases h
    · by_cases hi : i < ds.length
      · rw [List.getElem?_append_left (by simpa using hi), List.getElem?_map] at h
        obtain ⟨d', h1, h2⟩ := Option.map_eq_some_iff.mp h
        cases h2
      · rw [List.getElem?_append_right (by simpa using hi), List.getElem?_replicate] at h
        split at h <;> cases h
    · by_cases hi : i < ds.length
      · rw [List.getElem?_append_left (by simpa using hi), List.getElem?_map] at h
        obtain ⟨d', h1, h2⟩ := Option.map_eq_some_iff.mp h
        cases h2
      · rw [List.getElem?_append_right (by simpa using hi), List.getElem?_replicate] at h
        split at h <;> cases h
  have rs : RepS K Ts H O (fun _ => none) (L2.start N vs) H (ds.map .dat ++ List.replicate (N.length - ds.length) .no) := ⟨O, fun b hb => hb, fun b hb => (occ b hb).1, rp, fun b o e => nomatch e⟩
  split at hF
  · rename_i d' hf
    cases hF
    exact ⟨H, O, _, _, _, rs, hf, fun v H' x t q => kk v H' x t q⟩
  · rename_i e' hf
    cases hF
    refine ⟨H, O, _, _, _, rs, hf, fun σ' H' r' => ?_⟩
    obtain ⟨O', a1, a2, r1, _⟩ := r'
    exact kk .non H' r1.ext r1.tabs .non
  · cases hF
theorem df_mk {x qual : Str} {st : Stmt} {f : Addr} {oc : Value} {od an : Option Addr} {osl : Array (Option Value)} {dV kV doc pm cdv ct : Value} (l : K.lookup f = some ⟨oc, od, .func (PySem.W.fnOf x qual (defArgs st) (defBody st) (defScope st) dV kV doc pm an cdv ct), osl⟩)
    (c : PySem.W.codeIn K cdv qual = true) (k : PySem.W.keepIn K (.ref f) = true) : DF K x qual st f (PySem.W.fnOf x qual (defArgs st) (defBody st) (defScope st) dV kV doc pm an cdv ct) cdv := ⟨⟨oc, od, dV, kV, doc, pm, an, ct, osl, rfl, l, c⟩, k⟩
end
section
variable {X : Cx} {Ts : TsT} {pos p : Pos} {tg e e2 : Expr} {f g : En → Option PyData}
def gPlus : PyData → PyData → Option PyData
  | .int i, .int j => some (.int (i + j))
  | .tuple xs, .tuple ys => if xs.length + ys.length ≤ 1000000 then some (.tuple (xs ++ ys)) else none
  | .list xs, .list ys => if xs.length + ys.length ≤ 1000000 then some (.list (xs ++ ys)) else none
  | _, _ => none
def fPlus := f2 gPlus
def rCatL (K : PySem.W.Frag) : R2 := fun x y H Q => ∃ a b xs ys, x = .ref a ∧ y = .ref b ∧ SqL K H a xs ∧ SqL K H b ys ∧ xs.length + ys.length ≤ sizeLine ∧ ∀ p, H p = none → Q (.ref p) (upd H p (.lst (xs ++ ys)))
theorem op_catL : OpR X (binaryOp .Add) (rCatL X.K) := by
  intro pins s σ H x y v u Q I rx ry h
  obtain ⟨a, b, xs, ys, rfl, rfl, ha, hb, hz, q⟩ := h
  cases rx
  cases ry
  obtain ⟨is1, r1, ⟨⟨c1, d1, t1, l1⟩, n1, g1, gc1, _, gd1⟩, _⟩ := I.list ha
  obtain ⟨is2, r2, ⟨⟨c2, d2, t2, l2⟩, n2, g2, gc2, _, gd2⟩, _⟩ := I.list hb
  simp only at gc1 gd1 gc2 gd2
  subst gc1 gd1 gc2 gd2
  have len1 := r1.length
  have len2 := r2.length
  have small : is1.toArray.size + is2.toArray.size ≤ sizeLine := by
    rw [List.size_toArray, List.size_toArray]
    omega
  refine concat_meets ⟨_, g1, rfl⟩ ⟨_, g2, rfl⟩ noFill_list_add seq_list_add PySem.F.slot_list_add PySem.F.entry_list_add (PySem.F.args_list_add_2 _ _)
    (list_addW a b is1.toArray is2.toArray n1 n2 d1 d2 l1 l2 small) ⟨g1, g2, ?_⟩
  have joined : is1.toArray ++ is2.toArray = (is1 ++ is2).toArray := by simp
  rw [joined]
  exact ⟨.ref _, _, I.lnew (t' := s.toks) (r1.append r2) (by rw [List.length_append]; omega), rfl, q _ I.fresh⟩
theorem op_plus : OpR X (binaryOp .Add) (fun x y H Q => rI0 (fun i j => .int (i + j)) x y H Q ∨ rCatA X.K x y H Q ∨ rCatL X.K x y H Q) := by
  intro pins s σ H x y v u Q I rx ry h
  rcases h with h | h | h
  · exact op_add pins s σ H x y v u Q I rx ry h
  · exact op_catA pins s σ H x y v u Q I rx ry h
  · exact op_catL pins s σ H x y v u Q I rx ry h
theorem d_plus (ha : DE X Ts e f) (hb : DE X Ts e2 g) : DE X Ts (.BinOp e .Add e2 pos) (fPlus f g) := PE.imp (pe_op op_plus ha hb) fun σ H Q ⟨He, O, en, d, rp, hf, kk⟩ => by
  obtain ⟨x, y, h1, h2, h3⟩ := f2_some hf
  refine tD.of rp h1 fun v H1 x1 r1 q1 => tD.of r1 h2 fun w H2 x2 r2 q2 => ?_
  have q1 := Dp.mono (hide_mono x2) q1
  cases x <;> cases y <;> simp only [gPlus] at h3 <;> try cases h3
  · cases q1
    cases q2
    exact .inl ⟨_, _, rfl, rfl, kk _ H2 (x1.trans x2) r2.tabs (.int _)⟩
  · split at h3
    · rename_i hl
      cases h3
      cases q1 with
      | lst s1 a1 =>
        cases q2 with
        | lst s2 a2 =>
          have l1 := DpAll.len a1
          have l2 := DpAll.len a2
          exact .inr (.inr ⟨_, _, _, _, rfl, rfl, sqL_mono (fun o n e => (hide_some e).2) s1, sqL_mono (fun o n e => (hide_some e).2) s2, by rw [l1, l2, sizeLine_eq]; omega, fun p np => kk _ _ (x1.trans (x2.trans (Xt.upd np))) (r2.tabs.new np) (lst_new np (new_out r2.occ np) (DpAll.app a1 a2))⟩)
    · cases h3
  · split at h3
    · rename_i hl
      cases h3
      cases q1 with
      | tup s1 a1 =>
        cases q2 with
        | tup s2 a2 =>
          have l1 := DpAll.len a1
          have l2 := DpAll.len a2
          refine .inr (.inl ⟨_, _, _, _, rfl, rfl, sqT_mono (fun o n e => (hide_some e).2) s1, sqT_mono (fun o n e => (hide_some e).2) s2, by rw [l1, l2, sizeLine_eq]; omega, fun e0 => ?_, fun _ e0 => ?_, fun _ _ p np => kk _ _ (x1.trans (x2.trans (Xt.upd np))) (r2.tabs.new np) (tup_new np (new_out r2.occ np) (DpAll.app a1 a2))⟩)
          · subst e0
            cases a1
            exact kk _ H2 (x1.trans x2) r2.tabs (.tup s2 a2)
          · subst e0
            cases a2
            rw [List.append_nil] at kk
            exact kk _ H2 (x1.trans x2) r2.tabs (.tup s1 a1)
    · cases h3
def iSq (K : PySem.W.Frag) (tl : TE) : TI := fun σ H R => tl σ H fun x H1 => (∃ a, x = .ref a ∧ (∃ xs, SqL K H1 a xs) ∧ R (Itl K a) H1) ∨ (∃ a, x = .ref a ∧ (∃ xs, SqT K H1 a xs) ∧ R (Itt K a) H1)
theorem pi_sq {l : Expr} {tl : TE} (hl : PE X l tl) : PI X tg l (iSq X.K tl) := by
  refine ⟨fun pins s σ H R I h => ?_⟩
  refine thn (hl.run pins s σ H _ I h) fun v s1 ⟨x, H1, I1, r1, q1⟩ => ?_
  rcases q1 with ⟨a, e, ⟨xs, hq⟩, q⟩ | ⟨a, e, ⟨xs, hq⟩, q⟩
  · subst e
    cases r1
    obtain ⟨its, rv, p, hz⟩ := I1.list hq
    refine wpAny_pyIter_list p.isList ?_
    refine ⟨s1.heap.objs.size, [s1.heap.objs.size], _, _, H1, rfl, I1.kept (t' := s1.toks) fun b o e => Heap.get?_push_of_some _ e, turn_list a _, ⟨_, Heap.get?_push_size _ rfl, rfl, rfl⟩, fun b hb => ?_, q⟩
    have e : b = s1.heap.objs.size := by simpa using hb
    subst e
    exact I1.fpOk (Nat.le_refl _) (I1.hok.fresh (Nat.le_refl _))
  · subst e
    cases r1
    obtain ⟨its, rv, p, hz⟩ := I1.tuple hq
    refine wpAny_pyIter_tuple (show s1.heap.IsTuple a its.toArray from p) ?_
    refine ⟨s1.heap.objs.size, [s1.heap.objs.size], _, _, H1, rfl, I1.kept (t' := s1.toks) fun b o e => Heap.get?_push_of_some _ e, turn_tuple a _, ⟨_, Heap.get?_push_size _ rfl, rfl, rfl⟩, fun b hb => ?_, q⟩
    have e : b = s1.heap.objs.size := by simpa using hb
    subst e
    exact I1.fpOk (Nat.le_refl _) (I1.hok.fresh (Nat.le_refl _))
def iSeq (f : En → Option PyData) : En → Option (List PyData) := fun en => (f en).bind items
theorem gives_list {K : PySem.W.Frag} {H1 : Hp} {O : List Addr} {l : Addr} {vs : List V} {ds : List PyData} (s : SqL K (hide H1 O) l vs) (a : DpAll K (hide H1 O) vs ds) : Gives K Ts (Itl K l) ds H1 O := fun O' H2 h1 h2 occ => by
  have s2 : SqL K H2 l vs := sqL_mono (fun o n e => h2.get _ o e n) s
  have a2 := DpAll.mono h1 a
  have hl := DpAll.len a
  refine ⟨fun i hi => ⟨vs, vs[i]'(by omega), s2, by simp [hl, hi]⟩, ⟨vs, s2, by omega⟩, fun i x H3 hi hy => ?_⟩
  obtain ⟨rfl, hx⟩ := hy
  obtain ⟨d, hd1, hd2⟩ := DpAll.get a2 (hx vs s2)
  exact ⟨d, hd1, Xt.refl _, id, hd2⟩
theorem gives_tup {K : PySem.W.Frag} {H1 : Hp} {O : List Addr} {l : Addr} {vs : List V} {ds : List PyData} (s : SqT K (hide H1 O) l vs) (a : DpAll K (hide H1 O) vs ds) : Gives K Ts (Itt K l) ds H1 O := fun O' H2 h1 h2 occ => by
  have s2 : SqT K H2 l vs := sqT_mono (fun o n e => h2.get _ o e n) s
  have a2 := DpAll.mono h1 a
  have hl := DpAll.len a
  refine ⟨fun i hi => ⟨vs, vs[i]'(by omega), s2, by simp [hl, hi]⟩, ⟨vs, s2, by omega⟩, fun i x H3 hi hy => ?_⟩
  obtain ⟨rfl, hx⟩ := hy
  obtain ⟨d, hd1, hd2⟩ := DpAll.get a2 (hx vs s2)
  exact ⟨d, hd1, Xt.refl _, id, hd2⟩
theorem di_seq (h : DE X Ts e f) : DI X Ts tg e (iSeq f) := PI.imp (pi_sq h) fun σ H R ⟨He, O, en, ds, rp, hf, kk⟩ => by
  unfold iSeq at hf
  obtain ⟨d, h1, h2⟩ := Option.bind_eq_some_iff.mp hf
  refine tD.of rp h1 fun v H1 x1 r1 q1 => ?_
  cases d <;> simp only [items] at h2 <;> cases h2
  · cases q1 with
    | lst s a => exact .inl ⟨_, rfl, ⟨_, sqL_mono (fun o n e => (hide_some e).2) s⟩, kk _ H1 x1 r1.tabs (gives_list s a)⟩
  · cases q1 with
    | tup s a => exact .inr ⟨_, rfl, ⟨_, sqT_mono (fun o n e => (hide_some e).2) s⟩, kk _ H1 x1 r1.tabs (gives_tup s a)⟩
theorem d_globE {x : Str} {i : Int} (hg : Gl X x) (hm : ∃ t, X.mg x = some (.int i t)) (hd : (x == ("__debug__" : Str)) = false := by decide) : DE X Ts (.Name x pos) (fLit (.int i)) := by
  obtain ⟨t, hm⟩ := hm
  exact d_glob hg hm hd
end
theorem room_gen {j : Nat} {A : Around} (r : Room (j + 1) A) (env : Env) : Room j (A.in1.in1.deeper env) :=
  ⟨r.hd, by have := r.dp; show A.depth + 1 + 3 * j + 5 < _; omega, by have := r.un; show A.units + 1 + 1 + 3 + 16 * j + 200 < _; omega⟩
structure CF (P : Program) (w : World) (K : PySem.W.Frag) (mg : Str → Option Value) (base : Heap) (Ts : TsT) (k : Nat) (x : Str) (n : Nat) (F : List PyData → Option PyData) : Prop where
  ex : ∃ f fd ps dvs us dd G, mg x = some (.ref f) ∧ PySem.W.keepIn K (.ref f) = true ∧ Binds K fd ps us ∧ Vals dvs us ∧ (∀ H, DpAll K H dvs dd) ∧ FnOk P w K mg base CX0 k f fd ps (spD K Ts (n + dd.length) G) ∧ ∀ xs d, xs.length = n → F xs = some d → G (xs ++ dd) = some d
theorem CF.imp {P : Program} {w : World} {K : PySem.W.Frag} {mg : Str → Option Value} {base : Heap} {Ts : TsT} {k : Nat} {x : Str} {n : Nat} {F G : List PyData → Option PyData} (c : CF P w K mg base Ts k x n F) (h : ∀ ds d, G ds = some d → F ds = some d) : CF P w K mg base Ts k x n G := by
  obtain ⟨f, fd, ps, dvs, us, dd, G', h1, h2, h3, h4, h5, h6, h7⟩ := c.ex
  exact ⟨f, fd, ps, dvs, us, dd, G', h1, h2, h3, h4, h5, h6, fun xs d hl e => h7 xs d hl (h xs d e)⟩
theorem CF.call {X : Cx} {Ts : TsT} {k : Nat} {x : Str} {n : Nat} {F : List PyData → Option PyData} (c : CF X.prog X.w X.K X.mg X.base Ts k x n F) : DFn X Ts k x n F := ⟨c.ex⟩
theorem CF.of {P : Program} {w : World} {K : PySem.W.Frag} {mg : Str → Option Value} {base : Heap} {Ts : TsT} {k : Nat} {x : Str} {n : Nat} {F : List PyData → Option PyData} {f : Addr} {fd : FuncData} {ps : List Str} (h1 : mg x = some (.ref f)) (h2 : PySem.W.keepIn K (.ref f) = true) (h3 : Binds K fd ps []) (h4 : FnOk P w K mg base CX0 k f fd ps (spD K Ts n F)) : CF P w K mg base Ts k x n F :=
  ⟨f, fd, ps, [], [], [], F, h1, h2, h3, .nil, fun _ => .nil, h4, fun xs d _ e => by rw [List.append_nil]; exact e⟩
def RowOk (rw : List PyData) : Prop := ∃ (ns : List Int) (i m c : Int), rw = [.list (ns.map .int), .int i, .int m, .int c] ∧ ns.length ≤ 63 ∧ 0 ≤ i ∧ 0 ≤ m ∧ m < 2147483647 ∧ 0 ≤ c
def WRep (K : PySem.W.Frag) (Ts : TsT) (ρ : Nat) (He : Hp) (O : List Addr) (σ : St) (H : Hp) (en : En) : Prop := ρ < en.length ∧ ∃ rw, RowOk rw ∧ Rep K Ts He O σ H (en.set ρ (.own rw))
def XtB (a : Addr) (H H' : Hp) : Prop := ∀ b o, b ≠ a → H b = some o → H' b = some o ∨ ∃ ps qs, o = .tbl ps ∧ H' b = some (.tbl qs)
theorem XtB.trans {a : Addr} {H H1 H2 : Hp} (x : XtB a H H1) (y : XtB a H1 H2) : XtB a H H2 := fun b o hb e => by
  rcases x b o hb e with q | ⟨ps, qs, e1, q⟩
  · exact y b o hb q
  · rcases y b _ hb q with q' | ⟨_, qs', _, q'⟩
    · exact .inr ⟨ps, qs, e1, q'⟩
    · exact .inr ⟨ps, qs', e1, q'⟩
theorem XtB.of {a : Addr} {H H1 : Hp} (x : Xt H H1) : XtB a H H1 := fun b o _ e => x b o e
def Xw (ρ : Nat) (σ : St) (O : List Addr) (H H' : Hp) : Prop := Xt (hide H O) (hide H' O) ∧ ∀ a, σ[ρ]? = some (some (V.ref a)) → XtB a H H'
theorem Xw.refl {ρ : Nat} {σ : St} {O : List Addr} (H : Hp) : Xw ρ σ O H H := ⟨Xt.refl _, fun _ _ => .of (Xt.refl _)⟩
theorem Xw.of {ρ : Nat} {σ : St} {O : List Addr} {H H' : Hp} (x : Xt H H') : Xw ρ σ O H H' := ⟨hide_mono x, fun _ _ => .of x⟩
theorem Xw.trans {ρ : Nat} {σ : St} {O : List Addr} {H H1 H2 : Hp} (x : Xw ρ σ O H H1) (y : Xw ρ σ O H1 H2) : Xw ρ σ O H H2 := ⟨x.1.trans y.1, fun a h => (x.2 a h).trans (y.2 a h)⟩
abbrev WF := En → (PyData → Prop) → Prop
def tW (K : PySem.W.Frag) (Ts : TsT) (ρ : Nat) (F : WF) : TE := fun σ H Q => ∃ He O en Qd, WRep K Ts ρ He O σ H en ∧ F en Qd ∧ ∀ d v H', Qd d → WRep K Ts ρ He O σ H' en → Dp K (hide H' O) v d → Xw ρ σ O H H' → Q v H'
def tWs (K : PySem.W.Frag) (Ts : TsT) (ρ : Nat) (F : En → (List PyData → Prop) → Prop) : TA := fun σ H Q => ∃ He O en Qd, WRep K Ts ρ He O σ H en ∧ F en Qd ∧ ∀ ds vs H', Qd ds → WRep K Ts ρ He O σ H' en → DpAll K (hide H' O) vs ds → Xw ρ σ O H H' → Q vs H'
def tWT (K : PySem.W.Frag) (Ts : TsT) (ρ : Nat) (F : En → (Bool → Prop) → Prop) : TT := fun σ H Q => ∃ He O en Qd, WRep K Ts ρ He O σ H en ∧ F en Qd ∧ ∀ b H', Qd b → WRep K Ts ρ He O σ H' en → Xw ρ σ O H H' → Q b H'
abbrev WE (X : Cx) (Ts : TsT) (ρ : Nat) (e : Expr) (F : WF) : Prop := PE X e (tW X.K Ts ρ F)
abbrev WA (X : Cx) (Ts : TsT) (ρ : Nat) (es : List Expr) (F : En → (List PyData → Prop) → Prop) : Prop := PA X es (tWs X.K Ts ρ F)
abbrev WT (X : Cx) (Ts : TsT) (ρ : Nat) (e : Expr) (F : En → (Bool → Prop) → Prop) : Prop := PT X e (tWT X.K Ts ρ F)
theorem WRep.tabs' {K : PySem.W.Frag} {Ts : TsT} {ρ : Nat} {He : Hp} {O : List Addr} {σ : St} {H : Hp} {en : En} (r : WRep K Ts ρ He O σ H en) : Tb Ts H := let ⟨_, _, _, r⟩ := r; r.tabs
theorem WRep.occ {K : PySem.W.Frag} {Ts : TsT} {ρ : Nat} {He : Hp} {O : List Addr} {σ : St} {H : Hp} {en : En} (r : WRep K Ts ρ He O σ H en) : ∀ b ∈ O, H b ≠ none ∧ ∀ ps, H b ≠ some (.tbl ps) := let ⟨_, _, _, r⟩ := r; r.occ
theorem WRep.go {K : PySem.W.Frag} {Ts : TsT} {ρ : Nat} {He : Hp} {O : List Addr} {σ : St} {H H' : Hp} {en : En} (r : WRep K Ts ρ He O σ H en) (x : Xt H H') (t : Tb Ts H') : WRep K Ts ρ He O σ H' en := let ⟨a, rw, b, c⟩ := r; ⟨a, rw, b, c.go x t⟩
def wP (ρ : Nat) (f : En → Option PyData) : WF := fun en Q => ∃ d, (∀ rw, f (en.set ρ (.own rw)) = some d) ∧ Q d
def wT (ρ : Nat) (f : En → Option Bool) : En → (Bool → Prop) → Prop := fun en Q => ∃ b, (∀ rw, f (en.set ρ (.own rw)) = some b) ∧ Q b
def Op2 (K : PySem.W.Frag) (Ts : TsT) (r : R2) (g : PyData → PyData → Option PyData) : Prop := ∀ x y v w d H O Q, g x y = some d → Dp K (hide H O) v x → Dp K (hide H O) w y → Tb Ts H → (∀ b ∈ O, H b ≠ none ∧ ∀ ps, H b ≠ some (.tbl ps)) → (∀ u H', Xt H H' → Tb Ts H' → Dp K (hide H' O) u d → Q u H') → r v w H Q
def w2 (g : PyData → PyData → Option PyData) (F G : WF) : WF := fun en Q => F en fun x => G en fun y => ∃ d, g x y = some d ∧ Q d
def w1 (g : PyData → Option PyData) (F : WF) : WF := fun en Q => F en fun x => ∃ d, g x = some d ∧ Q d
section
variable {K : PySem.W.Frag} {X : Cx} {Ts : TsT} {ρ : Nat} {pos p : Pos} {e e2 : Expr} {es : List Expr} {f : En → Option PyData} {F G : WF}
theorem we_pure (h : DE X Ts e f) : WE X Ts ρ e (wP ρ f) := PE.imp h fun σ H Q ⟨He, O, en, Qd, ⟨hl, rw, hr, rp⟩, ⟨d, hf, hq⟩, kk⟩ =>
  tD.of rp (hf rw) fun v H' x r' q => kk d v H' hq ⟨hl, rw, hr, r'⟩ q (Xw.of x)
theorem wt_pure {t : En → Option Bool} (h : DT X Ts e t) : WT X Ts ρ e (wT ρ t) := PT.imp h fun σ H Q ⟨He, O, en, Qd, ⟨hl, rw, hr, rp⟩, ⟨d, hf, hq⟩, kk⟩ =>
  tT.of rp (hf rw) fun H' x r' => kk d H' hq ⟨hl, rw, hr, r'⟩ (Xw.of x)
theorem ww_2 {r : R2} {g : PyData → PyData → Option PyData} (k : Op2 K Ts r g) : ∀ σ H Q, tW K Ts ρ (w2 g F G) σ H Q → tOp r (tW K Ts ρ F) (tW K Ts ρ G) σ H Q := fun σ H Q ⟨He, O, en, Qd, rp, hF, kk⟩ =>
  ⟨He, O, en, _, rp, hF, fun x v H1 hx r1 q1 x1 => ⟨He, O, en, _, r1, hx, fun y w H2 ⟨d, hg, hd⟩ r2 q2 x2 =>
    k x y v w d H2 O Q hg (Dp.mono x2.1 q1) q2 r2.tabs' r2.occ fun u H' x3 t3 q3 => kk d u H' hd (r2.go x3 t3) q3 (x1.trans (x2.trans (Xw.of x3)))⟩⟩
theorem op2_plus : Op2 X.K Ts (fun x y H Q => rI0 (fun i j => .int (i + j)) x y H Q ∨ rCatA X.K x y H Q ∨ rCatL X.K x y H Q) gPlus := fun x y v w d H O Q h3 q1 q2 ht occ kk => by
  cases x <;> cases y <;> simp only [gPlus] at h3 <;> try cases h3
  · cases q1
    cases q2
    exact .inl ⟨_, _, rfl, rfl, kk _ H (Xt.refl H) ht (.int _)⟩
  · split at h3
    · rename_i hl
      cases h3
      cases q1 with
      | lst s1 a1 =>
        cases q2 with
        | lst s2 a2 =>
          have l1 := DpAll.len a1
          have l2 := DpAll.len a2
          exact .inr (.inr ⟨_, _, _, _, rfl, rfl, sqL_mono (fun o n e => (hide_some e).2) s1, sqL_mono (fun o n e => (hide_some e).2) s2, by rw [l1, l2, sizeLine_eq]; omega, fun p np => kk _ _ (Xt.upd np) (ht.new np) (lst_new np (new_out occ np) (DpAll.app a1 a2))⟩)
    · cases h3
  · split at h3
    · rename_i hl
      cases h3
      cases q1 with
      | tup s1 a1 =>
        cases q2 with
        | tup s2 a2 =>
          have l1 := DpAll.len a1
          have l2 := DpAll.len a2
          refine .inr (.inl ⟨_, _, _, _, rfl, rfl, sqT_mono (fun o n e => (hide_some e).2) s1, sqT_mono (fun o n e => (hide_some e).2) s2, by rw [l1, l2, sizeLine_eq]; omega, fun e0 => ?_, fun _ e0 => ?_, fun _ _ p np => kk _ _ (Xt.upd np) (ht.new np) (tup_new np (new_out occ np) (DpAll.app a1 a2))⟩)
          · subst e0
            cases a1
            exact kk _ H (Xt.refl H) ht (.tup s2 a2)
          · subst e0
            cases a2
            rw [List.append_nil] at kk
            exact kk _ H (Xt.refl H) ht (.tup s1 a1)
    · cases h3
theorem we_plus (ha : WE X Ts ρ e F) (hb : WE X Ts ρ e2 G) : WE X Ts ρ (.BinOp e .Add e2 pos) (w2 gPlus F G) := PE.imp (pe_op op_plus ha hb) (ww_2 op2_plus)
def wNil : En → (List PyData → Prop) → Prop := fun _ Q => Q []
def wCons (F : WF) (G : En → (List PyData → Prop) → Prop) : En → (List PyData → Prop) → Prop := fun en Q => F en fun x => G en fun xs => Q (x :: xs)
variable {Gs : En → (List PyData → Prop) → Prop}
theorem wa_nil : WA X Ts ρ [] wNil := PA.imp pa_nil fun σ H Q ⟨He, O, en, Qd, rp, hF, kk⟩ => kk [] [] H hF rp .nil (Xw.refl _)
theorem wa_cons (ha : WE X Ts ρ e F) (hr : WA X Ts ρ es Gs) (hs : starEach (e :: es) X.env = (false, eval e X.env) :: starEach es X.env := by rfl) : WA X Ts ρ (e :: es) (wCons F Gs) := PA.imp (pa_cons ha hr hs) fun σ H Q ⟨He, O, en, Qd, rp, hF, kk⟩ =>
  ⟨He, O, en, _, rp, hF, fun x v H1 hx r1 q1 x1 => ⟨He, O, en, _, r1, hx, fun xs vs H2 hxs r2 q2 x2 => kk _ _ H2 hxs r2 (.cons (Dp.mono x2.1 q1) q2) (x1.trans x2)⟩⟩
def wTup (G : En → (List PyData → Prop) → Prop) : WF := fun en Q => G en fun ds => ds.length ≤ 64 ∧ Q (.tuple ds)
def wLst (G : En → (List PyData → Prop) → Prop) : WF := fun en Q => G en fun ds => ds.length ≤ 64 ∧ Q (.list ds)
theorem we_tup {x1} (h : WA X Ts ρ es Gs) : WE X Ts ρ (.Tuple es x1 pos) (wTup Gs) := PE.imp (pe_tup h) fun σ H Q ⟨He, O, en, Qd, rp, hF, kk⟩ =>
  ⟨He, O, en, _, rp, hF, fun ds vs H1 ⟨hl, hq⟩ r1 q1 x1 => ⟨by rw [DpAll.len q1]; exact small64 hl, fun p np => kk _ _ _ hq (r1.go (Xt.upd np) (r1.tabs'.new np)) (tup_new np (new_out r1.occ np) q1) (x1.trans (Xw.of (Xt.upd np)))⟩⟩
theorem we_lst (h : WA X Ts ρ es Gs) : WE X Ts ρ (.List es pos) (wLst Gs) := PE.imp (pe_lst h) fun σ H Q ⟨He, O, en, Qd, rp, hF, kk⟩ =>
  ⟨He, O, en, _, rp, hF, fun ds vs H1 ⟨hl, hq⟩ r1 q1 x1 => ⟨by rw [DpAll.len q1]; exact small64 hl, fun p np => kk _ _ _ hq (r1.go (Xt.upd np) (r1.tabs'.new np)) (lst_new np (new_out r1.occ np) q1) (x1.trans (Xw.of (Xt.upd np)))⟩⟩
theorem we_tuple (hg : Gl X "tuple") (hm : X.mg "tuple" = none) (hv : bootBuiltins "tuple" = some (.type "tuple")) (ha : WE X Ts ρ e F) (he : starEach [e] X.env = (false, eval e X.env) :: starEach [] X.env := by rfl) : WE X Ts ρ (.Call (.Name "tuple" p) [e] [] pos) (w1 gTuple F) :=
  PE.imp (pe_callTy (t := tCons (tW X.K Ts ρ F) tNil) call_tuple_of hg hm hv (pa_cons ha pa_nil he) (by decide) (by decide) he (by rfl)) fun σ H Q ⟨He, O, en, Qd, rp, hF, kk⟩ =>
    ⟨He, O, en, _, rp, hF, fun d v H1 ⟨z, hz, hq⟩ r1 q1 x1 => by
      cases d <;> simp only [gTuple, items, Option.map_some, Option.map_none] at hz <;> try cases hz
      · cases q1 with
        | lst s a => exact ⟨_, _, rfl, .inl ⟨sqL_mono (fun o n e => (hide_some e).2) s, fun l nl => kk _ _ _ hq (r1.go (Xt.upd nl) (r1.tabs'.new nl)) (tup_new nl (new_out r1.occ nl) a) (x1.trans (Xw.of (Xt.upd nl)))⟩⟩
      · cases q1 with
        | tup s a => exact ⟨_, _, rfl, .inr ⟨sqT_mono (fun o n e => (hide_some e).2) s, kk _ _ H1 hq r1 (.tup s a) x1⟩⟩⟩
def spW (K : PySem.W.Frag) (Ts : TsT) (n : Nat) (F : List PyData → (PyData → Prop) → Prop) : Sp := fun vs H Q _ => vs.length = n + 1 ∧ ∃ a vs' O ds rw ws Qd, vs = .ref a :: vs' ∧ a ∈ O ∧ H a = some (.lst ws) ∧ DpAll K (hide H O) ws rw ∧ RowOk rw ∧ DpAll K (hide H O) vs' ds ∧ Tb Ts H ∧
  (∀ b ∈ O, H b ≠ none ∧ ∀ ps, H b ≠ some (.tbl ps)) ∧ F ds Qd ∧ ∀ d v H' rw' ws', Qd d → RowOk rw' → H' a = some (.lst ws') → DpAll K (hide H' O) ws' rw' → XtB a H H' → Tb Ts H' → Dp K (hide H' O) v d → Q v H'
theorem spW.imp {n : Nat} {F G : List PyData → (PyData → Prop) → Prop} (h : ∀ ds Q, G ds Q → F ds Q) : ∀ vs H Q E, spW K Ts n G vs H Q E → spW K Ts n F vs H Q E :=
  fun vs H Q E ⟨h1, a, vs', O, ds, rw, ws, Qd, e1, e2, e3, e4, e5, e6, e7, e8, e9, k⟩ => ⟨h1, a, vs', O, ds, rw, ws, Qd, e1, e2, e3, e4, e5, e6, e7, e8, h ds Qd e9, k⟩
structure CW (P : Program) (w : World) (K : PySem.W.Frag) (mg : Str → Option Value) (base : Heap) (Ts : TsT) (k : Nat) (x : Str) (n : Nat) (F : List PyData → (PyData → Prop) → Prop) : Prop where
  ex : ∃ f fd ps, mg x = some (.ref f) ∧ PySem.W.keepIn K (.ref f) = true ∧ Binds K fd ps [] ∧ FnOk P w K mg base CX0 k f fd ps (spW K Ts n F)
theorem CW.imp {P : Program} {w : World} {mg : Str → Option Value} {base : Heap} {k : Nat} {x : Str} {n : Nat} {F G : List PyData → (PyData → Prop) → Prop} (c : CW P w K mg base Ts k x n F) (h : ∀ ds Q, G ds Q → F ds Q) : CW P w K mg base Ts k x n G := by
  obtain ⟨f, fd, ps, h1, h2, h3, h4⟩ := c.ex
  exact ⟨f, fd, ps, h1, h2, h3, h4.imp (spW.imp h)⟩
def wDraw (n : Nat) (Fn : List PyData → (PyData → Prop) → Prop) (G : En → (List PyData → Prop) → Prop) : WF := fun en Q => G en fun ds => ds.length = n ∧ Fn ds Q
theorem WRep.back {He : Hp} {O : List Addr} {σ : St} {H H' : Hp} {en : En} {a : Addr} {rw' : List PyData} {ws' : List V} (r : WRep K Ts ρ He O σ H en) (hs : σ[ρ]? = some (some (V.ref a))) (hr : RowOk rw') (ha : H' a = some (.lst ws')) (q : DpAll K (hide H' O) ws' rw') (x : XtB a H H') (t : Tb Ts H') : WRep K Ts ρ He O σ H' en ∧ Xt (hide H O) (hide H' O) := by
  obtain ⟨hl, rw, hr0, rp⟩ := r
  have hρ : (en.set ρ (Slot.own rw))[ρ]? = some (Slot.own rw) := by rw [List.getElem?_set_self hl]
  obtain ⟨a0, vs0, p1, p2, p3, p4, p5⟩ := rp.own ρ rw hρ
  rw [hs] at p1
  cases p1
  have xh : Xt (hide H O) (hide H' O) := fun b o e => by
    obtain ⟨e1, e2⟩ := hide_some e
    have hne : b ≠ a := fun z => e1 (z ▸ p2)
    rcases x b o hne e2 with q | ⟨ps, qs, e3, q⟩
    · exact .inl (hide_of e1 q)
    · exact .inr ⟨ps, qs, e3, hide_of e1 q⟩
  have toOwn : ∀ (j : Nat) (es : List PyData), (en.set ρ (Slot.own rw'))[j]? = some (Slot.own es) → ∃ es', (en.set ρ (Slot.own rw))[j]? = some (Slot.own es') := fun j es h => by
    by_cases hj : ρ = j
    · subst hj; exact ⟨rw, hρ⟩
    · rw [List.getElem?_set_ne hj] at h ⊢; exact ⟨es, h⟩
  refine ⟨⟨hl, rw', hr, ⟨by simpa using rp.len, fun j d h => ?_, fun j es h => ?_, fun j k es es' aa h1 h2 h3 h4 => ?_, fun b hb => ?_, fun b o e => ?_, t⟩⟩, xh⟩
  · have hj : ρ ≠ j := fun z => by subst z; rw [List.getElem?_set_self hl] at h; cases h
    rw [List.getElem?_set_ne hj] at h
    obtain ⟨v, q1, q2⟩ := rp.dat j d (by rw [List.getElem?_set_ne hj]; exact h)
    exact ⟨v, q1, Dp.mono xh q2⟩
  · by_cases hj : ρ = j
    · subst hj
      rw [List.getElem?_set_self hl] at h
      cases h
      exact ⟨a, ws', hs, p2, p3, ha, q⟩
    · rw [List.getElem?_set_ne hj] at h
      obtain ⟨a', vs', q1, q2, q3, q4, q5⟩ := rp.own j es (by rw [List.getElem?_set_ne hj]; exact h)
      have hne : a' ≠ a := fun z => hj (by subst z; exact rp.inj ρ j rw es a' hρ (by rw [List.getElem?_set_ne hj]; exact h) hs q1)
      rcases x a' _ hne q4 with q | ⟨_, _, z, _⟩
      · exact ⟨a', vs', q1, q2, q3, q, DpAll.mono xh q5⟩
      · cases z
  · obtain ⟨e1, g1⟩ := toOwn j es h1
    obtain ⟨e2, g2⟩ := toOwn k es' h2
    exact rp.inj j k e1 e2 aa g1 g2 h3 h4
  · by_cases z : b = a
    · rw [z, ha]
      exact ⟨by simp, fun ps z => nomatch z⟩
    · obtain ⟨n1, n2⟩ := rp.occ b hb
      cases e : H b with
      | none => exact absurd e n1
      | some o =>
        rcases x b o z e with q | ⟨ps, qs, e3, q⟩
        · rw [q]; exact ⟨by simp, fun ps z => n2 ps (by rw [e]; exact z)⟩
        · exact absurd (by rw [e, e3]) (n2 ps)
  · have hne : b ≠ a := fun z => by rw [z, p3] at e; cases e
    rcases rp.ext b o e with q | ⟨ps, qs, e3, q⟩
    · exact x b o hne q
    · rcases x b _ hne q with q' | ⟨_, qs', _, q'⟩
      · exact .inr ⟨ps, qs, e3, q'⟩
      · exact .inr ⟨ps, qs', e3, q'⟩
theorem WRep.at {He : Hp} {O : List Addr} {σ : St} {H : Hp} {en : En} (r : WRep K Ts ρ He O σ H en) : ∃ a rw ws, σ[ρ]? = some (some (V.ref a)) ∧ a ∈ O ∧ He a = none ∧ H a = some (.lst ws) ∧ DpAll K (hide H O) ws rw ∧ RowOk rw := by
  obtain ⟨hl, rw, hr, rp⟩ := r
  obtain ⟨a, vs, p1, p2, p3, p4, p5⟩ := rp.own ρ rw (by rw [List.getElem?_set_self hl])
  exact ⟨a, rw, vs, p1, p2, p3, p4, p5, hr⟩
theorem we_draw {k j n : Nat} {x y : Str} {py : Pos} {Fn : List PyData → (PyData → Prop) → Prop} (hr : Room j X.A) (hF : CW X.prog X.w X.K X.mg X.base Ts k x n Fn) (hk : k ≤ j) (hg : Gl X x) (hN : X.N[ρ]? = some y) (hv : Vis X.env.scope y) (ha : WA X Ts ρ es Gs) (hdb : (x == ("__debug__" : Str)) = false := by decide) (hd : (y == ("__debug__" : Str)) = false := by decide)
    (hcd : (y == ("__classdict__" : Str)) = false := by decide) (he : starEach (.Name y py :: es) X.env = (false, eval (.Name y py) X.env) :: starEach es X.env := by rfl) (hpl : (backTo pos (starEach es X.env)).any (·.1) = false := by rfl) : WE X Ts ρ (.Call (.Name x p) (.Name y py :: es) [] pos) (wDraw n Fn Gs) := by
  obtain ⟨f, fd, ps, h1, h2, h3, h4⟩ := hF.ex
  refine PE.imp (pe_call h4 (hr.mono hk) hg h1 h2 h3 .nil pass0 (pa_cons (pe_var hN hv hd hcd) ha he) hdb he hpl) fun σ H Q ⟨He, O, en, Qd, rp, hF, kk⟩ => ?_
  obtain ⟨a, rw, ws, p1, p2, p3, p4, p5, p6⟩ := rp.at
  refine ⟨.ref a, p1, He, O, en, _, rp, hF, fun ds vs H1 ⟨hl, hq⟩ r1 q1 x1 => ?_⟩
  obtain ⟨a', rw1, ws1, s1, s2, s3, s4, s5, s6⟩ := r1.at
  rw [p1] at s1
  cases s1
  show spW X.K Ts n Fn ((V.ref a :: vs) ++ []) H1 Q E0
  rw [List.append_nil]
  exact ⟨by rw [List.length_cons, DpAll.len q1, hl], a, vs, O, ds, rw1, ws1, Qd, rfl, s2, s4, s5, s6, q1, r1.tabs', r1.occ, hq, fun d v H' rw' ws' hd hrw ha' hq' hx ht hdp => by
    obtain ⟨b1, b2⟩ := r1.back p1 hrw ha' hq' hx ht
    exact kk d v H' hd b1 hdp (x1.trans ⟨b2, fun a2 h2 => by rw [p1] at h2; cases h2; exact hx⟩)⟩
end
def BOk (ρ : Nat) (b : PyData → En → Option En) : Prop := ∀ (d : PyData) (en en' : En) (rw : List PyData), b d en = some en' → b d (en.set ρ (.own rw)) = some (en'.set ρ (.own rw)) ∧ en'.length = en.length ∧
  (∀ j es, j ≠ ρ → en'[j]? = some (Slot.own es) → en[j]? = some (Slot.own es))
theorem bOk_name {ρ i : Nat} (h : i ≠ ρ) : BOk ρ (bName i) := fun d en en' rw hb => by
  unfold bName at hb ⊢
  split at hb
  · rename_i hi
    cases hb
    refine ⟨by rw [if_pos (by simpa using hi), List.set_comm _ _ (Ne.symm h)], by simp, fun j es hj h1 => ?_⟩
    have hij : i ≠ j := fun z => by subst z; rw [List.getElem?_set_self hi] at h1; cases h1
    rwa [List.getElem?_set_ne hij] at h1
  · cases hb
def tWI (K : PySem.W.Frag) (Ts : TsT) (ρ : Nat) (F : En → (List PyData → Prop) → Prop) : TI := fun σ H R => ∃ He O en Qd, WRep K Ts ρ He O σ H en ∧ F en Qd ∧ ∀ ds J H1, Qd ds → WRep K Ts ρ He O σ H1 en → Xw ρ σ O H H1 → Gives K Ts J ds H1 O → R J H1
abbrev WI (X : Cx) (Ts : TsT) (ρ : Nat) (tg iter : Expr) (F : En → (List PyData → Prop) → Prop) : Prop := PI X tg iter (tWI X.K Ts ρ F)
def gWD (K : PySem.W.Frag) (Ts : TsT) (ρ : Nat) (vs : List Nat) (b : PyData → En → Option En) : TG := fun x σ H Q => ∃ He O en d en', WRep K Ts ρ He O σ H en ∧ Dp K (hide H O) x d ∧ b d en = some en' ∧ ∀ σ', WRep K Ts ρ He O σ' H en' → wipe σ' vs = wipe σ vs → Q σ' H
section
variable {K : PySem.W.Frag} {X : Cx} {Ts : TsT} {ρ : Nat} {pos p : Pos} {e e2 tg iter elt : Expr} {es : List Expr} {f : En → Option PyData} {F G : WF} {it : En → (List PyData → Prop) → Prop} {b : PyData → En → Option En} {t : En → (Bool → Prop) → Prop}
theorem wg_of {vs : List Nat} (h : DG X Ts tg vs b) (hb : BOk ρ b) : PG X tg (gWD X.K Ts ρ vs b) := PG.imp h fun x σ H Q ⟨He, O, en, d, en', ⟨hl, rw, hr, rp⟩, q, hbd, kk⟩ =>
  ⟨He, O, _, d, _, rp, q, (hb d en en' rw hbd).1, fun σ' r' w' => kk σ' ⟨by rw [(hb d en en' rw hbd).2.1]; exact hl, rw, hr, r'⟩ w'⟩
def wIt (ρ : Nat) (f : En → Option (List PyData)) : En → (List PyData → Prop) → Prop := fun en Q => ∃ ds, (∀ rw, f (en.set ρ (.own rw)) = some ds) ∧ Q ds
theorem wi_pure {fi : En → Option (List PyData)} (h : DI X Ts tg iter fi) : WI X Ts ρ tg iter (wIt ρ fi) := PI.imp h fun σ H R ⟨He, O, en, Qd, ⟨hl, rw, hr, rp⟩, ⟨ds, hf, hq⟩, kk⟩ =>
  ⟨He, O, _, ds, rp, hf rw, fun J H1 x1 t1 gv => kk ds J H1 hq ⟨hl, rw, hr, rp.go x1 t1⟩ (Xw.of x1) gv⟩
def wRange1 (F : WF) : En → (List PyData → Prop) → Prop := fun en Q => F en fun d => ∃ j : Int, d = .int j ∧ -1000000 ≤ j ∧ j ≤ 1000000 ∧ Q (rangeD 0 j.toNat)
theorem wi_range1 (hg : Gl X "range") (hm : X.mg "range" = none) (ha : WE X Ts ρ e F) (hs : starEach [e] X.env = [(false, eval e X.env)] := by rfl) : WI X Ts ρ tg (.Call (.Name "range" p) [e] [] pos) (wRange1 F) :=
  PI.imp (pi_range1 (ta := tCons (tW X.K Ts ρ F) tNil) hg hm (pa_cons ha pa_nil hs) hs) fun σ H R ⟨He, O, en, Qd, rp, hF, kk⟩ =>
    ⟨He, O, en, _, rp, hF, fun d v H1 ⟨j, hj, h1, h2, hq⟩ r1 q1 x1 => by
      subst hj
      cases q1
      exact ⟨j, rfl, by omega, by omega, kk _ _ H1 hq r1 x1 gives_range⟩⟩
def wlcGo (b : PyData → En → Option En) (t : En → (Bool → Prop) → Prop) (f : WF) (en : En) : List PyData → (List PyData → Prop) → Prop
  | [], Q => Q []
  | d :: r, Q => ∃ e1, b d en = some e1 ∧ t e1 fun k => if k = true then f e1 fun y => wlcGo b t f en r fun o => Q (y :: o) else wlcGo b t f en r Q
def wLc (it : En → (List PyData → Prop) → Prop) (b : PyData → En → Option En) (t : En → (Bool → Prop) → Prop) (f : WF) (vs : List Nat) : WF := fun en Q => (∀ j ∈ vs, ∀ es, en[j]? ≠ some (Slot.own es)) ∧ it en fun ds => ds.length ≤ 1000000 ∧ wlcGo b t f (wipeE en vs) ds fun o => Q (.list o)
def wYes : En → (Bool → Prop) → Prop := fun _ Q => Q true
theorem wts_nil : PTs X [] (tWT X.K Ts ρ wYes) := ⟨fun pins s σ H Q I ⟨He, O, en, Qd, rp, hF, kk⟩ => pts_nil.run pins s σ H Q I (kk true H hF rp (Xw.refl _))⟩
theorem wipeE_set {en : En} {vs : List Nat} {x : Slot} (h : ρ ∉ vs) : wipeE (en.set ρ x) vs = (wipeE en vs).set ρ x := by
  induction vs with
  | nil => rfl
  | cons v vs ih =>
    have h1 : v ≠ ρ := fun e => h (by rw [e]; exact List.mem_cons_self)
    have h2 : ρ ∉ vs := fun m => h (List.mem_cons_of_mem _ m)
    show (wipeE (en.set ρ x) vs).set v .no = ((wipeE en vs).set v .no).set ρ x
    rw [ih h2, List.set_comm _ _ (Ne.symm h1)]
theorem wipeE_len (en : En) : ∀ vs : List Nat, (wipeE en vs).length = en.length
  | [] => rfl
  | v :: vs => by
    show ((wipeE en vs).set v .no).length = _
    rw [List.length_set, wipeE_len en vs]
theorem WRep.wipe {He : Hp} {O : List Addr} {σ : St} {H : Hp} {en : En} (r : WRep K Ts ρ He O σ H en) {vs : List Nat} (h : ρ ∉ vs) : WRep K Ts ρ He O (L2.wipe σ vs) H (wipeE en vs) := by
  obtain ⟨hl, rw, hr, rp⟩ := r
  refine ⟨by rw [wipeE_len]; exact hl, rw, hr, ?_⟩
  have := rp.wipe vs
  rwa [wipeE_set h] at this
theorem WRep.hid {He : Hp} {O : List Addr} {σ : St} {H : Hp} {en : En} (r : WRep K Ts ρ He O σ H en) {D : Addr} (hD : H D = none) {o : HO} (no : ∀ ps, o ≠ .tbl ps) : WRep K Ts ρ He (D :: O) σ (upd H D o) en := by
  obtain ⟨hl, rw, hr, rp⟩ := r
  exact ⟨hl, rw, hr, rp.hid hD no⟩
theorem WRep.join {He : Hp} {O : List Addr} {σ σ2 : St} {H H5 : Hp} {en e2 : En} (r1 : WRep K Ts ρ He O σ H en) (r2 : WRep K Ts ρ He O σ2 H5 e2) (x : Xt (hide H O) (hide H5 O)) (hρ : σ2[ρ]? = σ[ρ]?)
    (ho : ∀ (j : Nat) (es : List PyData), j ≠ ρ → en[j]? = some (Slot.own es) → e2[j]? = some (Slot.own es) ∧ σ2[j]? = σ[j]?) : WRep K Ts ρ He O σ H5 en := by
  obtain ⟨hl, rw1, hr1, rp1⟩ := r1
  obtain ⟨hl2, rw2, hr2, rp2⟩ := r2
  have h2ρ : (e2.set ρ (Slot.own rw2))[ρ]? = some (Slot.own rw2) := by rw [List.getElem?_set_self hl2]
  have h1ρ : (en.set ρ (Slot.own rw1))[ρ]? = some (Slot.own rw1) := by rw [List.getElem?_set_self hl]
  have toOwn : ∀ (j : Nat) (es : List PyData), (en.set ρ (Slot.own rw2))[j]? = some (Slot.own es) → ∃ es', (en.set ρ (Slot.own rw1))[j]? = some (Slot.own es') := fun j es h => by
    by_cases hj : ρ = j
    · subst hj; exact ⟨rw1, h1ρ⟩
    · rw [List.getElem?_set_ne hj] at h ⊢; exact ⟨es, h⟩
  refine ⟨hl, rw2, hr2, ⟨by simpa using rp1.len, fun j d h => ?_, fun j es h => ?_, fun j k es es' aa h1 h2 h3 h4 => ?_, rp2.occ, rp2.ext, rp2.tabs⟩⟩
  · have hj : ρ ≠ j := fun z => by subst z; rw [List.getElem?_set_self hl] at h; cases h
    rw [List.getElem?_set_ne hj] at h
    obtain ⟨v, q1, q2⟩ := rp1.dat j d (by rw [List.getElem?_set_ne hj]; exact h)
    exact ⟨v, q1, Dp.mono x q2⟩
  · by_cases hj : ρ = j
    · subst hj
      rw [List.getElem?_set_self hl] at h
      cases h
      obtain ⟨a, vs, p1, p2⟩ := rp2.own ρ rw2 h2ρ
      exact ⟨a, vs, by rw [← hρ]; exact p1, p2⟩
    · rw [List.getElem?_set_ne hj] at h
      obtain ⟨q1, q2⟩ := ho j es (Ne.symm hj) h
      obtain ⟨a, vs, p1, p2⟩ := rp2.own j es (by rw [List.getElem?_set_ne hj]; exact q1)
      exact ⟨a, vs, by rw [← q2]; exact p1, p2⟩
  · obtain ⟨f1, g1⟩ := toOwn j es h1
    obtain ⟨f2, g2⟩ := toOwn k es' h2
    exact rp1.inj j k f1 f2 aa g1 g2 h3 h4
theorem WRep.unhide {He : Hp} {O : List Addr} {σ : St} {H : Hp} {en : En} {D : Addr} (r : WRep K Ts ρ He (D :: O) σ H en) (no : ∀ (j : Nat) (es : List PyData) (a : Addr), (∃ rw, (en.set ρ (Slot.own rw))[j]? = some (Slot.own es)) → σ[j]? = some (some (V.ref a)) → a ≠ D) : WRep K Ts ρ He O σ H en := by
  obtain ⟨hl, rw, hr, rp⟩ := r
  have hs : Xt (hide H (D :: O)) (hide H O) := hide_sub fun b hb => List.mem_cons_of_mem _ hb
  refine ⟨hl, rw, hr, ⟨rp.len, fun j d h => let ⟨v, q1, q2⟩ := rp.dat j d h; ⟨v, q1, Dp.mono hs q2⟩, fun j es h => ?_, rp.inj, fun b hb => rp.occ b (List.mem_cons_of_mem _ hb), rp.ext, rp.tabs⟩⟩
  obtain ⟨a, vs, p1, p2, p3, p4, p5⟩ := rp.own j es h
  exact ⟨a, vs, p1, (List.mem_cons.mp p2).elim (fun z => absurd z (no j es a ⟨rw, h⟩ p1)) id, p3, p4, DpAll.mono hs p5⟩
theorem wipeE_out {en : En} {i : Nat} : ∀ {vs : List Nat}, i ∉ vs → (wipeE en vs)[i]? = en[i]?
  | [], _ => rfl
  | v :: vs, h => by
    have h1 : v ≠ i := fun e => h (by rw [e]; exact List.mem_cons_self)
    have h2 : i ∉ vs := fun m => h (List.mem_cons_of_mem _ m)
    show ((wipeE en vs).set v .no)[i]? = _
    rw [List.getElem?_set_ne h1]
    exact wipeE_out h2
theorem WRep.free {He : Hp} {O : List Addr} {σ : St} {H : Hp} {en : En} {D : Addr} (r : WRep K Ts ρ He O σ H en) (nD : H D = none) : ∀ (j : Nat) (es : List PyData) (a : Addr), (∃ rw, (en.set ρ (Slot.own rw))[j]? = some (Slot.own es)) → σ[j]? = some (some (V.ref a)) → a ≠ D := fun j es a ⟨rw', h1⟩ h2 z => by
  obtain ⟨hl, rw0, hr0, rp0⟩ := r
  have : ∃ es', (en.set ρ (Slot.own rw0))[j]? = some (Slot.own es') := by
    by_cases hj : ρ = j
    · subst hj; exact ⟨rw0, by rw [List.getElem?_set_self hl]⟩
    · rw [List.getElem?_set_ne hj] at h1 ⊢; exact ⟨es, h1⟩
  obtain ⟨es', h3⟩ := this
  obtain ⟨a', vs', g1, g2, g3, g4, _⟩ := rp0.own j es' h3
  rw [h2] at g1
  cases g1
  rw [z, nD] at g4
  cases g4
theorem WRep.grow {He : Hp} {O : List Addr} {σ : St} {H : Hp} {en : En} {D : Addr} {l l' : List V} (r : WRep K Ts ρ He O σ H en) (hm : D ∈ O) (hD : H D = some (.lst l)) (nE : He D = none) (no : ∀ (j : Nat) (es : List PyData) (a : Addr), (∃ rw, (en.set ρ (Slot.own rw))[j]? = some (Slot.own es)) → σ[j]? = some (some (V.ref a)) → a ≠ D) : WRep K Ts ρ He O σ (upd H D (.lst l')) en := by
  obtain ⟨hl, rw, hr, rp⟩ := r
  have hu : Xt (hide H O) (hide (upd H D (.lst l')) O) := hide_upd hm
  refine ⟨hl, rw, hr, ⟨rp.len, fun j dd h => let ⟨u, p, q⟩ := rp.dat j dd h; ⟨u, p, Dp.mono hu q⟩, fun j es h => ?_, rp.inj, fun bb hb => ?_, fun bb o e => ?_, rp.tabs.upd fun u z => by rw [hD] at z; cases z; exact lst_noc⟩⟩
  · obtain ⟨a, ws, p1, p2, p3, p4, p5⟩ := rp.own j es h
    exact ⟨a, ws, p1, p2, p3, by rw [upd_ne (no j es a ⟨rw, h⟩ p1)]; exact p4, DpAll.mono hu p5⟩
  · by_cases z : bb = D
    · rw [z, upd_same]
      exact ⟨by simp, fun ps q => nomatch q⟩
    · rw [upd_ne z]
      exact rp.occ bb hb
  · have hne : bb ≠ D := fun z => by rw [z, nE] at e; cases e
    rw [upd_ne hne]
    exact rp.ext bb o e
def tWNew (K : PySem.W.Frag) (Ts : TsT) (ρ : Nat) (F : WF) : TE := fun σ H Q => ∃ He O en Qd, WRep K Ts ρ He O σ H en ∧ F en Qd ∧ ∀ ds a vs H', Qd (.list ds) → WRep K Ts ρ He O σ H' en → H a = none → H' a = some (.lst vs) → DpAll K (hide H' (a :: O)) vs ds → Xt (hide H O) (hide H' (a :: O)) → (∀ r, σ[ρ]? = some (some (V.ref r)) → XtB r H H') → Q (.ref a) H'
theorem wlc_w {vs : List Nat} {σ : St} {H : Hp} {Q : VK} (hρ : ρ ∉ vs) (hbo : BOk ρ b) (hbv : ∀ (d : PyData) (en e1 : En) (j : Nat), j ∉ vs → b d en = some e1 → e1[j]? = en[j]?) (h : tWNew K Ts ρ (wLc it b t F vs) σ H Q) :
    tLc (tWI K Ts ρ it) (gWD K Ts ρ vs b) (tWT K Ts ρ t) (tW K Ts ρ F) vs σ H Q := by
  obtain ⟨He, O, en, Qd, rp, ⟨hno, hF⟩, kk⟩ := h
  refine ⟨He, O, en, _, rp, hF, fun ds J H1 ⟨hlen, hgo0⟩ r1 x1 gv D nD => ?_⟩
  have noD := r1.free nD
  obtain ⟨aρ, rwρ, wsρ, s1, s2, s3, s4, s5, s6⟩ := r1.at
  have hneρ : D ≠ aρ := fun z => by rw [← z, nD] at s4; cases s4
  have rD := r1.hid nD (o := .lst []) (fun _ z => nomatch z)
  have hDm : D ∈ D :: O := List.mem_cons_self
  have x0 : Xt (hide H1 O) (hide (upd H1 D (.lst [])) (D :: O)) := fun bb o e => by
    obtain ⟨e1, e2⟩ := hide_some e
    have hne := ne_of_none e2 nD
    exact .inl (hide_of (fun z => (List.mem_cons.mp z).elim hne e1) (by rw [upd_ne hne]; exact e2))
  have nDH : H D = none := by
    cases e : H D with
    | none => rfl
    | some o =>
      rcases x1.2 aρ s1 D o hneρ e with q | ⟨_, _, _, q⟩ <;> rw [q] at nD <;> cases nD
  have nDHe : He D = none := by
    obtain ⟨_, _, _, rp1⟩ := r1
    exact rp1.ext.there nD
  refine ⟨fun i m H2 => m = ds.length - i ∧ i ≤ ds.length ∧ Xt (hide H1 O) (hide H2 (D :: O)) ∧ XtB aρ H1 H2 ∧ WRep K Ts ρ He (D :: O) σ H2 en ∧ ∃ acc done, H2 D = some (.lst acc) ∧ DpAll K (hide H2 (D :: O)) acc done ∧ acc.length ≤ i ∧ wlcGo b t F (wipeE en vs) (ds.drop i) fun o => Qd (.list (done ++ o)),
    ⟨ds.length, by simp, Nat.zero_le _, x0, .of (Xt.upd nD), rD, [], [], upd_same, .nil, Nat.zero_le _, by simpa using hgo0⟩, fun i m H2 hW => ?_⟩
  obtain ⟨rfl, hi, x12, xb, r2, acc, done, hD, ha, hal, hgo⟩ := hW
  have occ2 : ∀ b ∈ D :: O, H2 b ≠ none ∧ ∀ ps, H2 b ≠ some (.tbl ps) := r2.occ
  obtain ⟨g1, g2, g3⟩ := gv (D :: O) H2 x12 (x12.trans hide_out) occ2
  by_cases hlt : i < ds.length
  · refine .inr ⟨g1 i hlt, fun H' => Xt (hide H1 O) (hide H' (D :: O)) ∧ XtB aρ H1 H' ∧ WRep K Ts ρ He (D :: O) σ H' en ∧ ∃ acc done, H' D = some (.lst acc) ∧ DpAll K (hide H' (D :: O)) acc done ∧ acc.length ≤ i + 1 ∧ wlcGo b t F (wipeE en vs) (ds.drop (i + 1)) fun o => Qd (.list (done ++ o)),
      fun H' ⟨a, c⟩ => ⟨ds.length - (i + 1), by omega, rfl, hlt, a, c⟩, fun x H3 hy => ?_⟩
    obtain ⟨d, hd, x23, t23, qd⟩ := g3 i x H3 hlt hy
    have r3 := r2.go x23 (t23 r2.tabs')
    rw [List.drop_eq_getElem_cons hlt] at hgo
    have hd' : ds[i] = d := by rw [List.getElem?_eq_getElem hlt] at hd; exact Option.some.inj hd
    rw [hd'] at hgo
    obtain ⟨e1, hb, hgo1⟩ := hgo
    refine ⟨He, D :: O, _, d, e1, r3.wipe hρ, qd, hb, fun σ2 r4 hw => ⟨hw.trans (wipe_wipe _ _), ?_⟩⟩
    have hsame : ∀ j, j ∉ vs → σ2[j]? = σ[j]? := fun j hj => by rw [← wipe_out hj, hw, wipe_wipe, wipe_out hj]
    have hown : ∀ (j : Nat) (es : List PyData), j ≠ ρ → en[j]? = some (Slot.own es) → e1[j]? = some (Slot.own es) ∧ σ2[j]? = σ[j]? := fun j es hj h1 => by
      have hjv : j ∉ vs := fun z => hno j z es h1
      exact ⟨by rw [hbv d _ e1 j hjv hb, wipeE_out hjv]; exact h1, hsame j hjv⟩
    have s1' : σ2[ρ]? = some (some (V.ref aρ)) := by rw [hsame ρ hρ]; exact s1
    have hD3 : H3 D = some (.lst acc) := x23.get D _ hD (fun _ z => nomatch z)
    refine ⟨He, D :: O, e1, _, r4, hgo1, fun k H4 hk r5 x34 => ?_⟩
    have hD4 : H4 D = some (.lst acc) := by
      rcases x34.2 aρ s1' D _ hneρ hD3 with q | ⟨_, _, z, _⟩
      · exact q
      · cases z
    have xh24 : Xt (hide H2 (D :: O)) (hide H4 (D :: O)) := (hide_mono x23).trans x34.1
    have xb4 : XtB aρ H1 H4 := (xb.trans (.of x23)).trans (x34.2 aρ s1')
    cases k with
    | false =>
      simp only [Bool.false_eq_true, if_false] at hk ⊢
      exact ⟨x12.trans xh24, xb4, r3.join r5 x34.1 (hsame ρ hρ) hown, acc, done, hD4, DpAll.mono xh24 ha, by omega, hk⟩
    | true =>
      simp only [if_true] at hk ⊢
      refine ⟨He, D :: O, e1, _, r5, hk, fun y v H5 hy5 r6 q6 x45 => ?_⟩
      have hD5 : H5 D = some (.lst acc) := by
        rcases x45.2 aρ s1' D _ hneρ hD4 with q | ⟨_, _, z, _⟩
        · exact q
        · cases z
      have xh25 := xh24.trans x45.1
      have xb5 : XtB aρ H1 H5 := xb4.trans (x45.2 aρ s1')
      have hu : Xt (hide H5 (D :: O)) (hide (upd H5 D (.lst (acc ++ [v]))) (D :: O)) := hide_upd hDm
      have r7 := r3.join r6 (x34.trans x45).1 (hsame ρ hρ) hown
      refine ⟨acc, hD5, by rw [sizeLine_eq]; omega, x12.trans (xh25.trans hu), fun bb o hb2 e => ?_, r7.grow hDm hD5 nDHe noD, acc ++ [v], done ++ [y], upd_same, DpAll.app (DpAll.mono (xh25.trans hu) ha) (.cons (Dp.mono hu q6) .nil), by rw [List.length_append]; simp; omega, by simpa using hy5⟩
      have hne : bb ≠ D := ne_of_none e nD
      rw [upd_ne hne]
      exact xb5 bb o hb2 e
  · have hie : i = ds.length := by omega
    subst hie
    rw [List.drop_of_length_le (Nat.le_refl _)] at hgo
    have hq : Qd (.list done) := by simpa [wlcGo] using hgo
    refine .inl ⟨g2, kk done D acc H2 hq (r2.unhide noD) nDH hD ha (x1.1.trans x12) fun r hr => ?_⟩
    have : r = aρ := by rw [s1] at hr; cases hr; rfl
    subst this
    exact (x1.2 r s1).trans xb
end
section
variable {X : Cx} {Ts : TsT} {ρ : Nat} {pos p : Pos} {e elt tg iter : Expr} {ifs : List Expr} {scope : Scope} {own : List (Str × Nat)} {it : En → (List PyData → Prop) → Prop} {b : PyData → En → Option En} {t : En → (Bool → Prop) → Prop} {F : WF}
theorem wnew_w {K : PySem.W.Frag} {σ : St} {H : Hp} {Q : VK} (hl : ∀ en Qd, F en Qd → F en fun d => (∃ ds, d = .list ds) ∧ Qd d) (h : tW K Ts ρ F σ H Q) : tWNew K Ts ρ F σ H Q := by
  obtain ⟨He, O, en, Qd, rp, hF, kk⟩ := h
  refine ⟨He, O, en, _, rp, hl _ _ hF, fun ds a vs H' ⟨_, hq⟩ r' na ha q x xb => ?_⟩
  have nO : a ∉ O := fun z => (rp.occ a z).1 na
  have hs : Xt (hide H' (a :: O)) (hide H' O) := hide_sub fun b hb => List.mem_cons_of_mem _ hb
  exact kk _ _ H' hq r' (.lst (.inl (.inl (hide_of nO ha))) (DpAll.mono hs q)) ⟨x.trans hs, xb⟩
theorem wlcGo_imp {f : WF} (hf : ∀ en Q Q', (∀ d, Q d → Q' d) → f en Q → f en Q') (ht : ∀ en Q Q', (∀ d, Q d → Q' d) → t en Q → t en Q') : ∀ (ds : List PyData) (en : En) (Q Q' : List PyData → Prop), (∀ o, Q o → Q' o) → wlcGo b t f en ds Q → wlcGo b t f en ds Q'
  | [], _, _, _, hq, h => hq _ h
  | d :: r, en, Q, Q', hq, ⟨e1, h1, h2⟩ => ⟨e1, h1, ht _ _ _ (fun k hk => by
      cases k with
      | false => simp only [Bool.false_eq_true, if_false] at hk ⊢; exact wlcGo_imp hf ht r en Q Q' hq hk
      | true => simp only [if_true] at hk ⊢; exact hf _ _ _ (fun y hy => wlcGo_imp hf ht r en _ _ (fun o ho => hq _ ho) hy) hk) h2⟩
def Mn (F : WF) : Prop := ∀ en Q Q', (∀ d, Q d → Q' d) → F en Q → F en Q'
def MnT (F : En → (Bool → Prop) → Prop) : Prop := ∀ en Q Q', (∀ d, Q d → Q' d) → F en Q → F en Q'
def MnI (F : En → (List PyData → Prop) → Prop) : Prop := ∀ en Q Q', (∀ d, Q d → Q' d) → F en Q → F en Q'
theorem mnt_yes : MnT wYes := fun _ _ _ h q => h _ q
theorem wlc_list {f : WF} {vs : List Nat} (hf : Mn f) (ht : MnT t) (hi : MnI it) : ∀ en Qd, wLc it b t f vs en Qd → wLc it b t f vs en fun d => (∃ ds, d = .list ds) ∧ Qd d := fun en Qd ⟨h0, h⟩ =>
  ⟨h0, hi _ _ _ (fun ds ⟨h1, h2⟩ => ⟨h1, wlcGo_imp hf ht ds _ _ _ (fun o ho => ⟨⟨o, rfl⟩, ho⟩) h2⟩) h⟩
theorem we_lc (hc : X.calm = true) (hN : X.N.Nodup) (hi : WI X Ts ρ tg iter it) (ok : BlkOk X.N X.env.scope scope own) (hρ : ρ ∉ own.map (·.2)) (hbo : BOk ρ b) (hbv : ∀ (d : PyData) (en e1 : En) (j : Nat), j ∉ own.map (·.2) → b d en = some e1 → e1[j]? = en[j]?)
    (hg : ∀ s H C cl fp, DG (BX X scope s H C cl fp) Ts tg (own.map (·.2)) b) (ht : ∀ s H C cl fp, PTs (BX X scope s H C cl fp) ifs (tWT X.K Ts ρ t))
    (he : ∀ s H C cl fp, WE (BX X scope s H C cl fp) Ts ρ elt F) (mf : Mn F) (mt : MnT t) (mi : MnI it) (hs : ∀ x, foldedSetIterable iter X.env x = pure x := by intro _; rfl) : WE X Ts ρ (.ListComp elt [⟨tg, iter, ifs, 0⟩] scope pos) (wLc it b t F (own.map (·.2))) :=
  PE.imp (pe_lc hc hN hi ok (fun s H C cl fp => wg_of (hg s H C cl fp) hbo) (fun s H C cl fp => ht s H C cl fp) (fun s H C cl fp => he s H C cl fp) hs) fun σ H Q h => wlc_w hρ hbo hbv (wnew_w (wlc_list mf mt mi) h)
theorem bName_out {i : Nat} : ∀ (d : PyData) (en e1 : En) (j : Nat), j ∉ [i] → bName i d en = some e1 → e1[j]? = en[j]? := fun d en e1 j hj h => by
  unfold bName at h
  split at h
  · cases h
    rw [List.getElem?_set_ne (fun z => hj (by rw [z]; exact List.mem_cons_self))]
  · cases h
end
section
variable {P : Program} {w : World} {K : PySem.W.Frag} {mg : Str → Option Value} {base : Heap} {Ts : TsT}
def runW (n : Nat) (F : WF) : List PyData → (PyData → Prop) → Prop := fun ds Q => F (Slot.no :: (ds.map Slot.dat ++ List.replicate (n - 1 - ds.length) Slot.no)) Q
theorem start_get {N : List Str} {vs : List V} {i : Nat} {v : V} (h : vs[i]? = some v) : (L2.start N vs)[i]? = some (some v) := by
  have hi : i < vs.length := (List.getElem?_eq_some_iff.mp h).1
  unfold L2.start
  rw [List.getElem?_append_left (by simpa using hi), List.getElem?_map, h]
  rfl
theorem wrep_start {N : List Str} {n : Nat} {vs : List V} {H : Hp} {O : List Addr} {a : Addr} {vs' : List V} {ds rw : List PyData} {ws : List V} (hn : vs.length = n + 1) (hN : vs.length ≤ N.length) (e1 : vs = .ref a :: vs') (e2 : a ∈ O) (e3 : H a = some (.lst ws)) (e4 : DpAll K (hide H O) ws rw) (e6 : DpAll K (hide H O) vs' ds) (e7 : Tb Ts H) (e8 : ∀ b ∈ O, H b ≠ none ∧ ∀ ps, H b ≠ some (.tbl ps)) :
    Rep K Ts (fun b => if b = a then none else H b) O (L2.start N vs) H (Slot.own rw :: (ds.map Slot.dat ++ List.replicate (N.length - 1 - ds.length) Slot.no)) := by
  subst e1
  have hl := DpAll.len e6
  have hlen : (Slot.own rw :: (ds.map Slot.dat ++ List.replicate (N.length - 1 - ds.length) Slot.no)).length = (L2.start N (V.ref a :: vs')).length := by
    simp [L2.start, hl]; simp at hN; omega
  refine ⟨hlen, fun i d h => ?_, fun i es h => ?_, fun i j es es' b h1 h2 h3 h4 => ?_, e8, fun b o e => ?_, e7⟩
  · cases i with
    | zero => cases h
    | succ i =>
      rw [List.getElem?_cons_succ] at h
      by_cases hi : i < ds.length
      · rw [List.getElem?_append_left (by simpa using hi), List.getElem?_map] at h
        obtain ⟨d', h1, h2⟩ := Option.map_eq_some_iff.mp h
        cases h2
        obtain ⟨v, h3, h4⟩ := DpAll.get' e6 h1
        exact ⟨v, start_get (by rw [List.getElem?_cons_succ]; exact h3), h4⟩
      · rw [List.getElem?_append_right (by simpa using hi), List.getElem?_replicate] at h
        split at h <;> cases h
  · cases i with
    | zero =>
      cases h
      exact ⟨a, ws, start_get rfl, e2, if_pos rfl, e3, e4⟩
    | succ i =>
      rw [List.getElem?_cons_succ] at h
      by_cases hi : i < ds.length
      · rw [List.getElem?_append_left (by simpa using hi), List.getElem?_map] at h
        obtain ⟨d', h1, h2⟩ := Option.map_eq_some_iff.mp h
        cases h2
      · rw [List.getElem?_append_right (by simpa using hi), List.getElem?_replicate] at h
        split at h <;> cases h
  · have zero : ∀ {k : Nat} {es : List PyData}, (Slot.own rw :: (ds.map Slot.dat ++ List.replicate (N.length - 1 - ds.length) Slot.no))[k]? = some (Slot.own es) → k = 0 := fun {k es} h => by
      cases k with
      | zero => rfl
      | succ i =>
        rw [List.getElem?_cons_succ] at h
        by_cases hi : i < ds.length
        · rw [List.getElem?_append_left (by simpa using hi), List.getElem?_map] at h
          obtain ⟨d', h1, h2⟩ := Option.map_eq_some_iff.mp h
          cases h2
        · rw [List.getElem?_append_right (by simpa using hi), List.getElem?_replicate] at h
          split at h <;> cases h
    rw [zero h1, zero h2]
  · split at e
    · cases e
    · exact .inl e
theorem DF.okW {x qual : Str} {st : Stmt} {f : Addr} {fd : FuncData} {cdv : Value} {N ps : List Str} {k n : Nat} {F : WF} {e : Expr} {pos : Pos} (D : DF K x qual st f fd cdv) (S : FnScope N ps (defScope st)) (hn : ps.length = n + 1) (hN : n + 1 ≤ N.length) (hb : defBody st = [.Return (some e) pos])
    (hbody : ∀ (A : Around) (outer : List Env) (s : Shared) (H : Hp) (E : XK), Room k (A.deeper (envOfC qual (defScope st) s.heap.objs.size f cdv)) → WE (cxOf CX0 P w K mg base N qual (defScope st) f cdv A outer s H E).nox Ts 0 e F) :
    FnOk P w K mg base CX0 (k + 1) f fd ps (spW K Ts n (runW N.length F)) := by
  obtain ⟨oc, od, dV, kV, doc, pm, an, ct, osl, rfl, lk, hcd⟩ := D.ex
  refine fn_of lk hcd S (fun vs H Q E h => h.1.trans hn.symm) fun A outer s H vs Q E hr hsp => ?_
  rw [hb]
  refine ⟨_, (pss_one (ps_ret (hbody A outer s H E hr))).nox, ?_⟩
  obtain ⟨hl, a, vs', O, ds, rw', ws, Qd, e1, e2, e3, e4, e5, e6, e7, e8, hF, kk⟩ := hsp
  have rp := wrep_start (N := N) hl (by omega) e1 e2 e3 e4 e6 e7 e8
  have hs : (L2.start N vs)[0]? = some (some (V.ref a)) := by rw [e1]; exact start_get rfl
  refine ⟨fun b => if b = a then none else H b, O, _, Qd, ⟨?_, rw', e5, ?_⟩, hF, fun d v H' hd r' q x => ?_⟩
  · simp
  · exact rp
  · obtain ⟨a', rw2, ws2, s1, s2, s3, s4, s5, s6⟩ := r'.at
    rw [hs] at s1
    cases s1
    exact kk d v H' rw2 ws2 hd s6 s4 s5 (x.2 a hs) r'.tabs' q
end
abbrev ZF := En → (En → Prop) → (PyData → En → Prop) → Prop
def tZ (K : PySem.W.Frag) (Ts : TsT) (ρ : Nat) (F : ZF) : TS := fun D σ H => ∃ He O en N R a, Rep K Ts He O σ H en ∧ σ[ρ]? = some (some (V.ref a)) ∧ F en N R ∧
  (∀ en' σ' H', N en' → Rep K Ts He O σ' H' en' → σ'[ρ]? = some (some (V.ref a)) → XtB a H H' → D.nx σ' H') ∧
  (∀ d en' v σ' H', R d en' → Rep K Ts He O σ' H' en' → σ'[ρ]? = some (some (V.ref a)) → XtB a H H' → Dp K (hide H' O) v d → D.rt v H')
abbrev ZS (X : Cx) (Ts : TsT) (ρ : Nat) (st : Stmt) (F : ZF) : Prop := PS X st (tZ X.K Ts ρ F)
abbrev ZSs (X : Cx) (Ts : TsT) (ρ : Nat) (st : List Stmt) (F : ZF) : Prop := PSs X st (tZ X.K Ts ρ F)
def zNil : ZF := fun en N _ => N en
def zSeq (F G : ZF) : ZF := fun en N R => F en (fun e1 => G e1 N R) R
def zSet (i : Nat) (f : En → Option PyData) : ZF := fun en N _ => ∃ d e1, f en = some d ∧ bName i d en = some e1 ∧ N e1
def zRow (ρ c : Nat) (f : En → Option PyData) : ZF := fun en N _ => ∃ d ds, f en = some d ∧ en[ρ]? = some (Slot.own ds) ∧ c < ds.length ∧ N (en.set ρ (.own (ds.set c d)))
def zIf (t : En → Option Bool) (F G : ZF) : ZF := fun en N R => ∃ b, t en = some b ∧ if b = true then F en N R else G en N R
def zRet (f : En → Option PyData) : ZF := fun en _ R => ∃ d, f en = some d ∧ R d en
theorem XtB.refl {a : Addr} (H : Hp) : XtB a H H := .of (Xt.refl H)
theorem DpAll.set {K : PySem.W.Frag} {H : Hp} {v : V} {d : PyData} : ∀ {vs : List V} {ds : List PyData} (c : Nat), DpAll K H vs ds → Dp K H v d → DpAll K H (vs.set c v) (ds.set c d)
  | _, _, _, .nil, _ => .nil
  | _, _, 0, .cons _ b, q => .cons q b
  | _, _, n + 1, .cons a b, q => .cons a (DpAll.set n b q)
theorem Rep.own_set {K : PySem.W.Frag} {Ts : TsT} {He : Hp} {O : List Addr} {σ : St} {H : Hp} {en : En} {i : Nat} {a : Addr} {vs vs' : List V} {ds ds' : List PyData} (rp : Rep K Ts He O σ H en) (hd : en[i]? = some (Slot.own ds)) (p1 : σ[i]? = some (some (V.ref a))) (p2 : a ∈ O) (p3 : He a = none) (p4 : H a = some (.lst vs)) (q : DpAll K (hide H O) vs' ds') :
    Rep K Ts He O σ (upd H a (.lst vs')) (en.set i (.own ds')) := by
  have hi : i < en.length := (List.getElem?_eq_some_iff.mp hd).1
  have hu : Xt (hide H O) (hide (upd H a (.lst vs')) O) := hide_upd p2
  refine ⟨by simp [rp.len], fun j d' h => ?_, fun j es h => ?_, fun j kk es es' aa h1 h2 h3 h4 => ?_, fun b hb => ?_, fun b o e => ?_, rp.tabs.upd fun u z => by rw [p4] at z; cases z; exact lst_noc⟩
  · have hj : i ≠ j := fun z => by subst z; rw [List.getElem?_set_self hi] at h; cases h
    rw [List.getElem?_set_ne hj] at h
    obtain ⟨u, q1, q2⟩ := rp.dat j d' h
    exact ⟨u, q1, Dp.mono hu q2⟩
  · by_cases hj : i = j
    · subst hj
      rw [List.getElem?_set_self hi] at h
      cases h
      exact ⟨a, vs', p1, p2, p3, upd_same, DpAll.mono hu q⟩
    · rw [List.getElem?_set_ne hj] at h
      obtain ⟨a', vs2, q1, q2, q3, q4, q5⟩ := rp.own j es h
      have hne : a' ≠ a := fun z => hj (by subst z; exact rp.inj i j ds es a' hd h p1 q1)
      exact ⟨a', vs2, q1, q2, q3, by rw [upd_ne hne]; exact q4, DpAll.mono hu q5⟩
  · have toOwn : ∀ (j : Nat) (es : List PyData), (en.set i (Slot.own ds'))[j]? = some (Slot.own es) → ∃ es', en[j]? = some (Slot.own es') := fun j es h => by
      by_cases hj : i = j
      · subst hj; exact ⟨ds, hd⟩
      · rw [List.getElem?_set_ne hj] at h; exact ⟨es, h⟩
    obtain ⟨e1, g1⟩ := toOwn j es h1
    obtain ⟨e2, g2⟩ := toOwn kk es' h2
    exact rp.inj j kk e1 e2 aa g1 g2 h3 h4
  · by_cases z : b = a
    · rw [z, upd_same]
      exact ⟨by simp, fun ps z => nomatch z⟩
    · rw [upd_ne z]
      exact rp.occ b hb
  · have hne : b ≠ a := fun z => by rw [z, p3] at e; cases e
    rw [upd_ne hne]
    exact rp.ext b o e
theorem ixN_at {n j : Nat} (hj : j < n) : ixN n (j : Int) = some j := by
  unfold ixN
  rw [if_pos (by omega), if_pos (by omega)]
  simp
section
variable {X : Cx} {Ts : TsT} {ρ : Nat} {pos : Pos} {st : Stmt} {rest : List Stmt} {F G : ZF} {e : Expr} {f g : En → Option PyData}
theorem z_nil : ZSs X Ts ρ [] zNil := PSs.imp pss_nil fun D σ H ⟨He, O, en, N, R, a, rp, hs, hF, k, _⟩ => k en σ H hF rp hs (XtB.refl H)
theorem z_cons (h1 : ZS X Ts ρ st F) (h2 : ZSs X Ts ρ rest G) : ZSs X Ts ρ (st :: rest) (zSeq F G) := PSs.imp (pss_cons h1 h2) fun D σ H ⟨He, O, en, N, R, a, rp, hs, hF, k, l⟩ =>
  ⟨He, O, en, _, R, a, rp, hs, hF, fun e1 σ1 H1 hn r1 s1 x1 => ⟨He, O, e1, N, R, a, r1, s1, hn, fun e2 σ2 H2 hn2 r2 s2 x2 => k e2 σ2 H2 hn2 r2 s2 (x1.trans x2), fun d e2 v σ2 H2 hr r2 s2 x2 q => l d e2 v σ2 H2 hr r2 s2 (x1.trans x2) q⟩, l⟩
theorem z_one (h1 : ZS X Ts ρ st F) : ZSs X Ts ρ [st] F := pss_one h1
theorem z_set {i : Nat} {x : Str} {pos' : Pos} (hN : X.N.Nodup) (hi : X.N[i]? = some x) (hx : Loc X.env.scope x) (hρ : i ≠ ρ) (he : DE X Ts e f) (hs : swapsWith e (some (.Name x pos')) pos.line X.env = pure false := by rfl) (hf : X.fn x = true ∨ X.env.scope.names.lookup x = some .local := by first | exact .inl rfl | exact .inr rfl | assumption) :
    ZS X Ts ρ (.Assign [.Name x pos'] e pos) (zSet i f) := PS.imp (ps_set hN hi hx he hs hf) fun D σ H ⟨He, O, en, N, R, a, rp, hs, ⟨d, e1, h1, h2, hn⟩, k, _⟩ => by
  refine tD.of rp h1 fun v H1 x1 r1 q1 => ?_
  unfold bName at h2
  split at h2
  · rename_i hi'
    cases h2
    exact k _ _ H1 hn (r1.setD hi' q1) (by rw [List.getElem?_set_ne hρ]; exact hs) (.of x1)
  · cases h2
theorem z_row {c : Nat} {x : Str} {px ps pc : Pos} {kc : Nat} (hN : X.N[ρ]? = some x) (hv : Vis X.env.scope x) (he : DE X Ts e f) (hd : (x == ("__debug__" : Str)) = false := by decide) (hcd : (x == ("__classdict__" : Str)) = false := by decide)
    (hs : swapsWithSole [.Subscript (.Name x px) (.Constant (.int (c : Int)) kc pc) ps] e pos.line X.env = pure false := by rfl) (hw : swappedStores [.Subscript (.Name x px) (.Constant (.int (c : Int)) kc pc) ps] e X.env = pure none := by rfl) :
    ZS X Ts ρ (.Assign [.Subscript (.Name x px) (.Constant (.int (c : Int)) kc pc) ps] e pos) (zRow ρ c f) := PS.imp (ps_asg he (pg_sub (pe_var hN hv hd hcd) pe_int set_list) hs hw) fun D σ H ⟨He, O, en, N, R, a, rp, hs, ⟨d, ds, h1, h2, h3, hn⟩, k, _⟩ => by
  refine tD.of rp h1 fun v H1 x1 r1 q1 => ?_
  obtain ⟨a', vs, p1, p2, p3, p4, p5⟩ := r1.own ρ ds h2
  rw [hs] at p1
  cases p1
  have hl : c < vs.length := by rw [DpAll.len p5]; exact h3
  refine ⟨.ref a, hs, a, vs, c, c, rfl, rfl, p4, ixN_at hl, ?_⟩
  exact k _ _ _ hn (r1.own_set h2 hs p2 p3 p4 (DpAll.set c p5 q1)) hs ((XtB.of x1).trans fun b o hb e => .inl (by rw [upd_ne hb]; exact e))
theorem z_if {c : Expr} {a b : List Stmt} {t : En → Option Bool} (hc : DT X Ts c t) (ha : ZSs X Ts ρ a F) (hb : ZSs X Ts ρ b G) : ZS X Ts ρ (.If c a b pos) (zIf t F G) := PS.imp (ps_if hc ha hb) fun D σ H ⟨He, O, en, N, R, a, rp, hs, ⟨b, h1, h2⟩, k, l⟩ => by
  refine tT.of rp h1 fun H1 x1 r1 => ?_
  cases b with
  | true => exact iteT ⟨He, O, en, N, R, a, r1, hs, h2, fun e2 σ2 H2 hn2 r2 s2 x2 => k e2 σ2 H2 hn2 r2 s2 ((XtB.of x1).trans x2), fun d e2 v σ2 H2 hr r2 s2 x2 q => l d e2 v σ2 H2 hr r2 s2 ((XtB.of x1).trans x2) q⟩
  | false => exact iteF ⟨He, O, en, N, R, a, r1, hs, h2, fun e2 σ2 H2 hn2 r2 s2 x2 => k e2 σ2 H2 hn2 r2 s2 ((XtB.of x1).trans x2), fun d e2 v σ2 H2 hr r2 s2 x2 q => l d e2 v σ2 H2 hr r2 s2 ((XtB.of x1).trans x2) q⟩
theorem z_ret (he : DE X Ts e f) : ZS X Ts ρ (.Return (some e) pos) (zRet f) := PS.imp (ps_ret he) fun D σ H ⟨He, O, en, N, R, a, rp, hs, ⟨d, h1, hr⟩, k, l⟩ =>
  tD.of rp h1 fun v H1 x1 r1 q1 => l d en v σ H1 hr r1 hs (.of x1) q1
def cPow (i j : Int) : Bool := decide (0 ≤ j ∧ j ≤ 1000000 ∧ i.natAbs < 2 ^ 64)
def fPow := f2 (gIc cPow fun i j => .int (i ^ j.toNat))
theorem d_pow {a b : Expr} (ha : DE X Ts a f) (hb : DE X Ts b g) : DE X Ts (.BinOp a .Pow b pos) (fPow f g) := d_i (fun i j h => show CPow i j from @of_decide_eq_true (0 ≤ j ∧ j ≤ 1000000 ∧ i.natAbs < 2 ^ 64) _ h) (fun _ _ _ _ => .int _) (pe_op op_pow ha hb)
end
section
variable {P : Program} {w : World} {K : PySem.W.Frag} {mg : Str → Option Value} {base : Heap} {Ts : TsT}
def runZ (n : Nat) (F : ZF) : List PyData → (PyData → Prop) → Prop := fun ds Q => ∀ rw, RowOk rw → F (Slot.own rw :: (ds.map Slot.dat ++ List.replicate (n - 1 - ds.length) Slot.no)) (fun _ => False) fun d en' => (∃ rw', RowOk rw' ∧ en'[0]? = some (Slot.own rw')) ∧ Q d
theorem DF.okZ {x qual : Str} {st : Stmt} {f : Addr} {fd : FuncData} {cdv : Value} {N ps : List Str} {k n : Nat} {F : ZF} (D : DF K x qual st f fd cdv) (S : FnScope N ps (defScope st)) (hn : ps.length = n + 1) (hN : n + 1 ≤ N.length)
    (hbody : ∀ (A : Around) (outer : List Env) (s : Shared) (H : Hp) (E : XK), Room k (A.deeper (envOfC qual (defScope st) s.heap.objs.size f cdv)) → ZSs (cxOf CX0 P w K mg base N qual (defScope st) f cdv A outer s H E).nox Ts 0 (defBody st) F) :
    FnOk P w K mg base CX0 (k + 1) f fd ps (spW K Ts n (runZ N.length F)) := by
  obtain ⟨oc, od, dV, kV, doc, pm, an, ct, osl, rfl, lk, hcd⟩ := D.ex
  refine fn_of lk hcd S (fun vs H Q E h => h.1.trans hn.symm) fun A outer s H vs Q E hr hsp => ?_
  refine ⟨_, (hbody A outer s H E hr).nox, ?_⟩
  obtain ⟨hl, a, vs', O, ds, rw', ws, Qd, e1, e2, e3, e4, e5, e6, e7, e8, hF, kk⟩ := hsp
  have rp := wrep_start (N := N) hl (by omega) e1 e2 e3 e4 e6 e7 e8
  have hs : (L2.start N vs)[0]? = some (some (V.ref a)) := by rw [e1]; exact start_get rfl
  refine ⟨fun b => if b = a then none else H b, O, _, _, _, a, rp, hs, hF rw' e5, fun _ _ _ h => h.elim, fun d en' v σ' H' ⟨⟨rw2, h1, h2⟩, h3⟩ r' s' x' q => ?_⟩
  obtain ⟨a', ws2, s1, s2, s3, s4, s5⟩ := r'.own 0 rw2 h2
  rw [s'] at s1
  cases s1
  exact kk d v H' rw2 ws2 h3 h1 s4 s5 x' r'.tabs q
end
abbrev rw_ (k : Int) : En → Option PyData := fIx (fOwn 0) (fLit (.int k))
abbrev li (k : Int) : En → Option PyData := fLit (.int k)
def F_taken : ZF := zSeq (zIf (fT (fGt (rw_ 3) (li 0))) (zSeq (zSet 2 (fMod (fInt (rw_ 3)) (fVar 1))) (zSeq (zRow 0 3 (fDiv (rw_ 3) (fVar 1))) (zRet (fVar 2)))) zNil)
  (zSeq (zRow 0 1 (fPlus (rw_ 1) (li 1)))
  (zSeq (zIf (fT (fGt (rw_ 1) (fLen (rw_ 0)))) (zSeq (zRow 0 2 (fMod (fInt (fPlus (fMul (rw_ 2) (li 48271)) (li 11))) (li 2147483647))) (zRet (fMod (fInt (fDiv (rw_ 2) (li 7))) (fVar 1)))) zNil)
  (zSeq (zSet 3 (fIx (rw_ 0) (fSub (rw_ 1) (li 1))))
  (zSeq (zRow 0 2 (fMod (fInt (fPlus (fPlus (fMul (rw_ 2) (li 48271)) (fVar 3)) (li 11))) (li 2147483647)))
  (zSeq (zIf (fT (fGe (fVar 3) (fPow (li 10) (li 18)))) (zRow 0 3 (fDiv (fVar 3) (fVar 1))) zNil)
  (zRet (fMod (fInt (fVar 3)) (fVar 1))))))))
def cTaken : List PyData → (PyData → Prop) → Prop := fun ds Q => ∃ m : Int, ds = [.int m] ∧ 0 < m ∧ m ≤ 1000000 ∧ ∀ r, 0 ≤ r → r < m → Q (.int r)
theorem rowOk {ns : List Int} {i m c : Int} (h1 : ns.length ≤ 63) (h2 : 0 ≤ i) (h3 : 0 ≤ m) (h4 : m < 2147483647) (h5 : 0 ≤ c) : RowOk [.list (ns.map .int), .int i, .int m, .int c] := ⟨ns, i, m, c, rfl, h1, h2, h3, h4, h5⟩
theorem modA {f g : En → Option PyData} {en : En} {a b : Int} (h1 : f en = some (.int a)) (h2 : g en = some (.int b)) (hb : 0 < b) : fMod f g en = some (.int (a % b)) := by
  unfold fMod f2
  rw [h1, h2]
  show (if cMod a b = true then _ else _) = _
  rw [if_pos (by unfold cMod; exact decide_eq_true (by omega))]
  show some (PyData.int (a.fmod b)) = _
  rw [Int.fmod_eq_emod_of_nonneg _ (by omega)]
theorem divA {f g : En → Option PyData} {en : En} {a b : Int} (h1 : f en = some (.int a)) (h2 : g en = some (.int b)) (hb : 0 < b) (hl : b.natAbs.log2 < 9000) : fDiv f g en = some (.int (a / b)) := by
  unfold fDiv f2
  rw [h1, h2]
  show (if cDiv a b = true then _ else _) = _
  rw [if_pos (by unfold cDiv; exact decide_eq_true ⟨hb, hl⟩)]
theorem mulA {f g : En → Option PyData} {en : En} {a b : Int} (h1 : f en = some (.int a)) (h2 : g en = some (.int b)) (hl : a.natAbs.log2 + b.natAbs.log2 < 1000000) : fMul f g en = some (.int (a * b)) := by
  unfold fMul f2
  rw [h1, h2]
  show (if cMul a b = true then _ else _) = _
  rw [if_pos (by unfold cMul; exact decide_eq_true hl)]
theorem intA {f : En → Option PyData} {en : En} {a : Int} (h1 : f en = some (.int a)) : fInt f en = some (.int a) := by
  unfold fInt f1
  rw [h1]
  rfl
theorem plusA {f g : En → Option PyData} {en : En} {a b : Int} (h1 : f en = some (.int a)) (h2 : g en = some (.int b)) : fPlus f g en = some (.int (a + b)) := by
  unfold fPlus f2
  rw [h1, h2]
  rfl
theorem subA {f g : En → Option PyData} {en : En} {a b : Int} (h1 : f en = some (.int a)) (h2 : g en = some (.int b)) : fSub f g en = some (.int (a - b)) := by
  unfold fSub f2
  rw [h1, h2]
  rfl
theorem log2_le {a : Int} {k : Nat} (h : a.natAbs < 2 ^ k) (hk : 0 < k) : a.natAbs.log2 < k := by
  by_cases h0 : a.natAbs = 0
  · rw [h0]; simpa using hk
  · exact (Nat.log2_lt h0).mpr h
theorem taken_ok : ∀ ds Q, cTaken ds Q → runZ 4 F_taken ds Q := by
  rintro ds Q ⟨m, rfl, h0, h1, hq⟩ rw ⟨ns, i, mm, c, rfl, hn, hi, hm0, hm1, hc⟩
  have lm : m.natAbs.log2 < 9000 := Nat.lt_of_lt_of_le (log2_le (k := 20) (by omega) (by decide)) (by decide)
  refine ⟨decide (0 < c), rfl, ?_⟩
  by_cases hcp : 0 < c
  · rw [if_pos (by simpa using hcp)]
    refine ⟨_, _, modA (intA (a := c) rfl) (b := m) rfl h0, rfl, ?_⟩
    refine ⟨_, _, divA (a := c) rfl (b := m) rfl h0 lm, rfl, by simp, ?_⟩
    exact ⟨_, rfl, ⟨_, rowOk hn hi hm0 hm1 (Int.ediv_nonneg hc (by omega)), rfl⟩, hq _ (Int.emod_nonneg _ (by omega)) (Int.emod_lt_of_pos _ h0)⟩
  · rw [if_neg (by simpa using hcp)]
    refine ⟨_, _, rfl, rfl, by simp, ?_⟩
    refine ⟨decide ((ns.map PyData.int).length < i + 1), rfl, ?_⟩
    have lmm : mm.natAbs.log2 + (48271 : Int).natAbs.log2 < 1000000 := by
      have := log2_le (a := mm) (k := 31) (by omega) (by decide)
      have h2 : (48271 : Int).natAbs.log2 = 15 := by decide
      omega
    by_cases hl : ((ns.map PyData.int).length : Int) < i + 1
    · rw [if_pos (by simpa using hl)]
      refine ⟨_, _, modA (intA (plusA (mulA (a := mm) rfl (b := 48271) rfl lmm) (b := 11) rfl)) (b := 2147483647) rfl (by decide), rfl, by simp, ?_⟩
      refine ⟨_, modA (intA (divA rfl (b := 7) rfl (by decide) (by decide))) (b := m) rfl h0, ⟨_, rowOk hn (i := i + 1) (by omega) (Int.emod_nonneg _ (by decide)) (Int.emod_lt_of_pos _ (by decide)) hc, rfl⟩, hq _ (Int.emod_nonneg _ (by omega)) (Int.emod_lt_of_pos _ h0)⟩
    · rw [if_neg (by simpa using hl)]
      rw [List.length_map] at hl
      have hi2 : i.toNat < ns.length := by omega
      have hcell : fIx (rw_ 0) (fSub (rw_ 1) (li 1)) [Slot.own [.list (ns.map .int), .int (i + 1), .int mm, .int c], Slot.dat (.int m), Slot.no, Slot.no] = some (.int ns[i.toNat]) := by
        show ((fIx (rw_ 0) (fSub (rw_ 1) (li 1))) _) = _
        unfold fIx f2
        rw [subA (a := i + 1) (f := rw_ 1) rfl (b := 1) rfl]
        show (some (PyData.list (ns.map .int))).bind _ = _
        show atI (ns.map PyData.int) (i + 1 - 1) = _
        have e1 : i + 1 - 1 = (i.toNat : Int) := by omega
        rw [e1]
        unfold atI
        rw [ixN_at (by rw [List.length_map]; exact hi2)]
        show (ns.map PyData.int)[i.toNat]? = _
        rw [List.getElem?_map, List.getElem?_eq_getElem hi2]
        rfl
      refine ⟨_, _, hcell, rfl, ?_⟩
      refine ⟨_, _, modA (intA (plusA (plusA (mulA (a := mm) rfl (b := 48271) rfl lmm) (b := ns[i.toNat]) rfl) (b := 11) rfl)) (b := 2147483647) rfl (by decide), rfl, by simp, ?_⟩
      refine ⟨decide ((10 : Int) ^ 18 ≤ ns[i.toNat]), rfl, ?_⟩
      have hm2 : 0 ≤ (mm * 48271 + ns[i.toNat] + 11) % 2147483647 := Int.emod_nonneg _ (by decide)
      have hm3 : (mm * 48271 + ns[i.toNat] + 11) % 2147483647 < 2147483647 := Int.emod_lt_of_pos _ (by decide)
      by_cases hg : (10 : Int) ^ 18 ≤ ns[i.toNat]
      · rw [if_pos (by simpa using hg)]
        refine ⟨_, _, divA (a := ns[i.toNat]) rfl (b := m) rfl h0 lm, rfl, by simp, ?_⟩
        refine ⟨_, modA (intA (a := ns[i.toNat]) rfl) (b := m) rfl h0, ⟨_, rowOk hn (i := i + 1) (by omega) hm2 hm3 (Int.ediv_nonneg (by omega) (by omega)), rfl⟩, hq _ (Int.emod_nonneg _ (by omega)) (Int.emod_lt_of_pos _ h0)⟩
      · rw [if_neg (by simpa using hg)]
        refine ⟨_, modA (intA (a := ns[i.toNat]) rfl) (b := m) rfl h0, ⟨_, rowOk hn (i := i + 1) (by omega) hm2 hm3 hc, rfl⟩, hq _ (Int.emod_nonneg _ (by omega)) (Int.emod_lt_of_pos _ h0)⟩
section
variable {X : Cx} {Ts : TsT} {ρ : Nat} {pos : Pos} {e e2 : Expr} {F G : WF}
theorem op2_ix : Op2 X.K Ts (rIx X.K) gIx := fun x y v w d H O Q hg q1 q2 ht occ kk => by
  unfold gIx at hg
  cases q2 <;> try cases hg
  rename_i i
  obtain ⟨ds, h4, h5⟩ := Option.bind_eq_some_iff.mp hg
  cases x <;> simp only [items] at h4 <;> cases h4
  · cases q1 with
    | lst s a =>
      obtain ⟨u, h6, h7⟩ := atI_dp a h5
      exact .inl ⟨_, _, i, u, rfl, rfl, sqL_mono (fun o n e => (hide_some e).2) s, h6, kk u H (Xt.refl H) ht h7⟩
  · cases q1 with
    | tup s a =>
      obtain ⟨u, h6, h7⟩ := atI_dp a h5
      exact .inr (.inl ⟨_, _, i, u, rfl, rfl, sqT_mono (fun o n e => (hide_some e).2) s, h6, kk u H (Xt.refl H) ht h7⟩)
theorem we_ix (ha : WE X Ts ρ e F) (hb : WE X Ts ρ e2 G) (hs : PlainIx e2 := by exact fun _ _ => rfl) : WE X Ts ρ (.Subscript e e2 pos) (w2 gIx F G) := PE.imp (pe_ix ix_seq ha hb hs) (ww_2 op2_ix)
end
def F_pick (c : List PyData → (PyData → Prop) → Prop) : WF := w2 gIx (wP 0 (fVar 1)) (wDraw 1 c (wCons (wP 0 (fLen (fVar 1))) wNil))
def cPick : List PyData → (PyData → Prop) → Prop := fun ds Q => ∃ es, ds = [.list es] ∧ 0 < es.length ∧ es.length ≤ 64 ∧ ∀ d ∈ es, Q d
theorem pick_ok : ∀ ds Q, cPick ds Q → runW 2 (F_pick cTaken) ds Q := by
  rintro ds Q ⟨es, rfl, h0, h1, hq⟩
  refine ⟨.list es, fun rw => rfl, ?_⟩
  refine ⟨.int es.length, fun rw => rfl, rfl, (es.length : Int), rfl, by omega, by omega, fun r hr0 hr1 => ?_⟩
  obtain ⟨k, rfl⟩ : ∃ k : Nat, r = (k : Int) := ⟨r.toNat, by omega⟩
  have hi : k < es.length := by omega
  refine ⟨es[k], ?_, hq _ (List.getElem_mem hi)⟩
  show atI es k = _
  unfold atI
  rw [ixN_at hi]
  exact List.getElem?_eq_getElem hi
def wInt (i : Int) : WF := wP 0 (fLit (.int i))
def F_flow (ct cp : List PyData → (PyData → Prop) → Prop) : WF := wDraw 1 cp (wCons (wLst (wCons (wInt 0) (wCons (wInt 1) (wCons (wInt 5) (wCons (wInt 10) (wCons (wDraw 1 ct (wCons (wInt 30) wNil)) (wCons (wDraw 1 cp (wCons (wLst (wCons (wInt 100) (wCons (wInt 1000) wNil))) wNil)) wNil))))))) wNil)
def cFlow : List PyData → (PyData → Prop) → Prop := fun ds Q => ds = [] ∧ ∀ n : Int, 0 ≤ n → n ≤ 1000 → Q (.int n)
theorem flow_ok : ∀ ds Q, cFlow ds Q → runW 1 (F_flow cTaken cPick) ds Q := by
  rintro ds Q ⟨rfl, hq⟩
  refine ⟨.int 0, fun _ => rfl, .int 1, fun _ => rfl, .int 5, fun _ => rfl, .int 10, fun _ => rfl, .int 30, fun _ => rfl, rfl, 30, rfl, by decide, by decide, fun r h0 h1 => ?_⟩
  refine ⟨.int 100, fun _ => rfl, .int 1000, fun _ => rfl, by decide, rfl, [.int 100, .int 1000], rfl, by decide, by decide, fun d hd => ?_⟩
  refine ⟨by simp, rfl, [.int 0, .int 1, .int 5, .int 10, .int r, d], rfl, by simp, by simp, fun d2 hd2 => ?_⟩
  simp only [List.mem_cons, List.not_mem_nil, or_false] at hd hd2
  rcases hd2 with rfl | rfl | rfl | rfl | rfl | rfl
  · exact hq _ (by omega) (by omega)
  · exact hq _ (by omega) (by omega)
  · exact hq _ (by omega) (by omega)
  · exact hq _ (by omega) (by omega)
  · exact hq _ (by omega) (by omega)
  · rcases hd with rfl | rfl <;> exact hq _ (by omega) (by omega)
def Flows (ns : List Int) : Prop := ∀ n ∈ ns, 0 ≤ n ∧ n ≤ 1000
theorem tup_once (l : Addr) (items : Array Value) (n : Nat) (dd : Option Addr) (sl : Array (Option Value)) (x : Int) (u : Tok) (c0 : (decide (x < -(2 ^ 63)) || decide (x ≥ 2 ^ 63)) = false) (c1 : (items.isEmpty || x == 1) = true) :
    Meets (Builtin.«tuple.__mul__» ⟨[.ref l, .int x u], []⟩) (fun _ R s => s.heap.get? l = some { cls := .type "tuple", dict := dd, data := .seq items n, slots := sl } ∧ R (.ok (.ret (Value.ref l))) s) :=
  .of_wp fun prog w A R s h => by
    obtain ⟨hp, g, d, tk, os⟩ := s
    obtain ⟨hl, h⟩ := h
    have f1 := AutoSeq1.idx_int
    wp_walk using wpAny_loadPart' hl
    repeat (first
      | (refine wpAny_ite_false (decide_eq_false (by rw [c0]; exact Bool.false_ne_true)) ?_; wp_walk using wpAny_loadPart' hl)
      | (refine wpAny_ite_true (decide_eq_true (by rw [c1])) ?_; wp_walk using wpAny_loadPart' hl))
    all_goals first | exact ⟨_, rfl, h⟩ | trace_state
def rRepO (K : PySem.W.Frag) : R2 := fun x y H Q => ∃ l xs, x = .ref l ∧ y = .int 1 ∧ SqT K H l xs ∧ Q (.ref l) H
section
variable {X : Cx}
theorem op_repO : OpR X (binaryOp .Mult) (rRepO X.K) := by
  intro pins s σ H x y v u Q I rx ry h
  obtain ⟨l, xs, rfl, rfl, hT, q⟩ := h
  cases rx
  obtain ⟨t, rfl⟩ := ry
  obtain ⟨its, r, ⟨⟨cls, dd, data, sl⟩, ho, hc, n, hd⟩, hs⟩ := I.tuple hT
  simp only at hc hd
  subst hc hd
  refine wpAny_binaryOp_repeat_ref (T := "tuple") (U := "int") (by decide) ⟨_, ho, rfl⟩ (fun s' => typeIs_int s' 1 t) noFill_tuple_mul F.fills_int_mul F.slot_int_rmul repeat_tuple F.slot_int_index.lookup
    (call_meets F.slot_int_rmul (typeIs_int s 1 t) F.entry_int_rmul (F.args_int_rmul_2 _ _) (int_rmul_tuple 1 t l its.toArray n dd sl)
      ⟨ho, rfl, ⟨_, ho, rfl⟩, call_meets F.slot_tuple_mul ⟨_, ho, rfl⟩ F.entry_tuple_mul (F.args_tuple_mul_2 _ _) (tup_once l its.toArray n dd sl 1 t (by decide) (by simp)) ⟨ho, ?_⟩⟩)
  exact ⟨.ref l, H, I, rfl, q⟩
end
def gRep : PyData → PyData → Option PyData
  | .tuple ds, .int k => if ds ≠ [] ∧ 1 ≤ k ∧ k ≤ 1000 ∧ ds.length ≤ 1000 then some (.tuple (List.replicate k.toNat ds).flatten) else none
  | _, _ => none
theorem DpAll.rep {K : PySem.W.Frag} {H : Hp} {vs : List V} {ds : List PyData} (h : DpAll K H vs ds) : ∀ n : Nat, DpAll K H (List.replicate n vs).flatten (List.replicate n ds).flatten
  | 0 => .nil
  | n + 1 => DpAll.app h (DpAll.rep h n)
section
variable {X : Cx} {Ts : TsT} {pos p : Pos} {a b e : Expr} {fa fb : En → Option PyData}
def gTimes : PyData → PyData → Option PyData
  | .int i, .int j => if cMul i j = true then some (.int (i * j)) else none
  | .tuple ds, .int k => gRep (.tuple ds) (.int k)
  | _, _ => none
def fTimes := f2 gTimes
theorem d_times (ha : DE X Ts a fa) (hb : DE X Ts b fb) : DE X Ts (.BinOp a .Mult b pos) (fTimes fa fb) :=
  PE.imp (pe_op (op_mulW.or (op_repT.or op_repO)) ha hb) (w_2 fun x y v w d H O Q hg q1 q2 ht occ kk => by
    cases x <;> cases y <;> simp only [gTimes, gRep] at hg <;> try cases hg
    · rename_i i j
      split at hg
      · rename_i hc
        cases hg
        cases q1
        cases q2
        exact .inl ⟨_, _, rfl, rfl, show CMulW i j from @of_decide_eq_true (i.natAbs.log2 + j.natAbs.log2 < 1000000) _ hc, kk _ H (Xt.refl H) ht (.int _)⟩
      · cases hg
    · rename_i ds k
      split at hg
      · rename_i hc
        obtain ⟨c1, c2, c3, c4⟩ := hc
        cases hg
        cases q2
        cases q1 with
        | tup s q =>
          have hl := DpAll.len q
          by_cases hk : k = 1
          · subst hk
            refine .inr (.inr ⟨_, _, rfl, rfl, sqT_mono (fun o n e => (hide_some e).2) s, kk _ H (Xt.refl H) ht ?_⟩)
            have e1 : (List.replicate (1 : Int).toNat ds).flatten = ds := by simp
            rw [e1]
            exact .tup s q
          · refine .inr (.inl ⟨_, _, _, rfl, rfl, sqT_mono (fun o n e => (hide_some e).2) s, fun z => c1 (by subst z; cases q; rfl), by omega, c3, by omega, fun p np => kk _ _ (Xt.upd np) (ht.new np) (tup_new np (fun z => occ p z np) (DpAll.rep q _))⟩)
      · cases hg)
theorem bName_set {i : Nat} {d : PyData} {en e1 : En} (h : bName i d en = some e1) : i < en.length ∧ e1 = en.set i (.dat d) := by
  unfold bName at h
  split at h
  · cases h; exact ⟨by assumption, rfl⟩
  · cases h
theorem d_isi2 {T U : String} {x y : Str} {q q' : PyData → Bool} {f : En → Option PyData} {px py pt : Pos} {kt : Nat} (hq : ∀ d, kitB (pyTy d) T = some (q d)) (hq' : ∀ d, kitB (pyTy d) U = some (q' d)) (hg : Gl X "isinstance") (hm : X.mg "isinstance" = none) (hv : bootBuiltins "isinstance" = some (.builtin "isinstance"))
    (hgT : Gl X x) (hmT : X.mg x = none) (hvT : bootBuiltins x = some (.type T)) (hgU : Gl X y) (hmU : X.mg y = none) (hvU : bootBuiltins y = some (.type U)) (ha : DE X Ts e f) (hnT : x ≠ "__name__" := by decide) (hdT : (x == ("__debug__" : Str)) = false := by decide) (hnU : y ≠ "__name__" := by decide) (hdU : (y == ("__debug__" : Str)) = false := by decide)
    (he : starEach [e, .Tuple [.Name x px, .Name y py] kt pt] X.env = (false, eval e X.env) :: starEach [.Tuple [.Name x px, .Name y py] kt pt] X.env := by rfl) (he2 : starEach [.Tuple [.Name x px, .Name y py] kt pt] X.env = (false, eval (.Tuple [.Name x px, .Name y py] kt pt) X.env) :: starEach [] X.env := by rfl)
    (ht1 : starEach [.Name x px, .Name y py] X.env = (false, eval (.Name x px) X.env) :: starEach [.Name y py] X.env := by rfl) (ht2 : starEach [.Name y py] X.env = (false, eval (.Name y py) X.env) :: starEach [] X.env := by rfl) (hpl : (backTo pos (starEach [.Tuple [.Name x px, .Name y py] kt pt] X.env)).any (·.1) = false := by rfl) :
    DE X Ts (.Call (.Name "isinstance" p) [e, .Tuple [.Name x px, .Name y py] kt pt] [] pos) (fIsi (fun d => q d || q' d) f) :=
  PE.imp (pe_callB (t := tCons (tD X.K Ts f) (tCons (tTup (tCons (tC (.ty T)) (tCons (tC (.ty U)) tNil))) tNil)) call_isiT hg hm hv (pa_cons ha (pa_cons (pe_tup (pa_cons (pe_bltn (v := .ty T) hgT hmT hvT rfl hnT hdT) (pa_cons (pe_bltn (v := .ty U) hgU hmU hvU rfl hnU hdU) pa_nil ht2) ht1)) pa_nil he2) he) (by decide) (by decide) he hpl) fun σ H Q ⟨He, O, en, d, rp, hf, kk⟩ => by
    obtain ⟨z, h1, h2⟩ := f1_some hf
    cases h2
    refine tD.of rp h1 fun v H1 x1 r1 q1 => ⟨small64 (by simp), fun tp np => ?_⟩
    refine ⟨v, tp, [.ty T, .ty U], _, [.type T, .type U], q z || q' z, rfl, upd_same, .cons (.ty T) (.cons (.ty U) .nil), tyX_of (Dp.mono (Xt.upd np) (Dp.mono hide_out q1)), kitAny_cons (kit_ty (hq z)) (fun e => ?_) (fun e => by rw [e]; rfl), kk _ _ (x1.trans (Xt.upd np)) (r1.tabs.new np) (.bl _)⟩
    refine kitAny_cons (kit_ty (hq' z)) (fun e2 => ?_) (fun e2 => by rw [e2, Bool.or_true])
    rw [e, e2]
    exact kitAny_nil
theorem ss_never {sts : List Stmt} : DSs X Ts sts sNever := ⟨fun _ _ _ _ _ _ ⟨_, _, _, _, _, _, hf, _⟩ => by cases hf⟩
end
abbrev LF := En → (Fl → Prop) → Prop
def lNil : LF := fun en Q => Q (.nx en)
def lSeq (F G : LF) : LF := fun en Q => F en fun r => match r with
  | .nx e => G e Q
  | r => Q r
def lSet (i : Nat) (F : WF) : LF := fun en Q => F en fun d => ∃ e1, bName i d en = some e1 ∧ Q (.nx e1)
def lIf (t : En → (Bool → Prop) → Prop) (F G : LF) : LF := fun en Q => t en fun b => if b = true then F en Q else G en Q
def lEnd (ρ : Nat) (G : En → Option Fl) : LF := fun en Q => ∀ rw, RowOk rw → ∃ b, G (en.set ρ (.own rw)) = some (.rt (.bool b)) ∧ Q (.rt (.bool b))
section
variable {X : Cx} {Ts : TsT} {ρ : Nat} {pos : Pos} {st : Stmt} {rest : List Stmt} {F G : LF} {e a b : Expr} {f g : WF}
theorem WRep.setD {K : PySem.W.Frag} {He : Hp} {O : List Addr} {σ : St} {H : Hp} {en e1 : En} {i : Nat} {v : V} {d : PyData} (r : WRep K Ts ρ He O σ H en) (hi : i ≠ ρ) (hb : bName i d en = some e1) (q : Dp K (hide H O) v d) : WRep K Ts ρ He O (σ.set i (some v)) H e1 := by
  obtain ⟨b1, rfl⟩ := bName_set hb
  obtain ⟨hl, rw, hr, rp⟩ := r
  refine ⟨by simpa using hl, rw, hr, ?_⟩
  rw [List.set_comm _ _ hi]
  exact rp.setD (by simpa using b1) q
end
section
variable {P : Program} {w : World} {K : PySem.W.Frag} {mg : Str → Option Value} {base : Heap} {Ts : TsT}
def spLaw (K : PySem.W.Frag) (Ts : TsT) : Sp := fun vs H Q _ => ∃ (a : Addr) (ns : List Int), vs = [.ref a] ∧ SqL K H a (ns.map V.int) ∧ ns.length ≤ 63 ∧ Tb Ts H ∧ ∀ H', Q (.bl true) H'
def lawEn (n : Nat) (ns : List Int) : En := Slot.dat (.list (ns.map .int)) :: List.replicate (n - 1) Slot.no
end
def SqB (K : PySem.W.Frag) (b : Bool) (H : Hp) (a : Addr) (xs : List V) : Prop := match b with | true => SqL K H a xs | false => SqT K H a xs
def ItB (b : Bool) (h : Heap) (i a : Addr) (k : Nat) : Prop := match b with | true => h.IsListIter i a k | false => h.IsTupleIter i a k
def IsB (b : Bool) (h : Heap) (a : Addr) (its : Array Value) : Prop := match b with | true => h.IsList a its | false => h.IsTuple a its
def obB (b : Bool) (a : Addr) : Obj := match b with | true => { cls := .type "list_iterator", data := .fields #[.ref a, .int 0 0] } | false => { cls := .type "tuple_iterator", data := .fields #[.ref a, .int 0 0] }
theorem ItB.at {b : Bool} {h h' : Heap} {i a : Addr} {k : Nat} (x : ItB b h i a k) (hk : ∀ o, h.get? i = some o → h'.get? i = some o) : ItB b h' i a k := by
  cases b with
  | true => exact Heap.IsListIter.at (h := h) x hk
  | false => exact Heap.IsTupleIter.at (h := h) x hk
theorem ItB.obj {b : Bool} {h : Heap} {i a : Addr} {k : Nat} (x : ItB b h i a k) : ∃ o, h.get? i = some o ∧ ∀ v, o.data ≠ .cell v := by
  cases b with
  | true => obtain ⟨o, e, _, d⟩ := x; exact ⟨o, e, fun v q => by rw [d] at q; cases q⟩
  | false => obtain ⟨o, e, _, d⟩ := x; exact ⟨o, e, fun v q => by rw [d] at q; cases q⟩
theorem drB {prog : Program} {w : World} {A : Around} (hh : A.handled = none) (b : Bool) (it a : Addr) (hne : a ≠ it) (items : Array Value) :
    Draws prog w A it [it, a] items.size (fun i v => items[i]? = some v) (fun i h => ItB b h it a i ∧ IsB b h a items) := by
  cases b with
  | true => exact Draws.list hh it a hne items
  | false => exact Draws.tuple hh it a hne items
theorem SqB.inv {X : Cx} {pins : List (Addr × Obj)} {σ : L2.St} {H : Hp} {s : Shared} (I : Inv X pins σ H s) {b : Bool} {a : Addr} {xs : List V} (q : SqB X.K b H a xs) : ∃ its, Vals xs its ∧ IsB b s.heap a its.toArray ∧ a < s.heap.objs.size := by
  cases b with
  | true =>
    obtain ⟨its, rv, p, _⟩ := I.list q
    exact ⟨its, rv, p.isList, p.lt⟩
  | false =>
    obtain ⟨its, rv, p, _⟩ := I.tuple q
    obtain ⟨o, ho, _⟩ := id p
    exact ⟨its, rv, p, Heap.lt_size ho⟩
theorem SqB.inj {X : Cx} {pins : List (Addr × Obj)} {σ : L2.St} {H : Hp} {s : Shared} (I : Inv X pins σ H s) {b : Bool} {a : Addr} {xs ys : List V} (q : SqB X.K b H a xs) (r : SqB X.K b H a ys) : xs = ys := by
  cases b with
  | true => exact I.list_inj q r
  | false => exact I.tuple_inj q r
theorem SqB.mono {K : PySem.W.Frag} {b : Bool} {H H' : Hp} {a : Addr} {xs : List V} (h : ∀ o, (∀ ps, o ≠ .tbl ps) → H a = some o → H' a = some o) (q : SqB K b H a xs) : SqB K b H' a xs := by
  cases b with
  | true => exact sqL_mono (fun o n e => h o n e) q
  | false => exact sqT_mono (fun o n e => h o n e) q
theorem begB (b : Bool) (a : Addr) (items : Array Value) : Begins (.ref a) (obB b a) fun h => IsB b h a items := by
  cases b with
  | true => exact begins_list a items
  | false => exact begins_tuple a items
theorem ItB.start {b : Bool} {h : Heap} {i a : Addr} (e : h.get? i = some (obB b a)) : ItB b h i a 0 := by
  cases b with
  | true => exact ⟨_, e, rfl, rfl⟩
  | false => exact ⟨_, e, rfl, rfl⟩
def Itz2 (K : PySem.W.Frag) (b1 b2 : Bool) (a1 a2 : Addr) : It :=
  ⟨fun i H => ∃ (xs ys : List V) (x y : V), SqB K b1 H a1 xs ∧ SqB K b2 H a2 ys ∧ xs[i]? = some x ∧ ys[i]? = some y,
    fun i H v H' => ∃ T x y, v = .ref T ∧ H T = none ∧ H' = upd H T (.tup [x, y]) ∧ (∀ xs, SqB K b1 H a1 xs → xs[i]? = some x) ∧ (∀ ys, SqB K b2 H a2 ys → ys[i]? = some y),
    fun i H => ∃ xs ys : List V, SqB K b1 H a1 xs ∧ SqB K b2 H a2 ys ∧ i ≤ xs.length ∧ i ≤ ys.length ∧ (i = xs.length ∨ i = ys.length)⟩
theorem turn_zip2 {P : Program} {w : World} {K : PySem.W.Frag} {elts : List Expr} {kk : Nat} {tpos : Pos} {b1 b2 : Bool} {a1 a2 z TI TO i1 i2 : Addr} (S : ZipSep2 z TI TO i1 i2 [i1, a1] [i2, a2]) (n1 : a1 ≠ i1) (n2 : a2 ≠ i2) :
    Turn P w K (.Tuple elts kk tpos) (Itz2 K b1 b2 a1 a2) [z, TI, TO, i1, i2] z (fun i h => IsZip h z TI TO .none ∧ IsTupOf2 h TI (.ref i1) (.ref i2) ∧ (∃ x y, IsTupOf2 h TO x y) ∧ ItB b1 h i1 a1 i ∧ ItB b2 h i2 a2 i) where
  mem := by simp
  obj := fun i h st c hc => by
    obtain ⟨hz, hTI, ⟨x, y, hTO⟩, e1, e2⟩ := st
    have e' : c = z ∨ c = TI ∨ c = TO ∨ c = i1 ∨ c = i2 := by simpa using hc
    rcases e' with q | q | q | q | q
    · rw [q]; exact ⟨_, hz, fun v q => nomatch q⟩
    · rw [q]; exact ⟨_, hTI, fun v q => nomatch q⟩
    · rw [q]; exact ⟨_, hTO, fun v q => nomatch q⟩
    · rw [q]; exact e1.obj
    · rw [q]; exact e2.obj
  keep := fun i h h' st k => by
    obtain ⟨hz, hTI, ⟨x, y, hTO⟩, h1, h2⟩ := st
    exact ⟨k z (by simp) _ hz, k TI (by simp) _ hTI, ⟨x, y, k TO (by simp) _ hTO⟩, h1.at fun o q => k i1 (by simp) o q, h2.at fun o q => k i2 (by simp) o q⟩
  item := by
    intro X hP hw hK hc i pins s σ H E I hf st hg
    subst hP hw hK
    obtain ⟨hz, hTI, ⟨x0, y0, hTO⟩, h1, h2⟩ := st
    obtain ⟨xs, ys, x, y, hqx, hqy, hx, hy⟩ := hg
    obtain ⟨its, rv, p, _⟩ := hqx.inv I
    obtain ⟨its2, rv2, p2, _⟩ := hqy.inv I
    obtain ⟨u, hu, ru⟩ := rv.get hx
    obtain ⟨u2, hu2, ru2⟩ := rv2.get hy
    have hzl : z < s.heap.objs.size := Heap.lt_size hz
    have hh : X.A.in1.handled = none := I.ok.hd hc
    have D1 := drB (prog := X.prog) (w := X.w) hh b1 i1 a1 n1 its.toArray
    have D2 := drB (prog := X.prog) (w := X.w) hh b2 i2 a2 n2 its2.toArray
    have l1 : i < its.length := (List.getElem?_eq_some_iff.mp hu).1
    have l2 : i < its2.length := (List.getElem?_eq_some_iff.mp hu2).1
    refine wpAny_pyNext_zipD2_item S D1 D2 hz hTI hTO ⟨h1, p⟩ ⟨h2, p2⟩ (by simpa using l1) (by simpa using l2) fun x1 x2 h' tk y1 y2 z' TO' d1 d2 hT hsz hk => ?_
    have y1 : its[i]? = some x1 := by simpa using y1
    have y2 : its2[i]? = some x2 := by simpa using y2
    rw [hu] at y1; cases y1
    rw [hu2] at y2; cases y2
    refine ⟨_, rfl, wpAny_letOwnedTupleGo_zip (s := { s with heap := h', toks := tk }) z' fun h'' z'' sb => ?_⟩
    have hT2 : h''.get? s.heap.objs.size = some { cls := .type "tuple", data := .seq #[u, u2] } := (sb.2 _ (Nat.ne_of_gt hzl)).trans hT
    have new : ObjOk X.prog X.w (upd H s.heap.objs.size (.tup [x, y])) h'' s.heap.objs.size (.tup [x, y]) :=
      ⟨by show 2 ≤ sizeLine; decide, [u, u2], .cons ru (.cons ru2 .nil), ⟨_, hT2, rfl, _, rfl⟩⟩
    have I1 : Inv X pins σ (upd H s.heap.objs.size (.tup [x, y])) { s with heap := h'', toks := tk } :=
      I.turnedNew (t' := tk) (ch := [z, TI, TO, i1, i2]) (fun c o hb q => (sb.2 c (fun q' => hb (by simp [q']))).trans (hk c o (fun q' => hb (by simp [q'])) (fun q' => hb (by simp [q'])) (fun q' => hb (by simp [q'])) (fun q' => hb (by simp [q'])) q)) hf (Nat.le_refl _) new
    have f1 : ∀ {b : Bool} {ia aa : Addr} {k : Nat}, ia ≠ z → ItB b h' ia aa k → ItB b h'' ia aa k := fun hne q => q.at fun o e => (sb.2 _ hne).trans e
    refine ⟨.ref s.heap.objs.size, _, I1, rfl, ⟨_, x, y, rfl, I.hok.fresh (Nat.le_refl _), rfl, fun l hl => by rw [hl.inj I hqx]; exact hx, fun l hl => by rw [hl.inj I hqy]; exact hy⟩, ⟨z'', ?_, ⟨u, u2, ?_⟩, f1 S.zi1.symm d1.1, f1 S.zi2.symm d2.1⟩, fun c hcm => ?_⟩
    · exact (sb.2 _ S.TIz).trans (hk _ _ S.TIz S.TITO S.TIi1 S.TIi2 hTI)
    · exact (sb.2 _ S.TOz).trans TO'
    · have hlt : c < s.heap.objs.size := by
        have e' : c = z ∨ c = TI ∨ c = TO ∨ c = i1 ∨ c = i2 := by simpa using hcm
        rcases e' with q | q | q | q | q
        · rw [q]; exact hzl
        · rw [q]; exact Heap.lt_size hTI
        · rw [q]; exact Heap.lt_size hTO
        · rw [q]; obtain ⟨_, e1, _⟩ := h1.obj; exact Heap.lt_size e1
        · rw [q]; obtain ⟨_, e2, _⟩ := h2.obj; exact Heap.lt_size e2
      rw [upd_ne (Nat.ne_of_lt hlt)]
      exact (hf c hcm).1
  done := by
    intro X hP hw hK hc i pins s σ H E I hf st hg
    subst hP hw hK
    obtain ⟨hz, hTI, ⟨x0, y0, hTO⟩, h1, h2⟩ := st
    obtain ⟨xs, ys, hqx, hqy, k1, k2, hend⟩ := hg
    obtain ⟨its, rv, p, _⟩ := hqx.inv I
    obtain ⟨its2, rv2, p2, _⟩ := hqy.inv I
    have l1 := rv.length
    have l2 := rv2.length
    have hh : X.A.in1.handled = none := I.ok.hd hc
    have D1 := drB (prog := X.prog) (w := X.w) hh b1 i1 a1 n1 its.toArray
    have D2 := drB (prog := X.prog) (w := X.w) hh b2 i2 a2 n2 its2.toArray
    exact wpAny_pyNext_zipD2_end S D1 D2 hz hTI hTO ⟨h1, p⟩ ⟨h2, p2⟩ (by simp; omega) (by simp; omega) (by simp; omega) fun h' tk hk => ⟨rfl, I.turnedL (t' := tk) (ch := [z, TI, TO, i1, i2]) (fun c o hb q =>
      hk c o (fun q' => hb (by simp [q'])) (fun q' => hb (by simp [q'])) (fun q' => hb (by simp [q'])) (fun q' => hb (by simp [q'])) q) hf⟩
  self := fun A i s Q E st h => wpAny_pyIter_zip st.1 h
def iZip2A (K : PySem.W.Frag) (ta : TA) : TI := fun σ H R => ta σ H fun vs H1 => ∃ b1 b2 a1 a2 xs ys, vs = [.ref a1, .ref a2] ∧ SqB K b1 H1 a1 xs ∧ SqB K b2 H1 a2 ys ∧ R (Itz2 K b1 b2 a1 a2) H1
theorem pi_zip2A {X : Cx} {e e2 : Expr} {ta : TA} {p pos tpos : Pos} {elts : List Expr} {kk : Nat} (hg : Gl X "zip") (hm : X.mg "zip" = none) (ha : PA X [e, e2] ta)
    (hs : starEach [e, e2] X.env = (false, eval e X.env) :: starEach [e2] X.env := by rfl) (hpl : (backTo pos (starEach [e2] X.env)).any (·.1) = false := by rfl) :
    PI X (.Tuple elts kk tpos) (.Call (.Name "zip" p) [e, e2] [] pos) (iZip2A X.K ta) := by
  refine ⟨fun pins s σ H R I h => ?_⟩
  refine Call_ (ld_blt I hg hm PyProof.Rows.boot_zip (PyProof.Rows.callWith_type1 (thn (ha.run pos pins s σ H _ I h) fun us s1 ⟨vs, H1, I1, r1, q1⟩ => ?_) hs hpl))
  obtain ⟨b1, b2, a1, a2, xs, ys, ex, q1, q2, qR⟩ := q1
  subst ex
  cases r1 with
  | cons r rr =>
    cases rr with
    | cons r' rr =>
      cases rr
      cases r
      cases r'
      obtain ⟨its, rv, p1, k1⟩ := q1.inv I1
      obtain ⟨its2, rv2, p2, k2⟩ := q2.inv I1
      refine zip_begins2 (begB b1 a1 its.toArray) (begB b2 a2 its2.toArray) p1 p2 fun h' hz hTI hTO g1 g2 hsz hk => wpAny_pyIter_zip hz ?_
      have I2 : Inv X pins σ H1 { s1 with heap := h' } := I1.kept (t' := s1.toks) hk
      refine ⟨s1.heap.objs.size + 4, [s1.heap.objs.size + 4, s1.heap.objs.size + 2, s1.heap.objs.size + 3, s1.heap.objs.size, s1.heap.objs.size + 1], _, _, H1, rfl, I2, turn_zip2 (b1 := b1) (b2 := b2) (a1 := a1) (a2 := a2) (zip_sep2 (fun b hb => by rw [List.mem_singleton.mp hb]; exact k1) (fun b hb => by rw [List.mem_singleton.mp hb]; exact k2)) (Nat.ne_of_lt k1) (Nat.ne_of_lt (Nat.lt_succ_of_lt k2)), ⟨hz, hTI, ⟨_, _, hTO⟩, .start g1, .start g2⟩, fun c hcm => ?_, qR⟩
      have e' : c = s1.heap.objs.size + 4 ∨ c = s1.heap.objs.size + 2 ∨ c = s1.heap.objs.size + 3 ∨ c = s1.heap.objs.size ∨ c = s1.heap.objs.size + 1 := by simpa using hcm
      have hle : s1.heap.objs.size ≤ c := by
        rcases e' with z | z | z | z | z
        · rw [z]; exact Nat.le_add_right _ _
        · rw [z]; exact Nat.le_add_right _ _
        · rw [z]; exact Nat.le_add_right _ _
        · rw [z]; exact Nat.le_refl _
        · rw [z]; exact Nat.le_add_right _ _
      exact I1.fpOk hle (I1.hok.fresh hle)
def lt_items : PyData → Option (List PyData)
  | .tuple xs => some xs
  | .list xs => some xs
  | _ => none
theorem dp_sqB {K : PySem.W.Frag} {H : Hp} {v : V} {x : PyData} {xs : List PyData} (q : Dp K H v x) (h : lt_items x = some xs) : ∃ b a vs, v = .ref a ∧ SqB K b H a vs ∧ DpAll K H vs xs := by
  cases x <;> simp only [lt_items] at h <;> cases h
  · cases q with
    | lst s a => exact ⟨true, _, _, rfl, s, a⟩
  · cases q with
    | tup s a => exact ⟨false, _, _, rfl, s, a⟩
def pairs : List PyData → List PyData → List PyData
  | x :: xs, y :: ys => .tuple [x, y] :: pairs xs ys
  | _, _ => []
theorem pairs_len : ∀ xs ys : List PyData, (pairs xs ys).length = min xs.length ys.length
  | [], _ => by simp [pairs]
  | _ :: _, [] => by simp [pairs]
  | x :: xs, y :: ys => by
    show (pairs xs ys).length + 1 = _
    rw [pairs_len xs ys, List.length_cons, List.length_cons]
    omega
theorem pairs_get : ∀ {xs ys : List PyData} {i : Nat} {x y : PyData}, xs[i]? = some x → ys[i]? = some y → (pairs xs ys)[i]? = some (.tuple [x, y])
  | [], _, _, _, _, h, _ => by simp at h
  | _ :: _, [], _, _, _, _, h => by simp at h
  | a :: xs, b :: ys, 0, x, y, h1, h2 => by
    simp at h1 h2
    subst h1 h2
    rfl
  | a :: xs, b :: ys, i + 1, x, y, h1, h2 => by
    rw [List.getElem?_cons_succ] at h1 h2
    show (pairs xs ys)[i]? = _
    exact pairs_get h1 h2
def iZip (f g : En → Option PyData) : En → Option (List PyData) := fun en => (f en).bind fun x => (g en).bind fun y => match x, y with
  | .tuple xs, .tuple ys => some (pairs xs ys)
  | .list xs, .list ys => some (pairs xs ys)
  | .tuple xs, .list ys => some (pairs xs ys)
  | .list xs, .tuple ys => some (pairs xs ys)
  | _, _ => none
section
variable {X : Cx} {Ts : TsT} {pos p tpos : Pos} {e e2 : Expr} {f g : En → Option PyData} {elts : List Expr} {kk : Nat}
theorem gives_zip2 {K : PySem.W.Frag} {H1 : Hp} {O : List Addr} {b1 b2 : Bool} {a1 a2 : Addr} {xs ys : List V} {ds es : List PyData} (s1 : SqB K b1 (hide H1 O) a1 xs) (s2 : SqB K b2 (hide H1 O) a2 ys)
    (q1 : DpAll K (hide H1 O) xs ds) (q2 : DpAll K (hide H1 O) ys es) : Gives K Ts (Itz2 K b1 b2 a1 a2) (pairs ds es) H1 O := fun O' H2 h1 h2 occ => by
  have u1 := s1.mono fun o n e => h2.get _ o e n
  have u2 := s2.mono fun o n e => h2.get _ o e n
  have la := DpAll.len q1
  have lb := DpAll.len q2
  have q1 := DpAll.mono h1 q1
  have q2 := DpAll.mono h1 q2
  refine ⟨fun i hi => ?_, ?_, fun i v H3 hi hy => ?_⟩
  · rw [pairs_len] at hi
    exact ⟨xs, ys, xs[i]'(by omega), ys[i]'(by omega), u1, u2, List.getElem?_eq_getElem _, List.getElem?_eq_getElem _⟩
  · rw [pairs_len]
    exact ⟨xs, ys, u1, u2, by omega, by omega, by omega⟩
  · obtain ⟨T, x, y, rfl, nT, rfl, ex, ey⟩ := hy
    obtain ⟨d1, hd1, r1⟩ := DpAll.get q1 (ex _ u1)
    obtain ⟨d2, hd2, r2⟩ := DpAll.get q2 (ey _ u2)
    exact ⟨.tuple [d1, d2], pairs_get hd1 hd2, Xt.upd nT, fun t => t.new nT, tup_new nT (fun z => (occ T z).1 nT) (.cons r1 (.cons r2 .nil))⟩
theorem di_zip (hg : Gl X "zip") (hm : X.mg "zip" = none) (ha : DE X Ts e f) (hb : DE X Ts e2 g)
    (hs : starEach [e, e2] X.env = (false, eval e X.env) :: starEach [e2] X.env := by rfl) (hs2 : starEach [e2] X.env = (false, eval e2 X.env) :: starEach [] X.env := by rfl) (hpl : (backTo pos (starEach [e2] X.env)).any (·.1) = false := by rfl) :
    DI X Ts (.Tuple elts kk tpos) (.Call (.Name "zip" p) [e, e2] [] pos) (iZip f g) :=
  PI.imp (pi_zip2A (ta := tCons (tD X.K Ts f) (tCons (tD X.K Ts g) tNil)) hg hm (pa_cons ha (pa_cons hb pa_nil hs2) hs) hs hpl) fun σ H R ⟨He, O, en, ds, rp, hf, kk⟩ => by
    unfold iZip at hf
    obtain ⟨x, h1, hf1⟩ := Option.bind_eq_some_iff.mp hf
    obtain ⟨y, h2, hf2⟩ := Option.bind_eq_some_iff.mp hf1
    refine tD.of rp h1 fun v H1 x1 r1 q1 => tD.of r1 h2 fun w H2 x2 r2 q2 => ?_
    have q1 := Dp.mono (hide_mono x2) q1
    have fin : ∀ xs ys, lt_items x = some xs → lt_items y = some ys → ds = pairs xs ys → ∃ b1 b2 a1 a2 us ws, [v, w] = [V.ref a1, V.ref a2] ∧ SqB X.K b1 H2 a1 us ∧ SqB X.K b2 H2 a2 ws ∧ R (Itz2 X.K b1 b2 a1 a2) H2 := fun xs ys h4 h5 e => by
      subst e
      obtain ⟨b1, a1, vs1, rfl, s1, t1⟩ := dp_sqB q1 h4
      obtain ⟨b2, a2, vs2, rfl, s2, t2⟩ := dp_sqB q2 h5
      exact ⟨b1, b2, a1, a2, vs1, vs2, rfl, s1.mono fun o n e => (hide_some e).2, s2.mono fun o n e => (hide_some e).2, kk _ H2 (x1.trans x2) r2.tabs (gives_zip2 s1 s2 t1 t2)⟩
    cases x <;> cases y <;> simp only at hf2 <;> cases hf2 <;> exact fin _ _ rfl rfl rfl
theorem d_gcd {x : Str} (hg : Gl X x) (hm : X.mg x = some (.builtin "math.gcd")) (ha : DE X Ts e f) (hb : DE X Ts e2 g) (hdb : (x == ("__debug__" : Str)) = false := by decide)
    (hs : starEach [e, e2] X.env = (false, eval e X.env) :: starEach [e2] X.env := by rfl) (hs2 : starEach [e2] X.env = (false, eval e2 X.env) :: starEach [] X.env := by rfl) (hpl : (backTo pos (starEach [e2] X.env)).any (·.1) = false := by rfl) :
    DE X Ts (.Call (.Name x p) [e, e2] [] pos) (fGcd f g) :=
  PE.imp (pe_callBfun cr_gcd hg hm (pa_cons ha (pa_cons hb pa_nil hs2) hs) hdb hs hpl) fun σ H Q ⟨He, O, en, d, rp, hf, kk⟩ => by
    unfold fGcd at hf
    obtain ⟨x, y, h1, h2, h3⟩ := f2_some hf
    refine tD.of rp h1 fun v H1 x1 r1 q1 => tD.of r1 h2 fun w H2 x2 r2 q2 => ?_
    cases x <;> cases y <;> simp only [gI] at h3 <;> try cases h3
    cases q1
    cases q2
    exact ⟨_, _, rfl, kk _ H2 (x1.trans x2) r2.tabs (.int _)⟩
end
theorem Rep.setO1 {K : PySem.W.Frag} {Ts : TsT} {He : Hp} {O : List Addr} {σ : St} {H H1 : Hp} {en : En} {i : Nat} {a : Addr} {vs : List V} {ds : List PyData} (rp : Rep K Ts He O σ H en) (hi : i < en.length) (x : Xt H H1) (t : Tb Ts H1) (na : H a = none) (ha : H1 a = some (.lst vs)) (q : DpAll K (hide H1 (a :: O)) vs ds):
    Rep K Ts He (a :: O) (σ.set i (some (.ref a))) H1 (en.set i (.own ds)) ∧ Xt (hide H O) (hide H1 (a :: O)) := by
  have r1 := rp.go x t
  have hs : i < σ.length := by rw [← rp.len]; exact hi
  have nA : a ∉ O := rp.free na
  have hHe : He a = none := rp.ext.there na
  have back : Xt (hide H O) (hide H1 (a :: O)) := fun b o e => by
    obtain ⟨e1, e2⟩ := hide_some e
    have nb : b ∉ a :: O := fun z => by
      rcases List.mem_cons.mp z with z | z
      · rw [z, na] at e2; cases e2
      · exact e1 z
    rcases x b o e2 with q | ⟨ps, qs, e3, q⟩
    · exact .inl (hide_of nb q)
    · exact .inr ⟨ps, qs, e3, hide_of nb q⟩
  refine ⟨⟨by simp [rp.len], fun j d h => ?_, fun j es h => ?_, fun j k es es' aa h1 h2 h3 h4 => ?_, fun b hb => ?_, r1.ext, t⟩, back⟩
  · have hj : i ≠ j := fun z => by subst z; rw [List.getElem?_set_self hi] at h; cases h
    rw [List.getElem?_set_ne hj] at h
    obtain ⟨v, q1, q2⟩ := rp.dat j d h
    exact ⟨v, by rw [List.getElem?_set_ne hj]; exact q1, Dp.mono back q2⟩
  · by_cases hj : i = j
    · subst hj
      rw [List.getElem?_set_self hi] at h
      cases h
      exact ⟨a, vs, by rw [List.getElem?_set_self hs], List.mem_cons_self, hHe, ha, q⟩
    · rw [List.getElem?_set_ne hj] at h
      obtain ⟨a', vs', q1, q2, q3, q4, q5⟩ := rp.own j es h
      exact ⟨a', vs', by rw [List.getElem?_set_ne hj]; exact q1, List.mem_cons_of_mem _ q2, q3, x.get a' _ q4 (fun _ z => nomatch z), DpAll.mono back q5⟩
  · have old : ∀ (j : Nat) (es : List PyData) (aa : Addr), i ≠ j → (en.set i (Slot.own ds))[j]? = some (Slot.own es) → (σ.set i (some (V.ref a)))[j]? = some (some (V.ref aa)) → aa ≠ a := fun j es aa hj h1 h2 z => by
      rw [List.getElem?_set_ne hj] at h1 h2
      obtain ⟨a', vs', q1, q2, _⟩ := rp.own j es h1
      rw [h2] at q1
      cases q1
      exact nA (z ▸ q2)
    by_cases hj : i = j
    · by_cases hk : i = k
      · exact hj.symm.trans hk
      · subst hj
        rw [List.getElem?_set_self hs] at h3
        cases h3
        exact absurd rfl (old k es' _ hk h2 h4)
    · by_cases hk : i = k
      · subst hk
        rw [List.getElem?_set_self hs] at h4
        cases h4
        exact absurd rfl (old j es _ hj h1 h3)
      · rw [List.getElem?_set_ne hj] at h1 h3
        rw [List.getElem?_set_ne hk] at h2 h4
        exact rp.inj j k es es' aa h1 h2 h3 h4
  · rcases List.mem_cons.mp hb with z | z
    · rw [z, ha]
      exact ⟨by simp, fun ps z => nomatch z⟩
    · exact r1.occ b z
def RepV (K : PySem.W.Frag) (Ts : TsT) (ρ : Nat) (a : Addr) (He : Hp) (O₀ : List Addr) (Vz : Hp) (σ : St) (H : Hp) (en : En) : Prop :=
  ∃ O, (∀ b ∈ O₀, b ∈ O) ∧ WRep K Ts ρ He O σ H en ∧ σ[ρ]? = some (some (V.ref a)) ∧ Xt Vz (hide H O)
def tV (K : PySem.W.Frag) (Ts : TsT) (ρ : Nat) (fin : Bool) (F : LF) : TS := fun D σ H => ∃ a He O₀ Vz en Q, RepV K Ts ρ a He O₀ Vz σ H en ∧ F en Q ∧
  (∀ en' σ' H', Q (.nx en') → RepV K Ts ρ a He O₀ Vz σ' H' en' → D.nx σ' H') ∧
  ((∀ d v en' σ' H', Q (.rt d) → RepV K Ts ρ a He O₀ Vz σ' H' en' → Dp K (hide H' O₀) v d → D.rt v H') ∧ (fin = true → ∀ b H', Q (.rt (.bool b)) → D.rt (.bl b) H'))
abbrev VS (X : Cx) (Ts : TsT) (ρ : Nat) (fin : Bool) (st : Stmt) (F : LF) : Prop := PS X st (tV X.K Ts ρ fin F)
abbrev VSs (X : Cx) (Ts : TsT) (ρ : Nat) (fin : Bool) (st : List Stmt) (F : LF) : Prop := PSs X st (tV X.K Ts ρ fin F)
def lApp (i : Nat) (F : WF) : LF := fun en Q => ∃ ds, en[i]? = some (.own ds) ∧ ds.length ≤ 1000000 ∧ F en fun d => Q (.nx (en.set i (.own (ds ++ [d]))))
def lforGo (b : PyData → En → Option En) (F : LF) : List PyData → LF
  | [], en, Q => Q (.nx en)
  | d :: r, en, Q => ∃ e1, b d en = some e1 ∧ F e1 fun fl => match fl with
    | .nx e2 => lforGo b F r e2 Q
    | .rt v => Q (.rt v)
    | _ => False
def lFor (it : En → (List PyData → Prop) → Prop) (b : PyData → En → Option En) (F : LF) : LF := fun en Q => it en fun ds => lforGo b F ds en Q
def lRetV (F : WF) : LF := fun en Q => F en fun d => Q (.rt d)
section
variable {X : Cx} {Ts : TsT} {ρ : Nat} {fin : Bool} {pos : Pos} {st : Stmt} {rest : List Stmt} {F G : LF} {e a b : Expr} {f g : WF}
theorem v_nil : VSs X Ts ρ fin [] lNil := PSs.imp pss_nil fun D σ H ⟨a, He, O₀, Vz, en, Q, rp, hF, k, _⟩ => k en σ H hF rp
theorem v_cons (h1 : VS X Ts ρ fin st F) (h2 : VSs X Ts ρ fin rest G) : VSs X Ts ρ fin (st :: rest) (lSeq F G) := PSs.imp (pss_cons h1 h2) fun D σ H ⟨a, He, O₀, Vz, en, Q, rp, hF, k, l⟩ =>
  ⟨a, He, O₀, Vz, en, _, rp, hF, fun e1 σ1 H1 hq r1 => ⟨a, He, O₀, Vz, e1, Q, r1, hq, k, l⟩, ⟨fun d v en' σ' H' hq => l.1 d v en' σ' H' hq, fun hf b H' hq => l.2 hf b H' hq⟩⟩
theorem v_one (h1 : VS X Ts ρ fin st F) : VSs X Ts ρ fin [st] F := pss_one h1
theorem v_set {i : Nat} {x : Str} {pos' : Pos} (hN : X.N.Nodup) (hi : X.N[i]? = some x) (hx : Loc X.env.scope x) (hρ : i ≠ ρ) (he : WE X Ts ρ e f) (hs : swapsWith e (some (.Name x pos')) pos.line X.env = pure false := by rfl) (hf : X.fn x = true ∨ X.env.scope.names.lookup x = some .local := by first | exact .inl rfl | exact .inr rfl | assumption) :
    VS X Ts ρ fin (.Assign [.Name x pos'] e pos) (lSet i f) := PS.imp (ps_set hN hi hx he hs hf) fun D σ H ⟨aa, He, O₀, Vz, en, Q, ⟨O, s1, rp, ha, xv⟩, hF, k, _⟩ =>
  ⟨He, O, en, _, rp, hF, fun d v H' ⟨e1, h1, hq⟩ r' q x => k e1 _ H' hq ⟨O, s1, r'.setD hρ h1 q, by rw [List.getElem?_set_ne hρ]; exact ha, xv.trans x.1⟩⟩
theorem v_if {c : Expr} {a b : List Stmt} {t : En → (Bool → Prop) → Prop} (hc : WT X Ts ρ c t) (ha : VSs X Ts ρ fin a F) (hb : VSs X Ts ρ fin b G) : VS X Ts ρ fin (.If c a b pos) (lIf t F G) := PS.imp (ps_if hc ha hb) fun D σ H ⟨aa, He, O₀, Vz, en, Q, ⟨O, s1, rp, hA, xv⟩, hF, k, l⟩ =>
  ⟨He, O, en, _, rp, hF, fun b H' hq r' x => by
    cases b with
    | true => exact iteT ⟨aa, He, O₀, Vz, en, Q, ⟨O, s1, r', hA, xv.trans x.1⟩, hq, k, l⟩
    | false => exact iteF ⟨aa, He, O₀, Vz, en, Q, ⟨O, s1, r', hA, xv.trans x.1⟩, hq, k, l⟩⟩
theorem v_ret (he : WE X Ts ρ e f) : VS X Ts ρ fin (.Return (some e) pos) (lRetV f) := PS.imp (ps_ret he) fun D σ H ⟨aa, He, O₀, Vz, en, Q, ⟨O, s1, rp, hA, xv⟩, hF, k, l⟩ =>
  ⟨He, O, en, _, rp, hF, fun d v H' hq r' q x => l.1 d v en σ H' hq ⟨O, s1, r', hA, xv.trans x.1⟩ (Dp.mono (hide_sub s1) q)⟩
theorem v_app {i : Nat} {x : Str} {px ap : Pos} (hρ : i ≠ ρ) (hN : X.N[i]? = some x := by rfl) (hv : Vis X.env.scope x := by first | exact Or.inl rfl | exact Or.inr (Or.inl rfl) | exact Or.inr (Or.inr rfl)) (ha : WE X Ts ρ e f) (hd : (x == ("__debug__" : Str)) = false := by decide) (hcd : (x == ("__classdict__" : Str)) = false := by decide) {cpos : Pos}
    (hbase : attributeBase (.Name x px) "append" X.env (eval (.Name x px) X.env) = eval (.Name x px) X.env := by rfl)
    (hfew : ((backTo cpos (starEach [e] X.env)).all (fun x => !x.1) && (backToKw cpos (keywordEach [] X.env)).all (fun x => x.1.isSome) && decide ([e].length + ([] : List Keyword).length + (if ([] : List Keyword).isEmpty then 0 else 1) < 30)) = true := by rfl)
    (hline : (ap.endLine == cpos.line) = true := by rfl) (hs : starEach [e] X.env = (false, eval e X.env) :: starEach [] X.env := by rfl) (hplain : (backTo cpos (starEach [] X.env)).any (·.1) = false := by rfl)
    (hsw : swapsWith (.Call (.Attribute (.Name x px) "append" ap) [e] [] cpos) none pos.line X.env = pure false := by rfl) :
    VS X Ts ρ fin (.Expr (.Call (.Attribute (.Name x px) "append" ap) [e] [] cpos) pos) (lApp i f) :=
  PS.imp (ps_expr (pe_bm (t := tCons (tW X.K Ts ρ f) tNil) PySem.F.plainAttrs_list PySem.F.slot_list_append PySem.F.type_list_append mt_append (pe_var hN hv hd hcd) (pa_cons ha pa_nil hs) hbase hfew hline hs hplain) hsw) fun D σ H ⟨aa, He, O₀, Vz, en, Q, ⟨O, s1, rp, hA, xv⟩, hF, k, l⟩ => by
    have key : ∀ {H1 : Hp} {ds : List PyData}, WRep X.K Ts ρ He O σ H1 en → en[i]? = some (.own ds) → ∃ p vs, σ[i]? = some (some (V.ref p)) ∧ p ∈ O ∧ He p = none ∧ H1 p = some (.lst vs) ∧ DpAll X.K (hide H1 O) vs ds := fun r hd => by
      obtain ⟨hl, rw, hr, rp⟩ := r
      exact rp.own i _ (by rw [List.getElem?_set_ne (Ne.symm hρ)]; exact hd)
    obtain ⟨ds, hd, hlen, hF⟩ := hF
    obtain ⟨p, vs, p1, p2, p3, p4, p5⟩ := key rp hd
    refine ⟨.ref p, p1, .inl ⟨rfl, _, .inl (.inl p4)⟩, He, O, en, _, rp, hF, fun d v H1 hq r1 q1 x1 => ?_⟩
    obtain ⟨p', vs', s1', s2', s3', s4', s5'⟩ := key r1 hd
    rw [p1] at s1'
    cases s1'
    have hl2 := DpAll.len s5'
    refine ⟨p, vs', v, rfl, rfl, s4', by rw [hl2, sizeLine_eq]; omega, k _ σ _ hq ⟨O, s1, ?_, hA, xv.trans (x1.1.trans (hide_upd p2))⟩⟩
    obtain ⟨hl, rw, hr, rp1⟩ := r1
    refine ⟨by simpa using hl, rw, hr, ?_⟩
    rw [List.set_comm _ _ hρ]
    exact rp1.own_set (by rw [List.getElem?_set_ne (Ne.symm hρ)]; exact hd) p1 p2 p3 s4' (DpAll.app s5' (.cons q1 .nil))
theorem v_for {tg iter : Expr} {body : List Stmt} {vs : List Nat} {it : En → (List PyData → Prop) → Prop} {b : PyData → En → Option En} (hp : PassesOwn (model X.prog X.w) X.A X.env X.xe) (hc : X.calm = true) (hi : WI X Ts ρ tg iter it) (hg : DG X Ts tg vs b) (hbo : BOk ρ b) (hv : ρ ∉ vs) (hb : VSs X Ts ρ fin body F)
    (hs : ∀ x, foldedSetIterable iter X.env x = pure x := by intro _; rfl) : VS X Ts ρ fin (.For tg iter body [] pos) (lFor it b F) := PS.imp (ps_for hp hc hi (wg_of hg hbo) hb hs) fun D σ H ⟨aa, He, O₀, Vz, en, Q, ⟨O, s1, rp, hA, xv⟩, hF, k, l⟩ => by
  refine ⟨He, O, en, _, rp, hF, fun ds J H1 hgo0 r1 x1 gv => ?_⟩
  have xv1 : Xt Vz (hide H1 O) := xv.trans x1.1
  have weak : ∀ {σ' H' en'}, RepV X.K Ts ρ aa He O₀ (hide H1 O) σ' H' en' → RepV X.K Ts ρ aa He O₀ Vz σ' H' en' := fun ⟨O', c1, c2, c3, c4⟩ => ⟨O', c1, c2, c3, xv1.trans c4⟩
  refine ⟨fun i m σ2 H2 => m = ds.length - i ∧ i ≤ ds.length ∧ ∃ en2, RepV X.K Ts ρ aa He O₀ (hide H1 O) σ2 H2 en2 ∧ lforGo b F (ds.drop i) en2 Q,
    ⟨ds.length, by simp, Nat.zero_le _, en, ⟨O, s1, r1, hA, Xt.refl _⟩, by simpa using hgo0⟩, fun i m σ2 H2 hW => ?_⟩
  obtain ⟨rfl, hi', en2, ⟨O2, b1, r2, hA2, x12⟩, hgo⟩ := hW
  obtain ⟨g1, g2, g3⟩ := gv O2 H2 x12 (x12.trans hide_out) r2.occ
  by_cases hlt : i < ds.length
  · rw [List.drop_eq_getElem_cons hlt] at hgo
    obtain ⟨e1, hb1, hgo1⟩ := hgo
    refine .inr ⟨g1 i hlt, fun σ' H' => ∃ en2, RepV X.K Ts ρ aa He O₀ (hide H1 O) σ' H' en2 ∧ lforGo b F (ds.drop (i + 1)) en2 Q, fun σ' H' c => ⟨ds.length - (i + 1), by omega, rfl, hlt, c⟩, fun x H3 hy => ?_⟩
    obtain ⟨d, hd, x23, t23, qd⟩ := g3 i x H3 hlt hy
    have r3 := r2.go x23 (t23 r2.tabs')
    have hd' : ds[i] = d := by rw [List.getElem?_eq_getElem hlt] at hd; exact Option.some.inj hd
    rw [hd'] at hb1
    refine ⟨He, O2, en2, d, e1, r3, qd, hb1, fun σ4 r4 hw => ?_⟩
    have hA4 : σ4[ρ]? = some (some (V.ref aa)) := by rw [← wipe_out (vs := vs) hv, hw, wipe_out hv]; exact hA2
    refine ⟨aa, He, O₀, hide H1 O, e1, _, ⟨O2, b1, r4, hA4, x12.trans (hide_mono x23)⟩, hgo1, fun e2 σ' H' hq r' => ⟨e2, r', hq⟩, ⟨fun d v e2 σ' H' hq r' q => l.1 d v e2 σ' H' hq (weak r') q, fun hf b H' hq => l.2 hf b H' hq⟩⟩
  · have hie : i = ds.length := by omega
    subst hie
    rw [List.drop_of_length_le (Nat.le_refl _)] at hgo
    exact .inl ⟨g2, k en2 σ2 H2 hgo ⟨O2, b1, r2, hA2, xv1.trans x12⟩⟩
end
section
variable {P : Program} {w : World} {K : PySem.W.Frag} {mg : Str → Option Value} {base : Heap} {Ts : TsT}
def runV (n : Nat) (F : LF) : List PyData → (PyData → Prop) → Prop := fun ds Q => F (Slot.no :: (ds.map Slot.dat ++ List.replicate (n - 1 - ds.length) Slot.no)) fun r => ∃ d, r = .rt d ∧ Q d
theorem DF.okV {x qual : Str} {st : Stmt} {f : Addr} {fd : FuncData} {cdv : Value} {N ps : List Str} {k n : Nat} {F : LF} (D : DF K x qual st f fd cdv) (S : FnScope N ps (defScope st)) (hn : ps.length = n + 1) (hN : n + 1 ≤ N.length)
    (hbody : ∀ (A : Around) (outer : List Env) (s : Shared) (H : Hp) (E : XK), Room k (A.deeper (envOfC qual (defScope st) s.heap.objs.size f cdv)) → VSs (cxOf CX0 P w K mg base N qual (defScope st) f cdv A outer s H E).nox Ts 0 false (defBody st) F) :
    FnOk P w K mg base CX0 (k + 1) f fd ps (spW K Ts n (runV N.length F)) := by
  obtain ⟨oc, od, dV, kV, doc, pm, an, ct, osl, rfl, lk, hcd⟩ := D.ex
  refine fn_of lk hcd S (fun vs H Q E h => h.1.trans hn.symm) fun A outer s H vs Q E hr hsp => ?_
  refine ⟨_, (hbody A outer s H E hr).nox, ?_⟩
  obtain ⟨hl, a, vs', O, ds, rw', ws, Qd, e1, e2, e3, e4, e5, e6, e7, e8, hF, kk⟩ := hsp
  have rp := wrep_start (N := N) hl (by omega) e1 e2 e3 e4 e6 e7 e8
  have hs : (L2.start N vs)[0]? = some (some (V.ref a)) := by rw [e1]; exact start_get rfl
  refine ⟨a, fun b => if b = a then none else H b, O, fun _ => none, (Slot.no :: (ds.map Slot.dat ++ List.replicate (N.length - 1 - ds.length) Slot.no)), _, ⟨O, fun _ z => z, ⟨by simp, rw', e5, rp⟩, hs, fun _ _ z => (nomatch z)⟩, hF, fun en' σ' H' hq _ => ?_, ⟨fun d v en' σ' H' hq r' q => ?_, fun z => nomatch z⟩⟩
  · obtain ⟨_, z, _⟩ := hq
    cases z
  · obtain ⟨d', z, hq⟩ := hq
    cases z
    obtain ⟨O', s1, r2, hA, _⟩ := r'
    obtain ⟨hl2, rw2, hr2, rp2⟩ := r2
    obtain ⟨a', ws2, p1, p2, p3, p4, p5⟩ := rp2.own 0 rw2 (by rw [List.getElem?_set_self hl2])
    rw [hA] at p1
    cases p1
    refine kk d v H' rw2 ws2 hq hr2 p4 (DpAll.mono (hide_sub s1) p5) (fun b o hb e => ?_) rp2.tabs q
    exact rp2.ext b o (by show (if b = a then none else H b) = some o; rw [if_neg hb]; exact e)
theorem v_end {X : Cx} {ρ : Nat} {rest : List Stmt} {G : En → Option Fl} (h : DSs X Ts rest G) : VSs X Ts ρ true rest (lEnd ρ G) := PSs.imp h fun D σ H ⟨a, He, O₀, Vz, en, Q, ⟨O, s1, ⟨hl, rw, hr, rp⟩, hA, xv⟩, hF, k, l⟩ => by
  obtain ⟨b, h1, h2⟩ := hF rw hr
  exact ⟨He, [], fun _ => none, _, _, ⟨O, fun _ z => (nomatch z), fun _ z => (nomatch z), rp, fun _ _ z => (nomatch z)⟩, h1, fun v H' _ _ q => by cases q; exact l.2 rfl b H' h2⟩
theorem DF.okVL {x qual : Str} {st st1 : Stmt} {rest : List Stmt} {f : Addr} {fd : FuncData} {cdv : Value} {N : List Str} {sc : Str} {k ρ : Nat} {f1 : En → Option PyData} {F : LF} (D : DF K x qual st f fd cdv) (S : FnScope N [sc] (defScope st)) (hN : 1 ≤ N.length) (hb : defBody st = st1 :: rest) (hρ : ρ < N.length)
    (h1 : ∀ (A : Around) (outer : List Env) (s : Shared) (H : Hp) (E : XK), Room k (A.deeper (envOfC qual (defScope st) s.heap.objs.size f cdv)) → DS (cxOf CX0 P w K mg base N qual (defScope st) f cdv A outer s H E).nox Ts st1 (sOwn ρ f1))
    (h2 : ∀ (A : Around) (outer : List Env) (s : Shared) (H : Hp) (E : XK), Room k (A.deeper (envOfC qual (defScope st) s.heap.objs.size f cdv)) → VSs (cxOf CX0 P w K mg base N qual (defScope st) f cdv A outer s H E).nox Ts ρ true rest F)
    (hF : ∀ ns : List Int, ns.length ≤ 63 → ∃ rw, RowOk rw ∧ f1 (lawEn N.length ns) = some (.list rw) ∧ ∀ en', (∃ rw', en' = (lawEn N.length ns).set ρ (.own rw')) → F en' fun r => r = .rt (.bool true)) :
    FnOk P w K mg base CX0 (k + 1) f fd [sc] (spLaw K Ts) := by
  obtain ⟨oc, od, dV, kV, doc, pm, an, ct, osl, rfl, lk, hcd⟩ := D.ex
  refine fn_of lk hcd S (fun vs H Q E ⟨a, ns, h, _⟩ => by rw [h]; rfl) fun A outer s H vs Q E hr hsp => ?_
  rw [hb]
  refine ⟨_, (pss_cons (h1 A outer s H E hr) (h2 A outer s H E hr)).nox, ?_⟩
  obtain ⟨a, ns, rfl, hS, hns, ht, kk⟩ := hsp
  obtain ⟨rw, hrw, hf1, hFF⟩ := hF ns hns
  have hlen : (lawEn N.length ns).length = N.length := by simp [lawEn]; omega
  have rp : Rep K Ts H [] (L2.start N [.ref a]) H (lawEn N.length ns) := by
    have noX : ∀ {i : Nat} {x : Slot}, (lawEn N.length ns)[i + 1]? = some x → x = Slot.no := fun {i x} h => by
      unfold lawEn at h
      rw [List.getElem?_cons_succ, List.getElem?_replicate] at h
      split at h <;> cases h
      rfl
    refine ⟨by rw [hlen]; simp [L2.start]; omega, fun i d h => ?_, fun i es h => ?_, fun i j es es' a h => ?_, fun _ z => (nomatch z), Xt.refl H, ht⟩
    · cases i with
      | zero =>
        cases h
        exact ⟨.ref a, start_get rfl, .lst (sqL_mono (fun o n e => hide_of (fun z => nomatch z) e) hS) (DpAll.of_ints ns)⟩
      | succ i => exact absurd (noX h) (fun z => nomatch z)
    · cases i with
      | zero => cases h
      | succ i => exact absurd (noX h) (fun z => nomatch z)
    · cases i with
      | zero => cases h
      | succ i => exact absurd (noX h) (fun z => nomatch z)
  refine ⟨H, [], fun _ => none, lawEn N.length ns, .nx ((lawEn N.length ns).set ρ (.own rw)), ⟨[], fun _ z => (nomatch z), fun _ z => (nomatch z), rp, fun _ _ z => (nomatch z)⟩, ?_, fun σ' H' r' => ?_⟩
  · unfold sOwn
    rw [hf1]
    show (if ρ < (lawEn N.length ns).length then _ else _) = _
    rw [if_pos (by rw [hlen]; exact hρ)]
  · obtain ⟨O, a1, a2, rp', _⟩ := r'
    obtain ⟨aa, vs2, p1, _⟩ := rp'.own ρ rw (by rw [List.getElem?_set_self (by rw [hlen]; exact hρ)])
    refine ⟨aa, H, [], fun _ => none, (lawEn N.length ns).set ρ (.own rw), _, ⟨O, fun _ z => (nomatch z), ⟨by rw [List.length_set, hlen]; exact hρ, rw, hrw, by rw [List.set_set]; exact rp'⟩, p1, fun _ _ z => (nomatch z)⟩, hFF _ ⟨rw, rfl⟩, fun en' σ2 H2 hq => ?_, ⟨fun d v en' σ2 H2 hq _ q => ?_, fun _ b H2 hq => ?_⟩⟩
    · cases hq
    · cases hq
      cases q
      exact kk H2
    · cases hq
      exact kk H2
def wIf (t : En → (Bool → Prop) → Prop) (F G : WF) : WF := fun en Q => t en fun b => if b = true then F en Q else G en Q
theorem we_if {X : Cx} {ρ : Nat} {pos : Pos} {c a b : Expr} {t : En → (Bool → Prop) → Prop} {F G : WF} (hc : WT X Ts ρ c t) (ha : WE X Ts ρ a F) (hb : WE X Ts ρ b G) : WE X Ts ρ (.IfExp c a b pos) (wIf t F G) := PE.imp (pe_ifExp hc ha hb) fun σ H Q ⟨He, O, en, Qd, rp, hF, kk⟩ =>
  ⟨He, O, en, _, rp, hF, fun b H' hq r' x => by
    cases b with
    | true => exact iteT ⟨He, O, en, Qd, r', hq, fun d v H2 h1 h2 h3 h4 => kk d v H2 h1 h2 h3 (x.trans h4)⟩
    | false => exact iteF ⟨He, O, en, Qd, r', hq, fun d v H2 h1 h2 h3 h4 => kk d v H2 h1 h2 h3 (x.trans h4)⟩⟩
end
section
variable {ρ n : Nat} {F G : WF}
def MnA (F : En → (List PyData → Prop) → Prop) : Prop := ∀ en Q Q', (∀ d, Q d → Q' d) → F en Q → F en Q'
def McC (c : List PyData → (PyData → Prop) → Prop) : Prop := ∀ ds Q Q', (∀ d, Q d → Q' d) → c ds Q → c ds Q'
theorem mn_p {f : En → Option PyData} : Mn (wP ρ f) := fun en Q Q' h ⟨d, a, b⟩ => ⟨d, a, h _ b⟩
theorem mna_nil : MnA wNil := fun en Q Q' h a => h _ a
theorem mna_cons {Gs : En → (List PyData → Prop) → Prop} (hF : Mn F) (hG : MnA Gs) : MnA (wCons F Gs) := fun en Q Q' h a => hF en _ _ (fun x hx => hG en _ _ (fun xs hxs => h _ hxs) hx) a
theorem mn_draw {c : List PyData → (PyData → Prop) → Prop} {Gs : En → (List PyData → Prop) → Prop} (hc : McC c) (hG : MnA Gs) : Mn (wDraw n c Gs) := fun en Q Q' h a => hG en _ _ (fun ds ⟨h1, h2⟩ => ⟨h1, hc ds _ _ h h2⟩) a
theorem mn_2 {g : PyData → PyData → Option PyData} (hF : Mn F) (hG : Mn G) : Mn (w2 g F G) := fun en Q Q' h a => hF en _ _ (fun x hx => hG en _ _ (fun y ⟨d, h1, h2⟩ => ⟨d, h1, h _ h2⟩) hx) a
theorem mni_range (hF : Mn F) : MnI (wRange1 F) := fun en Q Q' h a => hF en _ _ (fun d ⟨j, h1, h2, h3, h4⟩ => ⟨j, h1, h2, h3, h _ h4⟩) a
theorem mc_taken : McC cTaken := fun ds Q Q' h ⟨m, h0, h1, h2, h3⟩ => ⟨m, h0, h1, h2, fun r a b => h _ (h3 r a b)⟩
theorem mc_flow : McC cFlow := fun ds Q Q' h ⟨h0, h1⟩ => ⟨h0, fun n a b => h _ (h1 n a b)⟩
inductive All2 {α β : Type} (P : α → β → Prop) : List α → List β → Prop
  | nil : All2 P [] []
  | cons {x : α} {y : β} {xs : List α} {ys : List β} : P x y → All2 P xs ys → All2 P (x :: xs) (y :: ys)
theorem All2.len {α β : Type} {P : α → β → Prop} : ∀ {xs : List α} {ys : List β}, All2 P xs ys → ys.length = xs.length
  | _, _, .nil => rfl
  | _, _, .cons _ t => by rw [List.length_cons, List.length_cons, t.len]
theorem All2.all {α β : Type} {P : α → β → Prop} {R : β → Prop} (h : ∀ x y, P x y → R y) : ∀ {xs : List α} {ys : List β}, All2 P xs ys → ∀ y ∈ ys, R y
  | _, _, .nil => fun _ z => nomatch z
  | _, _, .cons a t => fun y hy => (List.mem_cons.mp hy).elim (fun e => e ▸ h _ _ a) (fun m => t.all h y m)
theorem wlc_all {α β : Type} {b : PyData → En → Option En} {F : WF} {en : En} {ea : α → PyData} {eb : β → PyData} {P : α → β → Prop} (hb : ∀ x, ∃ e1, b (ea x) en = some e1 ∧ ∀ Q : PyData → Prop, (∀ y, P x y → Q (eb y)) → F e1 Q) :
    ∀ (xs : List α) (Q : List PyData → Prop), (∀ ys : List β, All2 P xs ys → Q (ys.map eb)) → wlcGo b wYes F en (xs.map ea) Q
  | [], Q, h => h [] .nil
  | x :: r, Q, h => by
    obtain ⟨e1, h1, h2⟩ := hb x
    refine ⟨e1, h1, ?_⟩
    refine (show (if true = true then F e1 (fun y => wlcGo b wYes F en (r.map ea) fun o => Q (y :: o)) else wlcGo b wYes F en (r.map ea) Q) from ?_)
    rw [if_pos rfl]
    exact h2 _ fun y hy => wlc_all hb r _ fun ys hys => h (y :: ys) (.cons hy hys)
end
def sParO (i j : Nat) (f g : En → Option PyData) : En → Option Fl := fun en => (f en).bind fun x => match g en with
  | some (.list ds) => if i < en.length ∧ j < en.length then some (.nx ((en.set i (.dat x)).set j (.own ds))) else none
  | _ => none
def lParO (ρ i j : Nat) (F : WF) (g : En → Option PyData) : LF := fun en Q => F en fun x => ∃ ds, (∀ rw, g (en.set ρ (.own rw)) = some (.list ds)) ∧ i < en.length ∧ j < en.length ∧ Q (.nx ((en.set i (.dat x)).set j (.own ds)))
section
variable {X : Cx} {Ts : TsT} {ρ : Nat} {fin : Bool} {pos : Pos} {a b c : Expr}
theorem s_parO {i j : Nat} {x y : Str} {px py pt : Pos} {kt k2 pt2} {f g : En → Option PyData} (hc : X.calm = true) (hN : X.N.Nodup) (hi : X.N[i]? = some x) (hj : X.N[j]? = some y) (hij : i ≠ j)
    (hx : X.env.scope.names.lookup x = some .local) (hy : X.env.scope.names.lookup y = some .local) (ha : DE X Ts a f) (hb : DNew X Ts b g) (hw : swappedStores [.Tuple [.Name x px, .Name y py] kt pt] (.Tuple [a, b] k2 pt2) X.env = pure (some [x, y]))
    (hs1 : starEach [a, b] X.env = (false, eval a X.env) :: starEach [b] X.env := by rfl) (hs2 : starEach [b] X.env = (false, eval b X.env) :: starEach [] X.env := by rfl)
    (hs : swapsWithSole [.Tuple [.Name x px, .Name y py] kt pt] (.Tuple [a, b] k2 pt2) pos.line X.env = pure false := by rfl) : DS X Ts (.Assign [.Tuple [.Name x px, .Name y py] kt pt] (.Tuple [a, b] k2 pt2) pos) (sParO i j f g) :=
  PS.imp (ps_par hc hN hi hj hij hx hy (pa_cons ha (pa_cons hb pa_nil hs2) hs1) hw hs) fun D σ H ⟨He, O₀, Vz, en, r, rp, hf, k⟩ => by
    unfold sParO at hf
    obtain ⟨d1, h1, hf1⟩ := Option.bind_eq_some_iff.mp hf
    split at hf1
    · rename_i ds h2
      split at hf1
      · rename_i hlt
        cases hf1
        obtain ⟨O, a1, a2, rp, xv⟩ := rp
        refine tD.of rp h1 fun v H1 x1 r1 q1 => ⟨He, O, en, ds, r1, h2, fun p ws H2 x2 t2 na ha2 q2 => ⟨v, .ref p, rfl, k _ H2 ?_⟩⟩
        obtain ⟨r3, r4⟩ := (r1.setD hlt.1 q1).setO1 (i := j) (by simpa using hlt.2) x2 t2 na ha2 q2
        exact ⟨p :: O, fun b hb => List.mem_cons_of_mem _ (a1 b hb), a2, r3, xv.trans ((hide_mono x1).trans r4)⟩
      · cases hf1
    · cases hf1
theorem v_parO {i j : Nat} {x y : Str} {px py pt : Pos} {kt k2 pt2} {f : WF} {g : En → Option PyData} (hc : X.calm = true) (hN : X.N.Nodup) (hi : X.N[i]? = some x) (hj : X.N[j]? = some y) (hij : i ≠ j) (hiρ : i ≠ ρ) (hjρ : j ≠ ρ)
    (hx : X.env.scope.names.lookup x = some .local) (hy : X.env.scope.names.lookup y = some .local) (ha : WE X Ts ρ a f) (hb : DNew X Ts b g) (hw : swappedStores [.Tuple [.Name x px, .Name y py] kt pt] (.Tuple [a, b] k2 pt2) X.env = pure (some [x, y]))
    (hs1 : starEach [a, b] X.env = (false, eval a X.env) :: starEach [b] X.env := by rfl) (hs2 : starEach [b] X.env = (false, eval b X.env) :: starEach [] X.env := by rfl)
    (hs : swapsWithSole [.Tuple [.Name x px, .Name y py] kt pt] (.Tuple [a, b] k2 pt2) pos.line X.env = pure false := by rfl) : VS X Ts ρ fin (.Assign [.Tuple [.Name x px, .Name y py] kt pt] (.Tuple [a, b] k2 pt2) pos) (lParO ρ i j f g) :=
  PS.imp (ps_par hc hN hi hj hij hx hy (pa_cons ha (pa_cons hb pa_nil hs2) hs1) hw hs) fun D σ H ⟨aa, He, O₀, Vz, en, Q, ⟨O, s1, rp, hA, xv⟩, hF, k, _⟩ =>
    ⟨He, O, en, _, rp, hF, fun d v H1 ⟨ds, h2, hi', hj', hq⟩ r1 q1 x1 => by
      obtain ⟨hl, rw, hr, rp1⟩ := r1
      refine ⟨He, O, _, ds, rp1, h2 rw, fun p ws H2 x2 t2 na ha2 q2 => ⟨v, .ref p, rfl, k _ _ H2 hq ?_⟩⟩
      have r2 := rp1.setD (i := i) (by simpa using hi') q1
      obtain ⟨r3, r4⟩ := r2.setO1 (i := j) (by simpa using hj') x2 t2 na ha2 q2
      refine ⟨p :: O, fun b hb => List.mem_cons_of_mem _ (s1 b hb), ⟨by simpa using hl, rw, hr, ?_⟩, by rw [List.getElem?_set_ne hjρ, List.getElem?_set_ne hiρ]; exact hA, xv.trans (x1.1.trans r4)⟩
      rw [List.set_comm _ _ hjρ, List.set_comm _ _ hiρ]
      exact r3⟩
end
section
variable {K : PySem.W.Frag} {x qual : Str} {st : Stmt} {f : Addr} {fd : FuncData}
theorem df_of {dvs : List V} (F : FunD K x qual (defArgs st) (defBody st) (defScope st) dvs [] f fd) : ∃ cdv, DF K x qual st f fd cdv := by
  obtain ⟨oc, od, dV, kV, doc, pm, an, cdv, ct, osl, rfl, lk, hcd, hD, _⟩ := F.ex
  exact ⟨cdv, df_mk lk hcd F.kp⟩
theorem df_gen {dvs : List V} (F : FunD K x qual (defArgs st) (defBody st) (defScope st) dvs [] (He.ga K x) fd) : DF K x qual st (He.ga K x) fd (.ref (He.codeOf K (x, none))) := by
  obtain ⟨oc, od, dV, kV, doc, pm, an, cdv, ct, osl, rfl, lk, hcd, hD, _⟩ := F.ex
  obtain ⟨c, rfl⟩ := He.codeIn_ref hcd
  have e1 : He.codeOf K (x, none) = c := He.codeOf_eq (p := (x, none)) lk rfl
  rw [e1]
  exact df_mk lk hcd F.kp
end
structure TfOk (h : Heap) (K : PySem.W.Frag) (cs : List (Addr × Addr)) : Prop where
  empty : ∀ p ∈ cs, h.get? p.2 = some { cls := .none, data := .fields #[] }
  out : ∀ p ∈ cs, K.lookup p.2 = none
  hd : ∀ p ∈ cs, PySem.W.CodeHd h p.1 p.2
theorem tf_ok {fa : List He.Fa} {fn : List He.DefD} {ts : List He.Tab} {tf : List He.Defn} {ex : PySem.W.Frag → Bool} {w : World} {h : Heap} {K : PySem.W.Frag} (X : K.In h) (c : He.SaysX fa fn ts tf ex w h K) : TfOk h K (tf.map (He.cT K)) :=
  ⟨fun p hp => by obtain ⟨a, ha, rfl⟩ := List.mem_map.mp hp; exact c.empty a ha, fun p hp => by obtain ⟨a, ha, rfl⟩ := List.mem_map.mp hp; exact c.out a ha, fun p hp => by obtain ⟨a, ha, rfl⟩ := List.mem_map.mp hp; exact PySem.W.codeHd_of_K X (c.hd a ha)⟩
theorem end_atL {l : PySem.W.OpenLaw} {w : World} {K : PySem.W.Frag} {h : Heap} {mg : Str → Option Value} {fa : Addr} {k : Nat} {x : Str} {fd : FuncData} {cs : List (Addr × Addr)} (gs : List Addr) (ls : List (Addr × Str)) (hg : ∀ P ∈ gs, ∃ p ∈ cs, p.2 = P) (hl : ∀ P ∈ ls, ∃ p ∈ cs, p.2 = P.1) (hd : ∀ P ∈ ls, P.1 ∉ gs ∧ ∀ Q ∈ ls, Q.1 = P.1 → Q = P) (T : TfOk h K cs)
    (hb : ∀ (s : Shared) (us : List Value), us.length = [x].length → BindsTo s fd ⟨us, []⟩ ([x].zip us))
    (hF : ∀ base : Heap, K.In base → base.Ns mainGlobals mg → (∀ p ∈ cs, LamX.TabB base mg p.1 p.2) → FnOk l.prog w K mg base CX0 k fa fd [x] (spLaw K ⟨gs, ls⟩)) : LamX.LawAtS l w K CX0 k 63 x mg fa h :=
  ⟨fd, cs, spLaw K ⟨gs, ls⟩, T.empty, T.out, T.hd, fun s u => hb s [u] rfl, fun H a ns hl' _ hT hS => ⟨a, ns, rfl, hS, hl', ⟨fun P hP => by
    obtain ⟨p, hp, rfl⟩ := hg P hP
    exact ⟨#[], hT p hp, by simp [TriplesOk]⟩, fun P hP => by
    obtain ⟨p, hp, e⟩ := hl P hP
    exact LamX.TabS.nil (by rw [← e]; exact hT p hp), hd⟩, fun _ => rfl⟩, hF⟩
theorem end_at2 {l : PySem.W.OpenLaw} {w : World} {K : PySem.W.Frag} {h : Heap} {mg : Str → Option Value} {fa : Addr} {k : Nat} {x : Str} {fd : FuncData} {tg tl : List He.Defn} (hd : ∀ P ∈ lsOf K tl, P.1 ∉ (tg.map (He.cT K)).map (·.2) ∧ ∀ Q ∈ lsOf K tl, Q.1 = P.1 → Q = P) (T : TfOk h K ((tg ++ tl).map (He.cT K)))
    (hb : ∀ (s : Shared) (us : List Value), us.length = [x].length → BindsTo s fd ⟨us, []⟩ ([x].zip us))
    (hF : ∀ base : Heap, K.In base → base.Ns mainGlobals mg → (∀ p ∈ (tg ++ tl).map (He.cT K), LamX.TabB base mg p.1 p.2) → FnOk l.prog w K mg base CX0 k fa fd [x] (spLaw K ⟨(tg.map (He.cT K)).map (·.2), lsOf K tl⟩)) : LamX.LawAtS l w K CX0 k 63 x mg fa h :=
  end_atL _ _ (fun P hP => by
    obtain ⟨p, hp, rfl⟩ := List.mem_map.mp hP
    exact ⟨p, by rw [List.map_append]; exact List.mem_append_left _ hp, rfl⟩) (fun P hP => by
    obtain ⟨d, hd, rfl⟩ := List.mem_map.mp hP
    exact ⟨He.cT K d, List.mem_map_of_mem (List.mem_append_right _ hd), rfl⟩) hd T hb hF
section
variable {X : Cx} {Ts : TsT} {pos : Pos} {f : En → Option PyData}
theorem s_ownLc {i : Nat} {y : Str} {py : Pos} {elt tg iter : Expr} {ifs : List Expr} {scope : Scope} {own : List (Str × Nat)} {spos : Pos} {it : En → Option (List PyData)} {b : PyData → En → Option En} {t : En → Option Bool} (hc : X.calm = true) (hN : X.N.Nodup) (hy : X.N[i]? = some y) (hyl : X.env.scope.names.lookup y = some .local)
    (hsw : swapsWith (.ListComp elt [⟨tg, iter, ifs, 0⟩] scope pos) (some (.Name y py)) spos.line X.env = pure true) (hi : DI X Ts tg iter it) (ok : BlkOk X.N X.env.scope scope own)
    (hg : ∀ s H C cl fp, DG (BX X scope s H C cl fp) Ts tg (own.map (·.2)) b) (ht : ∀ s H C cl fp, PTs (BX X scope s H C cl fp) ifs (tT X.K Ts t))
    (he : ∀ s H C cl fp, DE (BX X scope s H C cl fp) Ts elt f) (hs : ∀ x, foldedSetIterable iter X.env x = pure x := by intro _; rfl) :
    DS X Ts (.Assign [.Name y py] (.ListComp elt [⟨tg, iter, ifs, 0⟩] scope pos) spos) (sOwn i (fLc it b t f (own.map (·.2)))) :=
  PS.imp (ps_setLc hc hN hy hyl hsw hi ok (fun s H C cl fp => hg s H C cl fp) (fun s H C cl fp => ht s H C cl fp) (fun s H C cl fp => he s H C cl fp) hs) fun D σ H h => lc_w (own_w D σ H h)
end
section
variable {α β γ δ σ : Type}
abbrev eI : Int → PyData := .int
abbrev eB : Bool → PyData := .bool
abbrev eA : PyData → PyData := fun d => d
def eU : Unit → PyData := fun _ => .none
def eR (e : α → PyData) (l : List α) : PyData := .tuple (l.map e)
def eL (e : α → PyData) (l : List α) : PyData := .list (l.map e)
def eO (e : α → PyData) : Option α → PyData
  | none => .none
  | some x => e x
def e0 : Unit → PyData := fun _ => .tuple []
def e1 (a : α → PyData) (p : α) : PyData := .tuple [a p]
def e2 (a : α → PyData) (b : β → PyData) (p : α × β) : PyData := .tuple [a p.1, b p.2]
def e3 (a : α → PyData) (b : β → PyData) (c : γ → PyData) (p : α × β × γ) : PyData := .tuple [a p.1, b p.2.1, c p.2.2]
def e4 (a : α → PyData) (b : β → PyData) (c : γ → PyData) (d : δ → PyData) (p : α × β × γ × δ) : PyData := .tuple [a p.1, b p.2.1, c p.2.2.1, d p.2.2.2]
def mulO (x y : Int) : Option Int := if cMul x y = true then some (x * y) else none
def divO (x y : Int) : Option Int := if cDiv x y = true then some (x / y) else none
def modO (x y : Int) : Option Int := if cMod x y = true then some (x.fmod y) else none
def catO (x y : List α) : Option (List α) := if x.length + y.length ≤ 1000000 then some (x ++ y) else none
def eqO (x y : PyData) : Option Bool := if (SeqAt.shaped x && SeqAt.shaped y) = true then some (PyData.eqv x y) else none
def max2 (x y : Int) : Int := if y > x then y else x
def min2 (x y : Int) : Int := if y < x then y else x
def abs1 (x : Int) : Int := if x < 0 then -x else x
def dispO (l : List α) : Option (List α) := if l.length ≤ 64 then some l else none
def iteO (c : Option Bool) (a b : Option α) : Option α := c.bind fun k => match k with
  | true => a
  | false => b
def andO (c d : Option Bool) : Option Bool := iteO c d (some false)
def orO (c d : Option Bool) : Option Bool := iteO c (some true) d
def range1O (n : Int) : Option (List Int) := if -1000000 ≤ n ∧ n ≤ 1000000 then some ((List.range n.toNat).map fun (i : Nat) => (0 + (i : Int))) else none
def compO (T : α → Option Bool) (B : α → Option β) : List α → Option (List β)
  | [] => some []
  | x :: r => (T x).bind fun k => match k with
    | true => (B x).bind fun y => (compO T B r).bind fun ys => some (y :: ys)
    | false => compO T B r
theorem compO_cons (T : α → Option Bool) (B : α → Option β) (x : α) (r : List α) : compO T B (x :: r) = (T x).bind fun k => match k with
    | true => (B x).bind fun y => (compO T B r).bind fun ys => some (y :: ys)
    | false => compO T B r := rfl
def compL (T : α → Option Bool) (B : α → Option β) (l : List α) : Option (List β) := if l.length ≤ 1000000 then compO T B l else none
def allO (ev : Bool) (B : α → Option Bool) : List α → Option Bool
  | [] => some ev
  | x :: r => (B x).bind fun k => if k = ev then allO ev B r else some k
theorem allO_cons (ev : Bool) (B : α → Option Bool) (x : α) (r : List α) : allO ev B (x :: r) = (B x).bind fun k => if k = ev then allO ev B r else some k := rfl
def appO (l : List α) (x : α) : Option (List α) := if l.length ≤ 1000000 then some (l ++ [x]) else none
def foldO (Bd : α → σ → Option σ) : List α → σ → Option σ
  | [], s => some s
  | x :: r, s => (Bd x s).bind (foldO Bd r)
def thenJ (K : σ → Option (β ⊕ γ)) (o : β ⊕ σ) : Option (β ⊕ γ) := match o with
  | .inl v => some (.inl v)
  | .inr s => K s
def foldJ (Bd : α → σ → Option (β ⊕ σ)) : List α → σ → Option (β ⊕ σ)
  | [], s => some (.inr s)
  | x :: r, s => (Bd x s).bind (thenJ (foldJ Bd r))
def whileO (T : σ → Option Bool) (Bd : σ → Option σ) : Nat → σ → Option σ
  | 0, _ => none
  | n + 1, s => (T s).bind fun k => match k with
    | true => (Bd s).bind (whileO T Bd n)
    | false => some s
def outJ (K : σ → Option β) (o : β ⊕ σ) : Option β := match o with
  | .inl v => some v
  | .inr s => K s
end
structure Enc {α : Type} [DecidableEq α] (k : Nat) (e : α → PyData) : Prop where
  lay : ∀ a, PyData.canLay0 (e a) = true
  dep : ∀ a, PyData.depth (e a) ≤ k
  eq : ∀ a b, PyData.eqv (e a) (e b) = decide (a = b)
theorem Enc.sh {α : Type} [DecidableEq α] {k : Nat} {e : α → PyData} (E : Enc k e) (hk : k ≤ 64) (a : α) : SeqAt.shaped (e a) = true := by
  unfold SeqAt.shaped
  rw [E.lay]
  have := E.dep a
  rw [decide_eq_true (by omega)]
  rfl
section
variable {α β γ δ σ : Type} {en : En} {f g h : En → Option PyData} {ea : α → PyData} {eb : β → PyData} {ec : γ → PyData} {ed : δ → PyData} {A : Option α} {B : Option β} {C : Option γ} {D : Option δ}
theorem t_var {i : Nat} {e : α → PyData} {v : α} (h : en[i]? = some (.dat (e v))) : fVar i en = (some v).map e := by
  unfold fVar
  rw [h]
  rfl
theorem t_own {i : Nat} {e : α → PyData} {v : List α} (h : en[i]? = some (.own (v.map e))) : fOwn i en = (some v).map (eL e) := by
  unfold fOwn
  rw [h]
  rfl
theorem t_int {i : Int} : fLit (.int i) en = (some i).map eI := rfl
theorem t_bl {b : Bool} : fLit (.bool b) en = (some b).map eB := rfl
theorem t_non : fLit .none en = (some ()).map eU := rfl
theorem t_f2 {G : PyData → PyData → Option PyData} {h : α → β → Option γ} (hG : ∀ x y, G (ea x) (eb y) = (h x y).map ec) (pa : f en = A.map ea) (pb : g en = B.map eb) : f2 G f g en = (A.bind fun x => B.bind fun y => h x y).map ec := by
  unfold f2
  rw [pa, pb]
  cases A with
  | none => rfl
  | some a => cases B with
    | none => rfl
    | some b => exact hG a b
theorem t_f1 {G : PyData → Option PyData} {h : α → Option γ} (hG : ∀ x, G (ea x) = (h x).map ec) (pa : f en = A.map ea) : f1 G f en = (A.bind h).map ec := by
  unfold f1
  rw [pa]
  cases A with
  | none => rfl
  | some a => exact hG a
theorem g_add (x y : Int) : gPlus (eI x) (eI y) = (some (x + y)).map eI := rfl
theorem g_sub (x y : Int) : (gI fun i j => .int (i - j)) (eI x) (eI y) = (some (x - y)).map eI := rfl
theorem g_mul (x y : Int) : gTimes (eI x) (eI y) = (mulO x y).map eI := by
  show (if cMul x y = true then some (PyData.int (x * y)) else none) = _
  unfold mulO
  split <;> rfl
theorem g_div (x y : Int) : (gIc cDiv fun i j => .int (i / j)) (eI x) (eI y) = (divO x y).map eI := by
  show (if cDiv x y = true then some (PyData.int (x / y)) else none) = _
  unfold divO
  split <;> rfl
theorem g_mod (x y : Int) : (gIc cMod fun i j => .int (i.fmod j)) (eI x) (eI y) = (modO x y).map eI := by
  show (if cMod x y = true then some (PyData.int (x.fmod y)) else none) = _
  unfold modO
  split <;> rfl
theorem g_addL {e : α → PyData} (x y : List α) : gPlus (eL e x) (eL e y) = (catO x y).map (eL e) := by
  show (if (x.map e).length + (y.map e).length ≤ 1000000 then some (PyData.list (x.map e ++ y.map e)) else none) = _
  unfold catO eL
  rw [List.length_map, List.length_map]
  split
  · simp
  · rfl
theorem g_lt (x y : Int) : (gI fun i j => .bool (decide (i < j))) (eI x) (eI y) = (some (decide (x < y))).map eB := rfl
theorem g_gt (x y : Int) : (gI fun i j => .bool (decide (j < i))) (eI x) (eI y) = (some (decide (y < x))).map eB := rfl
theorem g_ge (x y : Int) : (gI fun i j => .bool (decide (j ≤ i))) (eI x) (eI y) = (some (decide (y ≤ x))).map eB := rfl
theorem g_gcd (x y : Int) : (gI fun i j => .int ((Nat.gcd i.natAbs j.natAbs : Nat) : Int)) (eI x) (eI y) = (some ((Nat.gcd x.natAbs y.natAbs : Nat) : Int)).map eI := rfl
theorem g_eq [DecidableEq α] {e : α → PyData} {n : Nat} (E : Enc n e) (hn : Nat.ble n 64 = true) (x y : α) : gEq (e x) (e y) = (some (decide (x = y))).map eB := by
  unfold gEq
  rw [if_pos (by rw [E.sh (Nat.le_of_ble_eq_true hn), E.sh (Nat.le_of_ble_eq_true hn)]; rfl), E.eq]
  rfl
theorem g_ne [DecidableEq α] {e : α → PyData} {n : Nat} (E : Enc n e) (hn : Nat.ble n 64 = true) (x y : α) : gNe (e x) (e y) = (some (!decide (x = y))).map eB := by
  unfold gNe
  rw [if_pos (by rw [E.sh (Nat.le_of_ble_eq_true hn), E.sh (Nat.le_of_ble_eq_true hn)]; rfl), E.eq]
  rfl
theorem g_eqA (x : α) (y : β) : gEq (ea x) (eb y) = (eqO (ea x) (eb y)).map eB := by
  unfold gEq eqO
  split <;> rfl
theorem g_notN {e : α → PyData} (he : ∀ x, isNone (e x) = false) (x : Option α) (y : Unit) : gNotN (eO e x) (eU y) = (some x.isSome).map eB := by
  cases x with
  | none => rfl
  | some x =>
    show (if isNone PyData.none = true then some (PyData.bool (!isNone (e x))) else none) = _
    rw [he x]
    rfl
theorem atI_map {e : α → PyData} (l : List α) (i : Int) : atI (l.map e) i = (atI l i).map e := by
  unfold atI
  rw [List.length_map]
  cases ixN l.length i with
  | none => rfl
  | some j => simp
theorem g_ixR {e : α → PyData} (l : List α) (i : Int) : gIx (eR e l) (eI i) = (atI l i).map e := atI_map l i
theorem g_ixL {e : α → PyData} (l : List α) (i : Int) : gIx (eL e l) (eI i) = (atI l i).map e := atI_map l i
theorem t_ixc {k : Int} {pr : α → β} (h : ∀ p, gIx (ea p) (.int k) = some (eb (pr p))) (pa : f en = A.map ea) : fIx f (fLit (.int k)) en = (A.bind fun p => some (pr p)).map eb := by
  unfold fIx f2
  rw [pa]
  cases A with
  | none => rfl
  | some a => exact h a
theorem t_tup2 (pa : f en = A.map ea) (pb : g en = B.map eb) : fTup (fCons f (fCons g fNil)) en = (A.bind fun x => B.bind fun y => some (x, y)).map (e2 ea eb) := by
  unfold fTup fCons fNil
  rw [pa, pb]
  cases A <;> cases B <;> rfl
theorem t_nil {e : α → PyData} : fNil en = (some ([] : List α)).map (List.map e) := rfl
theorem t_cons {gs : En → Option (List PyData)} {L : Option (List α)} (pa : f en = A.map ea) (pr : gs en = L.map (List.map ea)) : fCons f gs en = (A.bind fun x => L.bind fun xs => some (x :: xs)).map (List.map ea) := by
  unfold fCons
  rw [pa, pr]
  cases A <;> cases L <;> rfl
theorem t_lstL {gs : En → Option (List PyData)} {L : Option (List α)} (pr : gs en = L.map (List.map ea)) : fLst gs en = (L.bind dispO).map (eL ea) := by
  unfold fLst
  rw [pr]
  cases L with
  | none => rfl
  | some l =>
    show (if (l.map ea).length ≤ 64 then some (PyData.list (l.map ea)) else none) = (dispO l).map _
    unfold dispO
    rw [List.length_map]
    split <;> rfl
theorem g_lenR {e : α → PyData} (l : List α) : gLen (eR e l) = (some (l.length : Int)).map eI := by
  show some (PyData.int ((l.map e).length : Nat)) = _
  rw [List.length_map]
  rfl
theorem g_tupL {e : α → PyData} (l : List α) : gTuple (eL e l) = (some l).map (eR e) := rfl
theorem g_abs (x : Int) : gAbs (eI x) = (some (abs1 x)).map eI := rfl
theorem g_int (x : Int) : gInt (eI x) = (some x).map eI := rfl
theorem g_neg (x : Int) : gNeg (eI x) = (some (-x)).map eI := rfl
theorem t_isi {q : PyData → Bool} {b : α → Bool} (hq : ∀ x, q (ea x) = b x) (pa : f en = A.map ea) : fIsi q f en = (A.bind fun x => some (b x)).map eB := by
  unfold fIsi f1
  rw [pa]
  cases A with
  | none => rfl
  | some a => show some (PyData.bool (q (ea a))) = _; rw [hq]; rfl
theorem t_and {P Q : Option Bool} (p : f en = P.map eB) (q : g en = Q.map eB) : fAnd f g en = (andO P Q).map eB := by
  unfold fAnd andO iteO
  rw [p]
  cases P with
  | none => rfl
  | some b => cases b with
    | true => exact q
    | false => rfl
theorem t_or {P Q : Option Bool} (p : f en = P.map eB) (q : g en = Q.map eB) : fOr f g en = (orO P Q).map eB := by
  unfold fOr orO iteO
  rw [p]
  cases P with
  | none => rfl
  | some b => cases b with
    | true => rfl
    | false => exact q
theorem t_not {P : Option Bool} (p : f en = P.map eB) : fNot f en = (P.bind fun b => some (!b)).map eB := by
  unfold fNot
  rw [p]
  cases P <;> rfl
theorem t_T {P : Option Bool} (p : f en = P.map eB) : fT f en = P := by
  unfold fT
  rw [p]
  cases P <;> rfl
section
variable {k l : En → Option Bool} {P Q : Option Bool}
theorem t_kand (p : k en = P) (q : l en = Q) : kAnd k l en = andO P Q := by
  unfold kAnd andO iteO
  rw [p]
  cases P with
  | none => rfl
  | some b => cases b with
    | true => exact q
    | false => rfl
theorem t_kor (p : k en = P) (q : l en = Q) : kOr k l en = orO P Q := by
  unfold kOr orO iteO
  rw [p]
  cases P with
  | none => rfl
  | some b => cases b with
    | true => rfl
    | false => exact q
theorem t_knot (p : k en = P) : kNot k en = P.bind fun b => some (!b) := by
  unfold kNot
  rw [p]
  cases P <;> rfl
theorem t_yes : kYes en = some true := rfl
theorem t_if {A B : Option α} (p : k en = P) (pa : f en = A.map ea) (pb : g en = B.map ea) : fIf k f g en = (iteO P A B).map ea := by
  unfold fIf iteO
  rw [p]
  cases P with
  | none => rfl
  | some b => cases b with
    | true => exact pa
    | false => exact pb
end
theorem t_some (pa : f en = A.map ea) : f en = (A.bind fun x => some (some x)).map (eO ea) := by
  rw [pa]
  cases A <;> rfl
theorem t_none {e : β → PyData} {A : Option Unit} (pa : f en = A.map eU) : f en = (A.bind fun _ => some (none : Option β)).map (eO e) := by
  rw [pa]
  cases A <;> rfl
theorem t_chain {A B C : Option Int} (pa : f en = A.map eI) (pb : g en = B.map eI) (pc : h en = C.map eI) : fChain gLe gLe f g h en = (A.bind fun x => B.bind fun y => iteO (some (decide (x ≤ y))) (C.bind fun z => some (decide (y ≤ z))) (some false)).map eB := by
  unfold fChain
  rw [pa, pb]
  cases A with
  | none => rfl
  | some x => cases B with
    | none => rfl
    | some y =>
      rw [pc]
      have e : gLe (eI x) (eI y) = some (PyData.bool (decide (x ≤ y))) := rfl
      simp only [Option.map_some, Option.bind_some, e]
      cases decide (x ≤ y) with
      | true => cases C <;> rfl
      | false => rfl
theorem i_range1 {A : Option Int} (pa : f en = A.map eI) : iRange1 f en = (A.bind range1O).map (List.map eI) := by
  unfold iRange1
  rw [pa]
  cases A with
  | none => rfl
  | some n =>
    show (if -1000000 ≤ n ∧ n ≤ 1000000 then some (rangeD 0 n.toNat) else none) = (range1O n).map _
    unfold range1O rangeD
    split
    · simp
    · rfl
theorem i_seq {e : α → PyData} {s : σ → PyData} {u : σ → List α} {A : Option σ} (h : ∀ x, items (s x) = some ((u x).map e)) (pa : f en = A.map s) : iSeq f en = (A.bind fun x => some (u x)).map (List.map e) := by
  unfold iSeq
  rw [pa]
  cases A with
  | none => rfl
  | some x => exact h x
theorem i_seqR {e : α → PyData} {A : Option (List α)} (pa : f en = A.map (eR e)) : iSeq f en = A.map (List.map e) := by
  unfold iSeq
  rw [pa]
  cases A <;> rfl
theorem i_seqL {e : α → PyData} {A : Option (List α)} (pa : f en = A.map (eL e)) : iSeq f en = A.map (List.map e) := by
  unfold iSeq
  rw [pa]
  cases A <;> rfl
theorem pairs_zip : ∀ (xs : List α) (ys : List β), pairs (xs.map ea) (ys.map eb) = (xs.zip ys).map (e2 ea eb)
  | [], _ => by simp [pairs]
  | _ :: _, [] => by simp [pairs]
  | x :: xs, y :: ys => by
    show PyData.tuple [ea x, eb y] :: pairs (xs.map ea) (ys.map eb) = _
    rw [pairs_zip xs ys]
    rfl
theorem i_zip {A : Option (List α)} {B : Option (List β)} {s : List α → PyData} {t : List β → PyData} (h : ∀ x y, iZip (fun _ => some (s x)) (fun _ => some (t y)) [] = some (pairs (x.map ea) (y.map eb))) (pa : f en = A.map s) (pb : g en = B.map t) : iZip f g en = (A.bind fun x => B.bind fun y => some (x.zip y)).map (List.map (e2 ea eb)) := by
  unfold iZip
  rw [pa, pb]
  cases A with
  | none => rfl
  | some x => cases B with
    | none => rfl
    | some y => exact (h x y).trans (congrArg some (pairs_zip x y))
section
variable {it : En → Option (List PyData)} {b b2 : PyData → En → Option En} {t t2 : En → Option Bool} {vs vs2 : List Nat} {T : α → Option Bool} {Bf : α → Option β} {L : Option (List α)}
theorem lcGo_eq (hb : ∀ x, ∃ e1, b (ea x) en = some e1 ∧ t e1 = T x ∧ f e1 = (Bf x).map eb) : ∀ l : List α, lcGo b t f en (l.map ea) = (compO T Bf l).map (List.map eb)
  | [] => rfl
  | x :: r => by
    obtain ⟨e1, h1, h2, h3⟩ := hb x
    have ih := lcGo_eq hb r
    show (b (ea x) en).bind _ = _
    rw [h1, Option.bind_some, h2, h3, ih, compO_cons]
    cases T x with
    | none => rfl
    | some k => cases k with
      | true =>
        show (Option.bind (Option.map eb (Bf x)) _) = _
        cases Bf x with
        | none => rfl
        | some y =>
          show Option.map _ (Option.map (List.map eb) (compO T Bf r)) = Option.map (List.map eb) ((compO T Bf r).bind _)
          cases compO T Bf r <;> rfl
      | false => rfl
theorem t_lc (hi : it en = L.map (List.map ea)) (hb : ∀ x, ∃ e1, b (ea x) (wipeE en vs) = some e1 ∧ t e1 = T x ∧ f e1 = (Bf x).map eb) : fLc it b t f vs en = (L.bind fun l => compL T Bf l).map (eL eb) := by
  unfold fLc
  rw [hi]
  cases L with
  | none => rfl
  | some l =>
    show (if (l.map ea).length ≤ 1000000 then (lcGo b t f (wipeE en vs) (l.map ea)).map PyData.list else none) = (compL T Bf l).map _
    unfold compL
    rw [List.length_map, lcGo_eq hb]
    split
    · cases compO T Bf l <;> rfl
    · rfl
theorem t_all {ev : Bool} {Bf : α → Option Bool} (hi : it en = L.map (List.map ea)) (hb : ∀ x, ∃ e1, b (ea x) (wipeE en vs) = some e1 ∧ f e1 = (Bf x).map eB) : fAll ev it b f vs en = (L.bind fun l => allO ev Bf l).map eB := by
  unfold fAll
  rw [hi]
  cases L with
  | none => rfl
  | some l =>
    show allGo ev b f (wipeE en vs) (l.map ea) = (allO ev Bf l).map eB
    clear hi
    induction l with
    | nil => rfl
    | cons x r ih =>
      obtain ⟨e1, h1, h2⟩ := hb x
      show (b (ea x) (wipeE en vs)).bind _ = _
      rw [h1, Option.bind_some, h2, allO_cons]
      cases Bf x with
      | none => rfl
      | some k =>
        show (if k = ev then allGo ev b f (wipeE en vs) (r.map ea) else some (PyData.bool k)) = Option.map eB (if k = ev then allO ev Bf r else some k)
        split
        · exact ih
        · rfl
end
section
variable {S : List PyData → Option PyData} {ζ ε : Type} {er : ζ → PyData} {k l : En → Option PyData} {ee : ε → PyData} {E : Option ε}
theorem t_call1 {N : α → Option ζ} (hS : ∀ x, S [ea x] = (N x).map er) (pa : f en = A.map ea) : fCall 1 S (fCons f fNil) en = (A.bind fun x => N x).map er := by
  unfold fCall fCons fNil
  rw [pa]
  cases A with
  | none => rfl
  | some a => exact hS a
theorem t_call2 {N : α → β → Option ζ} (hS : ∀ x y, S [ea x, eb y] = (N x y).map er) (pa : f en = A.map ea) (pb : g en = B.map eb) : fCall 2 S (fCons f (fCons g fNil)) en = (A.bind fun x => B.bind fun y => N x y).map er := by
  unfold fCall fCons fNil
  rw [pa, pb]
  cases A with
  | none => rfl
  | some a => cases B with
    | none => rfl
    | some b => exact hS a b
theorem t_call3 {N : α → β → γ → Option ζ} (hS : ∀ x y z, S [ea x, eb y, ec z] = (N x y z).map er) (pa : f en = A.map ea) (pb : g en = B.map eb) (pc : h en = C.map ec) : fCall 3 S (fCons f (fCons g (fCons h fNil))) en = (A.bind fun x => B.bind fun y => C.bind fun z => N x y z).map er := by
  unfold fCall fCons fNil
  rw [pa, pb, pc]
  cases A with
  | none => rfl
  | some a => cases B with
    | none => rfl
    | some b => cases C with
      | none => rfl
      | some c => exact hS a b c
end
end
section
variable {α β γ σ τ ζ ξ : Type}
def rtO (e : α → PyData) (A : Option α) : Option Fl := A.map fun v => .rt (e v)
def NX (r : Option Fl) (A : Option σ) (env : σ → ζ → En) : Prop := match A with
  | none => r = none
  | some s => ∃ z, r = some (.nx (env s z))
def JX (r : Option Fl) (A : Option (β ⊕ σ)) (e : β → PyData) (env : σ → ζ → En) : Prop := match A with
  | none => r = none
  | some (.inl v) => r = some (.rt (e v))
  | some (.inr s) => ∃ z, r = some (.nx (env s z))
variable {en : En} {f g h : En → Option PyData} {F G H : En → Option Fl} {ea : α → PyData} {eb : β → PyData} {ec : γ → PyData} {er : ξ → PyData} {A : Option α} {B : Option β} {C : Option γ} {k : En → Option Bool} {P : Option Bool} {i j l : Nat} {env : σ → ζ → En} {env2 : τ → ζ → En}
theorem r_ret (p : f en = A.map ea) : sRet f en = rtO ea A := by
  unfold sRet rtO
  rw [p]
  cases A <;> rfl
theorem r_never {e : ξ → PyData} : sNever en = rtO e none := rfl
theorem r_seq_set {K : α → Option ξ} (p : f en = A.map ea) (hi : i < en.length) (q : ∀ x, G (en.set i (.dat (ea x))) = rtO er (K x)) : sSeq (sSet i f) G en = rtO er (A.bind K) := by
  unfold sSeq sSet bName
  rw [p]
  cases A with
  | none => rfl
  | some a =>
    show (match (if i < en.length then some (en.set i (.dat (ea a))) else none).map Fl.nx with
      | some (.nx e) => G e
      | r => r) = _
    rw [if_pos hi]
    exact q a
theorem r_seq_bind {b : PyData → En → Option En} {envb : α → En} {K : α → Option ξ} (p : f en = A.map ea) (hb : ∀ x, b (ea x) en = some (envb x)) (q : ∀ x, G (envb x) = rtO er (K x)) : sSeq (sBind b f) G en = rtO er (A.bind K) := by
  unfold sSeq sBind
  rw [p]
  cases A with
  | none => rfl
  | some a =>
    show (match (b (ea a) en).map Fl.nx with
      | some (.nx e) => G e
      | r => r) = _
    rw [hb]
    exact q a
theorem r_seq_par {K : α → β → Option ξ} (p : f en = A.map ea) (p2 : g en = B.map eb) (hi : i < en.length) (hj : j < en.length) (q : ∀ x y, G ((en.set i (.dat (ea x))).set j (.dat (eb y))) = rtO er (K x y)) : sSeq (sPar i j f g) G en = rtO er (A.bind fun x => B.bind fun y => K x y) := by
  unfold sSeq sPar bName
  rw [p, p2]
  cases A with
  | none => rfl
  | some a => cases B with
    | none => rfl
    | some b =>
      simp only [Option.map_some, Option.bind_some, hi, hj, if_true, List.length_set]
      exact q a b
theorem r_seq_own {A : Option (List α)} {K : List α → Option ξ} (p : f en = A.map (eL ea)) (hi : i < en.length) (q : ∀ x : List α, G (en.set i (.own (x.map ea))) = rtO er (K x)) : sSeq (sOwn i f) G en = rtO er (A.bind K) := by
  unfold sSeq sOwn
  rw [p]
  cases A with
  | none => rfl
  | some a =>
    show (match (if i < en.length then some (Fl.nx (en.set i (.own (a.map ea)))) else none) with
      | some (.nx e) => G e
      | r => r) = _
    rw [if_pos hi]
    exact q a
theorem r_seq_rel {a : List α} {K : Option ξ} (ho : en[i]? = some (.own (a.map ea))) (q : G (en.set i (.dat (eL ea a))) = rtO er K) : sSeq (sRel i) G en = rtO er K := by
  unfold sSeq sRel
  rw [ho]
  exact q
theorem r_seq_expr {K : Option ξ} (p : f en = A.map ea) (q : G en = rtO er K) : sSeq (sExpr f) G en = rtO er (A.bind fun _ => K) := by
  unfold sSeq sExpr
  rw [p]
  cases A with
  | none => rfl
  | some a => exact q
theorem r_seq_ifret {A K : Option ξ} (p : k en = P) (ha : F en = rtO er A) (q : G en = rtO er K) : sSeq (sIf k F sNil) G en = rtO er (iteO P A K) := by
  unfold sSeq sIf iteO
  rw [p]
  cases P with
  | none => rfl
  | some b => cases b with
    | true =>
      show (match F en with
        | some (.nx e) => G e
        | r => r) = _
      rw [ha]
      cases A <;> rfl
    | false => exact q
theorem r_seq_nx {A : Option σ} {K : σ → Option ξ} (p : NX (F en) A env) (q : ∀ s z, G (env s z) = rtO er (K s)) : sSeq F G en = rtO er (A.bind K) := by
  unfold sSeq
  cases A with
  | none =>
    have e : F en = none := p
    rw [e]
    rfl
  | some s =>
    obtain ⟨z, e⟩ := p
    rw [e]
    exact q s z
theorem r_seq_j {A : Option (ξ ⊕ σ)} {K : σ → Option ξ} (p : JX (F en) A er env) (q : ∀ s z, G (env s z) = rtO er (K s)) : sSeq F G en = rtO er (A.bind (outJ K)) := by
  unfold sSeq
  cases A with
  | none =>
    have e : F en = none := p
    rw [e]
    rfl
  | some o => cases o with
    | inl v =>
      have e : F en = some (.rt (er v)) := p
      rw [e]
      rfl
    | inr s =>
      obtain ⟨z, e⟩ := p
      rw [e]
      exact q s z
theorem n_nil {s : σ} {z : ζ} (h : en = env s z) : NX (sNil en) (some s) env := ⟨z, by rw [h]; rfl⟩
theorem n_never : NX (sNever en) (none : Option σ) env := rfl
theorem n_set {K : α → σ} (p : f en = A.map ea) (hi : i < en.length) (q : ∀ x, ∃ z, en.set i (.dat (ea x)) = env (K x) z) : NX (sSet i f en) (A.bind fun x => some (K x)) env := by
  unfold sSet bName
  rw [p]
  cases A with
  | none => exact rfl
  | some a =>
    obtain ⟨z, e⟩ := q a
    refine ⟨z, ?_⟩
    show (if i < en.length then some (en.set i (.dat (ea a))) else none).map Fl.nx = _
    rw [if_pos hi, e]
    rfl
theorem n_seq_set {K : α → Option σ} (p : f en = A.map ea) (hi : i < en.length) (q : ∀ x, NX (G (en.set i (.dat (ea x)))) (K x) env) : NX (sSeq (sSet i f) G en) (A.bind K) env := by
  unfold sSeq sSet bName
  rw [p]
  cases A with
  | none => exact rfl
  | some a =>
    show NX (match (if i < en.length then some (en.set i (.dat (ea a))) else none).map Fl.nx with
      | some (.nx e) => G e
      | r => r) (K a) env
    rw [if_pos hi]
    exact q a
theorem n_seq_bind {b : PyData → En → Option En} {envb : α → En} {K : α → Option σ} (p : f en = A.map ea) (hb : ∀ x, b (ea x) en = some (envb x)) (q : ∀ x, NX (G (envb x)) (K x) env) : NX (sSeq (sBind b f) G en) (A.bind K) env := by
  unfold sSeq sBind
  rw [p]
  cases A with
  | none => exact rfl
  | some a =>
    show NX (match (b (ea a) en).map Fl.nx with
      | some (.nx e) => G e
      | r => r) (K a) env
    rw [hb]
    exact q a
theorem n_par {K : α → β → σ} (p : f en = A.map ea) (p2 : g en = B.map eb) (hi : i < en.length) (hj : j < en.length) (q : ∀ x y, ∃ z, (en.set i (.dat (ea x))).set j (.dat (eb y)) = env (K x y) z) : NX (sPar i j f g en) (A.bind fun x => B.bind fun y => some (K x y)) env := by
  unfold sPar bName
  rw [p, p2]
  cases A with
  | none => exact rfl
  | some a => cases B with
    | none => exact rfl
    | some b =>
      obtain ⟨z, e⟩ := q a b
      refine ⟨z, ?_⟩
      simp only [Option.map_some, Option.bind_some, hi, hj, if_true, List.length_set, e]
theorem n_app {v : List α} {K : List α → σ} (p : f en = A.map ea) (ho : en[i]? = some (.own (v.map ea))) (q : ∀ w : List α, ∃ z, en.set i (.own (w.map ea)) = env (K w) z) : NX (sApp i f en) (A.bind fun x => (appO v x).bind fun w => some (K w)) env := by
  unfold sApp
  rw [p]
  cases A with
  | none => exact rfl
  | some a =>
    show NX (match en[i]? with
      | some (.own ds) => if ds.length ≤ 1000000 then some (.nx (en.set i (.own (ds ++ [ea a])))) else none
      | _ => none) ((appO v a).bind fun w => some (K w)) env
    rw [ho]
    show NX (if (v.map ea).length ≤ 1000000 then some (.nx (en.set i (.own (v.map ea ++ [ea a])))) else none) _ env
    unfold appO
    rw [List.length_map]
    split
    · obtain ⟨z, e⟩ := q (v ++ [a])
      refine ⟨z, ?_⟩
      rw [← e, List.map_append]
      rfl
    · exact rfl
theorem n_if {A B : Option σ} (p : k en = P) (ha : NX (F en) A env) (hb : NX (G en) B env) : NX (sIf k F G en) (iteO P A B) env := by
  unfold sIf iteO
  rw [p]
  cases P with
  | none => exact rfl
  | some b => cases b with
    | true => exact ha
    | false => exact hb
theorem n_seq {A : Option τ} {K : τ → Option σ} {ζ' : Type} {env2 : τ → ζ' → En} (p : NX (F en) A env2) (q : ∀ s z, NX (G (env2 s z)) (K s) env) : NX (sSeq F G en) (A.bind K) env := by
  unfold sSeq
  cases A with
  | none =>
    have e : F en = none := p
    rw [e]
    exact rfl
  | some s =>
    obtain ⟨z, e⟩ := p
    rw [e]
    exact q s z
theorem n_for {it : En → Option (List PyData)} {b : PyData → En → Option En} {L : Option (List α)} {Bd : α → σ → Option σ} {s : σ} {z : ζ} (he : en = env s z) (hi : it en = L.map (List.map ea)) (hb : ∀ x s z, ∃ e1, b (ea x) (env s z) = some e1 ∧ NX (F e1) (Bd x s) env) : NX (sFor it b F en) (L.bind fun l => foldO Bd l s) env := by
  subst he
  unfold sFor
  rw [hi]
  cases L with
  | none => exact rfl
  | some l =>
    show NX (forGo b F (l.map ea) (env s z)) (foldO Bd l s) env
    clear hi
    induction l generalizing s z with
    | nil => exact ⟨z, rfl⟩
    | cons x r ih =>
      obtain ⟨e1, h1, h2⟩ := hb x s z
      have ef : foldO Bd (x :: r) s = (Bd x s).bind (foldO Bd r) := rfl
      show NX ((b (ea x) (env s z)).bind _) _ env
      rw [h1, Option.bind_some, ef]
      cases hB : Bd x s with
      | none =>
        rw [hB] at h2
        have e : F e1 = none := h2
        rw [e]
        exact rfl
      | some s' =>
        rw [hB] at h2
        obtain ⟨z', e⟩ := h2
        rw [e]
        exact ih
theorem n_while {N : Nat} {T : σ → Option Bool} {Bd : σ → Option σ} {s : σ} {z : ζ} (he : en = env s z) (ht : ∀ s z, k (env s z) = T s) (hb : ∀ s z, NX (F (env s z)) (Bd s) env) : NX (sWhile (fun _ => N) k F en) (whileO T Bd N s) env := by
  subst he
  show NX (whGo k F N (env s z)) _ env
  induction N generalizing s z with
  | zero => exact rfl
  | succ n ih =>
    have ew : whileO T Bd (n + 1) s = (T s).bind fun k => match k with
      | true => (Bd s).bind (whileO T Bd n)
      | false => some s := rfl
    show NX (match k (env s z) with
      | some true => match F (env s z) with
        | some (.nx e2) => whGo k F n e2
        | some (.ct e2) => whGo k F n e2
        | some (.bk e2) => some (.nx e2)
        | some (.rt v) => some (.rt v)
        | none => none
      | some false => some (.nx (env s z))
      | none => none) _ env
    rw [ht, ew]
    cases T s with
    | none => exact rfl
    | some c => cases c with
      | false => exact ⟨z, rfl⟩
      | true =>
        have h2 := hb s z
        show NX (match F (env s z) with
          | some (.nx e2) => whGo k F n e2
          | some (.ct e2) => whGo k F n e2
          | some (.bk e2) => some (.nx e2)
          | some (.rt v) => some (.rt v)
          | none => none) ((Bd s).bind (whileO T Bd n)) env
        cases hB : Bd s with
        | none =>
          rw [hB] at h2
          have e : F (env s z) = none := h2
          rw [e]
          exact rfl
        | some s' =>
          rw [hB] at h2
          obtain ⟨z', e⟩ := h2
          rw [e]
          exact ih
theorem j_of_n {A : Option σ} {e : ξ → PyData} {r : Option Fl} (h : NX r A env) : JX r (A.bind fun s => some (.inr s)) e env := by
  cases A with
  | none => exact h
  | some s => exact h
theorem j_seq_n {A : Option τ} {K : τ → Option (ξ ⊕ σ)} {e : ξ → PyData} {ζ' : Type} {env2 : τ → ζ' → En} (p : NX (F en) A env2) (q : ∀ s z, JX (G (env2 s z)) (K s) e env) : JX (sSeq F G en) (A.bind K) e env := by
  unfold sSeq
  cases A with
  | none =>
    have e : F en = none := p
    rw [e]
    exact rfl
  | some s =>
    obtain ⟨z, e⟩ := p
    rw [e]
    exact q s z
theorem j_seq_set {K : α → Option (ξ ⊕ σ)} {e : ξ → PyData} (p : f en = A.map ea) (hi : i < en.length) (q : ∀ x, JX (G (en.set i (.dat (ea x)))) (K x) e env) : JX (sSeq (sSet i f) G en) (A.bind K) e env := by
  unfold sSeq sSet bName
  rw [p]
  cases A with
  | none => exact rfl
  | some a =>
    show JX (match (if i < en.length then some (en.set i (.dat (ea a))) else none).map Fl.nx with
      | some (.nx e) => G e
      | r => r) (K a) e env
    rw [if_pos hi]
    exact q a
theorem j_for {it : En → Option (List PyData)} {b : PyData → En → Option En} {L : Option (List α)} {Bd : α → σ → Option (ξ ⊕ σ)} {e : ξ → PyData} {s : σ} {z : ζ} (he : en = env s z) (hi : it en = L.map (List.map ea)) (hb : ∀ x s z, ∃ e1, b (ea x) (env s z) = some e1 ∧ JX (F e1) (Bd x s) e env) :
    JX (sFor it b F en) (L.bind fun l => foldJ Bd l s) e env := by
  subst he
  unfold sFor
  rw [hi]
  cases L with
  | none => exact rfl
  | some l =>
    show JX (forGo b F (l.map ea) (env s z)) (foldJ Bd l s) e env
    clear hi
    induction l generalizing s z with
    | nil => exact ⟨z, rfl⟩
    | cons x r ih =>
      obtain ⟨e1, h1, h2⟩ := hb x s z
      have ef : foldJ Bd (x :: r) s = (Bd x s).bind (thenJ (foldJ Bd r)) := rfl
      show JX ((b (ea x) (env s z)).bind _) _ e env
      rw [h1, Option.bind_some, ef]
      cases hB : Bd x s with
      | none =>
        rw [hB] at h2
        have e : F e1 = none := h2
        rw [e]
        exact rfl
      | some o => cases o with
        | inl v =>
          rw [hB] at h2
          have e : F e1 = some (.rt (e v)) := h2
          rw [e]
          exact rfl
        | inr s' =>
          rw [hB] at h2
          obtain ⟨z', e⟩ := h2
          rw [e]
          exact ih
theorem d_run {N : Nat} {ds : List PyData} {A : Option ξ} (h : F (ds.map .dat ++ List.replicate (N - ds.length) .no) = rtO er A) : runD N F ds = A.map er := by
  unfold runD
  rw [h]
  cases A <;> rfl
theorem d_runN {N : Nat} {ds : List PyData} {A : Option σ} (h : NX (F (ds.map .dat ++ List.replicate (N - ds.length) .no)) A env) : runD N F ds = (A.bind fun _ => some ()).map eU := by
  unfold runD
  cases A with
  | none =>
    have e : F (ds.map .dat ++ List.replicate (N - ds.length) .no) = none := h
    rw [e]
    rfl
  | some s =>
    obtain ⟨z, e⟩ := h
    rw [e]
    rfl
end
theorem lt_of {i : Nat} {en : En} (h : Nat.ble (i + 1) en.length = true) : i < en.length := Nat.le_of_ble_eq_true h
section
variable {α β γ σ ζ ξ : Type} {en : En} {f g h : En → Option PyData} {F G : En → Option Fl} {ea : α → PyData} {eb : β → PyData} {k l : En → Option Bool}
theorem t_ifP {b : Bool} {x y : α} (p : k en = some b) (pa : f en = (some x).map ea) (pb : g en = (some y).map ea) : fIf k f g en = (some (cond b x y)).map ea := by
  rw [t_if p pa pb]
  cases b <;> rfl
theorem t_andP {b c : Bool} (p : f en = (some b).map eB) (q : g en = (some c).map eB) : fAnd f g en = (some (b && c)).map eB := by
  rw [t_and p q]
  cases b <;> rfl
theorem t_kandP {b c : Bool} (p : k en = some b) (q : l en = some c) : kAnd k l en = some (b && c) := by
  rw [t_kand p q]
  cases b <;> rfl
theorem t_korP {b c : Bool} (p : k en = some b) (q : l en = some c) : kOr k l en = some (b || c) := by
  rw [t_kor p q]
  cases b <;> rfl
theorem t_chainP {x y z : Int} (pa : f en = (some x).map eI) (pb : g en = (some y).map eI) (pc : h en = (some z).map eI) : fChain gLe gLe f g h en = (some (decide (x ≤ y) && decide (y ≤ z))).map eB := by
  rw [t_chain pa pb pc]
  show Option.map eB (iteO (some (decide (x ≤ y))) (some (decide (y ≤ z))) (some false)) = _
  cases decide (x ≤ y) <;> rfl
theorem j_seq_ifret {A : Option ξ} {K : Option (ξ ⊕ σ)} {P : Option Bool} {e : ξ → PyData} {env : σ → ζ → En} (p : k en = P) (ha : F en = rtO e A) (q : JX (G en) K e env) : JX (sSeq (sIf k F sNil) G en) (iteO P (A.bind fun v => some (.inl v)) K) e env := by
  unfold sSeq sIf iteO
  rw [p]
  cases P with
  | none => exact rfl
  | some b => cases b with
    | true =>
      show JX (match F en with
        | some (.nx e) => G e
        | r => r) (A.bind fun v => some (.inl v)) e env
      rw [ha]
      cases A <;> exact rfl
    | false => exact q
end
theorem enc_I : Enc 0 eI := ⟨fun _ => rfl, fun _ => Nat.le_refl _, fun _ _ => rfl⟩
theorem enc_B : Enc 0 eB := ⟨fun _ => rfl, fun _ => Nat.le_refl _, fun a b => by cases a <;> cases b <;> rfl⟩
section
variable {α β γ δ : Type} [DecidableEq α] [DecidableEq β] [DecidableEq γ] [DecidableEq δ] {k l m n : Nat} {ea : α → PyData} {eb : β → PyData} {ec : γ → PyData} {ed : δ → PyData}
theorem Enc.lays (E : Enc k ea) : ∀ l : List α, PyData.canLayAll0 (l.map ea) = true
  | [] => by simp only [List.map_nil, PyData.canLayAll0]
  | a :: r => by
    simp only [List.map_cons, PyData.canLayAll0, E.lay a, E.lays r, Bool.and_self]
theorem Enc.deps (E : Enc k ea) : ∀ l : List α, PyData.depthAll (l.map ea) ≤ k
  | [] => by simp only [List.map_nil, PyData.depthAll]; exact Nat.zero_le _
  | a :: r => by
    simp only [List.map_cons, PyData.depthAll]
    exact Nat.max_le.mpr ⟨E.dep a, E.deps r⟩
theorem Enc.eqs (E : Enc k ea) : ∀ l m : List α, PyData.eqvAll (l.map ea) (m.map ea) = decide (l = m)
  | [], [] => by simp [PyData.eqvAll]
  | [], _ :: _ => by simp [PyData.eqvAll]
  | _ :: _, [] => by simp [PyData.eqvAll]
  | a :: r, b :: s => by
    simp only [List.map_cons, PyData.eqvAll, E.eq, E.eqs r s, List.cons.injEq, Bool.decide_and]
theorem enc_L (E : Enc k ea) : Enc (k + 1) (eL ea) := ⟨fun l => by simp only [eL, PyData.canLay0, E.lays l], fun l => by simp only [eL, PyData.depth]; exact Nat.succ_le_succ (E.deps l), fun a b => by simp only [eL, PyData.eqv, E.eqs a b]⟩
theorem enc_2 (E : Enc k ea) (F : Enc l eb) : Enc (max k l + 1) (e2 ea eb) := ⟨fun p => by simp only [e2, PyData.canLay0, PyData.canLayAll0, E.lay, F.lay, Bool.and_true], fun p => by
  simp only [e2, PyData.depth, PyData.depthAll]; have := E.dep p.1; have := F.dep p.2; omega, fun p q => by
  obtain ⟨a, b⟩ := p; obtain ⟨c, d⟩ := q
  simp only [e2, PyData.eqv, PyData.eqvAll, E.eq, F.eq, Bool.and_true, Prod.mk.injEq, Bool.decide_and]⟩
end
theorem pick_of {α : Type} {e : α → PyData} {l : List α} {Q : PyData → Prop} (h : ∀ x, x ∈ l → Q (e x)) : ∀ d ∈ l.map e, Q d := fun d hd => by
  obtain ⟨x, hx, rfl⟩ := List.mem_map.mp hd
  exact h x hx
theorem if_of {b : Bool} {P Q : Prop} (h1 : b = true → P) (h2 : b = false → Q) : if b = true then P else Q := by
  cases b with
  | true => exact h1 rfl
  | false => exact h2 rfl
def lenA : PyData → Option Int
  | .list ds => some ds.length
  | .tuple ds => some ds.length
  | _ => none
def ixA (d : PyData) (i : Int) : Option PyData := (items d).bind fun ds => atI ds i
theorem g_lenA (d : PyData) : gLen (eA d) = (lenA d).map eI := by cases d <;> rfl
theorem map_eA (o : Option PyData) : o.map eA = o := by cases o <;> rfl
theorem g_ixA (d : PyData) (i : Int) : gIx (eA d) (eI i) = (ixA d i).map eA := by
  rw [map_eA]
  rfl
theorem g_isNA (x : PyData) (y : Unit) : gIsN (eA x) (eU y) = (some (isNone x)).map eB := rfl
section
variable {α β γ σ ζ ξ : Type} {en : En} {f g : En → Option PyData} {F G : En → Option Fl} {ea : α → PyData} {eb : β → PyData} {er : ξ → PyData} {A : Option α} {B : Option (List β)} {i j : Nat} {env : σ → ζ → En}
theorem parO_eq (p : f en = A.map ea) (p2 : g en = B.map (eL eb)) (hi : i < en.length) (hj : j < en.length) : sParO i j f g en = (A.bind fun x => B.bind fun y => some (Fl.nx ((en.set i (.dat (ea x))).set j (.own (y.map eb))))) := by
  unfold sParO
  rw [p, p2]
  cases A with
  | none => rfl
  | some a => cases B with
    | none => rfl
    | some b =>
      show (if i < en.length ∧ j < en.length then _ else _) = _
      rw [if_pos ⟨hi, hj⟩]
      rfl
theorem r_seq_parO {K : α → List β → Option ξ} (p : f en = A.map ea) (p2 : g en = B.map (eL eb)) (hi : i < en.length) (hj : j < en.length) (q : ∀ x y, G ((en.set i (.dat (ea x))).set j (.own (List.map eb y))) = rtO er (K x y)) : sSeq (sParO i j f g) G en = rtO er (A.bind fun x => B.bind fun y => K x y) := by
  unfold sSeq
  rw [parO_eq p p2 hi hj]
  cases A with
  | none => rfl
  | some a => cases B with
    | none => rfl
    | some b => exact q a b
end
theorem noown1 {en : En} {i : Nat} (h : en[i]? = some .no) : ∀ j ∈ [i], ∀ es, en[j]? ≠ some (Slot.own es) := fun j hj es z => by
  rw [List.mem_singleton.mp hj, h] at z
  cases z
def rangeI (n : Int) : List Int := (List.range n.toNat).map fun (i : Nat) => (0 + (i : Int))
theorem rangeD_I (n : Int) : rangeD 0 n.toNat = (rangeI n).map eI := by
  unfold rangeD rangeI
  simp
theorem wlc_range {β : Type} {b : PyData → En → Option En} {F : WF} {en : En} {eb : β → PyData} {P : Int → β → Prop} {n : Int} {Q : List PyData → Prop} (hb : ∀ x, ∃ e1, b (eI x) en = some e1 ∧ ∀ Q : PyData → Prop, (∀ y, P x y → Q (eb y)) → F e1 Q) (h : ∀ ys : List β, All2 P (rangeI n) ys → Q (ys.map eb)) : wlcGo b wYes F en (rangeD 0 n.toNat) Q := by
  rw [rangeD_I]
  exact wlc_all hb _ _ h
theorem rangeD_len {n : Int} (h : n ≤ 1000000) : (rangeD 0 n.toNat).length ≤ 1000000 := by
  simp [rangeD]
  omega
def wfor {α σ : Type} (Bd : α → σ → (σ → Prop) → Prop) : List α → σ → (σ → Prop) → Prop
  | [], s, K => K s
  | x :: r, s, K => Bd x s fun s' => wfor Bd r s' K
theorem lfor_of {α σ ζ : Type} {b : PyData → En → Option En} {F : LF} {ea : α → PyData} {env : σ → ζ → En} {Bd : α → σ → (σ → Prop) → Prop}
    (hb : ∀ x s z (Q : Fl → Prop) (K : σ → Prop), (∀ s', K s' → ∀ z', Q (.nx (env s' z'))) → Bd x s K → ∃ e1, b (ea x) (env s z) = some e1 ∧ F e1 Q) :
    ∀ (l : List α) (s : σ) (z : ζ) (Q : Fl → Prop) (K : σ → Prop), (∀ s', K s' → ∀ z', Q (.nx (env s' z'))) → wfor Bd l s K → lforGo b F (l.map ea) (env s z) Q
  | [], s, z, Q, K, hK, h => hK s h z
  | x :: r, s, z, Q, K, hK, h => hb x s z _ _ (fun s' h' z' => lfor_of hb r s' z' Q K hK h') h
end DN
namespace PySem
set_option maxHeartbeats 4000000 in
theorem meets_enumerate_newB1 {v : Value} {o : Obj} {H : Heap → Prop} (B : Begins v o H) :
    Meets (Builtin.«enumerate.__new__» ⟨[.type "enumerate", v], []⟩) (fun _ R s => H s.heap ∧
      R (.ok (.ret (.ref (s.heap.push o).objs.size))) { s with heap := (s.heap.push o).push { cls := .type "enumerate", data := .fields #[.none, .bool false, .ref s.heap.objs.size, rawInt 0, .none, .none] } }) :=
  .of_wp fun prog w A R s h => by
    obtain ⟨hp, g, d, tk, os⟩ := s; obtain ⟨h1, h⟩ := h
    have hsub := sub_enumerate
    have q1 : ∀ {A' : Around} {E : Value → Shared → Prop} {Q : Value → Shared → Prop}, Q (.ref hp.objs.size) ⟨hp.push o, g, d, tk, os⟩ → wpAny (model prog w) A' (pyIter v) Q E ⟨hp, g, d, tk, os⟩ :=
      fun q => B.iter prog w _ _ ⟨hp, g, d, tk, os⟩ _ h1 q
    wp_walk using q1
    refine wpAny_stack_any fun st => wpAny_pure ?_
    split
    · rename_i c _ _ _ _ _
      cases (c == Value.type "enumerate")
      · wp_walk using q1
        exact ⟨_, rfl, h⟩
      · wp_walk using q1
        exact ⟨_, rfl, h⟩
    · wp_walk using q1
      exact ⟨_, rfl, h⟩
section
variable {prog : Program} {w : World} {A : Around} {E : Value → Shared → Prop} {s : Shared}
theorem enum_begins1 {v : Value} {o : Obj} {H : Heap → Prop} {Q : Value → Shared → Prop} (B : Begins v o H) (h1 : H s.heap)
    (h : ∀ h', IsEnum h' (s.heap.objs.size + 1) s.heap.objs.size 0 .none → h'.get? s.heap.objs.size = some o → h'.objs.size = s.heap.objs.size + 2 →
      (∀ b o, s.heap.get? b = some o → h'.get? b = some o) → Q (.ref (s.heap.objs.size + 1)) { s with heap := h' }) :
    wpAny (model prog w) A (call (.type "enumerate") [v]) Q E s := by
  refine callType_new F.called_enumerate (by decide) (F.typeCall_enumerate_1 _) (F.newCall_enumerate_1 _) (fun obj => F.args_object_init_2 obj _) F.entry_enumerate_new
    (meets_enumerate_newB1 B) ⟨h1, ?_⟩
  have hz : (s.heap.push o).objs.size = s.heap.objs.size + 1 := Heap.size_push ..
  show _ ∧ _
  rw [hz]
  have he : IsEnum ((s.heap.push o).push { cls := .type "enumerate", data := .fields #[.none, .bool false, .ref s.heap.objs.size, rawInt 0, .none, .none] }) (s.heap.objs.size + 1) s.heap.objs.size 0 .none := by
    have := Heap.get?_push_size (s.heap.push o) (o := { cls := .type "enumerate", data := .fields #[.none, .bool false, .ref s.heap.objs.size, rawInt 0, .none, .none] }) rfl
    rw [hz] at this; exact this
  refine ⟨⟨_, he, rfl⟩, h _ he (Heap.get?_push_of_some _ (Heap.get?_push_size _ B.free)) (by rw [Heap.size_push, hz]) fun b o x => Heap.get?_push_of_some _ (Heap.get?_push_of_some _ x)⟩
end
end PySem
namespace DN
open PySem PySem.Spec PyProof.Rows L2
def IteT (K : PySem.W.Frag) (a : Addr) : It :=
  ⟨fun i H => ∃ (xs : List V) (x : V), SqT K H a xs ∧ xs[i]? = some x, fun i H v H' => ∃ T x, v = .ref T ∧ H T = none ∧ H' = upd H T (.tup [.int (i : Nat), x]) ∧ ∀ xs, SqT K H a xs → xs[i]? = some x, fun i H => ∃ xs : List V, SqT K H a xs ∧ xs.length = i⟩
theorem turn_enumT {P : Program} {w : World} {K : PySem.W.Frag} {elts : List Expr} {kk : Nat} {tpos : Pos} (a e it : Addr) :
    Turn P w K (.Tuple elts kk tpos) (IteT K a) [e, it] e (fun i h => (∃ old, IsEnum h e it ((i : Nat) : Int) old) ∧ h.IsTupleIter it a i ∧ e ≠ it ∧ e ≠ a ∧ a ≠ it) where
  mem := by simp
  obj := fun i h st b hb => by
    obtain ⟨⟨old, he⟩, ⟨o, ho, hc, hd⟩, _⟩ := st
    have e' : b = e ∨ b = it := by simpa using hb
    rcases e' with z | z
    · rw [z]; exact ⟨_, he, fun v q => nomatch q⟩
    · rw [z]; exact ⟨o, ho, fun v q => by rw [hd] at q; cases q⟩
  keep := fun i h h' st k => let ⟨⟨old, he⟩, hi, hne⟩ := st; ⟨⟨old, k e (by simp) _ he⟩, hi.at fun o q => k it (by simp) o q, hne⟩
  item := by
    intro X hP hw hK hc i pins s σ H E I hf st hg
    subst hP hw hK
    obtain ⟨⟨old, he⟩, hit, hne, hea, hai⟩ := st
    obtain ⟨xs, x, hq, hx⟩ := hg
    obtain ⟨its, rv, p, hz⟩ := I.tuple hq
    obtain ⟨u, hu, ru⟩ := rv.get hx
    have hel : e < s.heap.objs.size := Heap.lt_size he
    have hil : it < s.heap.objs.size := by obtain ⟨_, q, _⟩ := hit; exact Heap.lt_size q
    have hlt : i < its.toArray.size := by
      rcases Nat.lt_or_ge i its.toArray.size with q | q
      · exact q
      · have : its[i]? = none := List.getElem?_eq_none (by simpa using q)
        rw [this] at hu
        cases hu
    have hh : X.A.in1.handled = none := I.ok.hd hc
    have D : Draws X.prog X.w X.A.in1 it [it, a] its.toArray.size (fun i v => its.toArray[i]? = some v) (fun i h => h.IsTupleIter it a i ∧ h.IsTuple a its.toArray) := Draws.tuple hh it a hai its.toArray
    refine wpAny_pyNext_enum_itemD D he ⟨hit, p⟩ hlt hne (by simp [hne, hea]) fun x' h' tk hP' ho hs' hT hsz hk => ?_
    have hx' : x' = u := by
      have h1 : its.toArray[i]? = some u := by simpa using hu
      rw [h1] at hP'
      exact (Option.some.inj hP').symm
    subst hx'
    refine ⟨_, rfl, wpAny_letOwnedTupleGo_enum (s := { s with heap := h', toks := tk + 1 }) ho fun h'' he' sb => ?_⟩
    have hT2 : h''.get? s.heap.objs.size = some { cls := .type "tuple", data := .seq #[.int i tk, x'] } := (sb.2 _ (Nat.ne_of_gt hel)).trans hT
    have new : ObjOk X.prog X.w (upd H s.heap.objs.size (.tup [.int (i : Nat), x])) h'' s.heap.objs.size (.tup [.int (i : Nat), x]) :=
      ⟨by show 2 ≤ sizeLine; decide, [.int i tk, x'], .cons ⟨_, rfl⟩ (.cons ru .nil), ⟨_, hT2, rfl, _, rfl⟩⟩
    have I1 : Inv X pins σ (upd H s.heap.objs.size (.tup [.int (i : Nat), x])) { s with heap := h'', toks := tk + 1 } :=
      I.turnedNew (t' := tk + 1) (ch := [e, it]) (fun b ob hb q => (sb.2 b (fun z => hb (by simp [z]))).trans (hk b ob (fun z => hb (by simp [z])) (fun z => hb (by simp [z])) q)) hf (Nat.le_refl _) new
    refine ⟨.ref s.heap.objs.size, _, I1, rfl, ⟨_, x, rfl, I.hok.fresh (Nat.le_refl _), rfl, fun ys hy => by rw [I.tuple_inj hy hq]; exact hx⟩, ⟨⟨x', ?_⟩, hs'.1.at fun o q => (sb.2 it (Ne.symm hne)).trans q, hne, hea, hai⟩, fun b hb => ?_⟩
    · have e1 : ((i + 1 : Nat) : Int) = (i : Int) + 1 := by omega
      rw [e1]; exact he'
    · have hb' : b < s.heap.objs.size := by
        have e' : b = e ∨ b = it := by simpa using hb
        rcases e' with z | z
        · rw [z]; exact hel
        · rw [z]; exact hil
      rw [upd_ne (Nat.ne_of_lt hb')]
      exact (hf b hb).1
  done := by
    intro X hP hw hK hc i pins s σ H E I hf st hg
    subst hP hw hK
    obtain ⟨⟨old, he⟩, hit, hne, hea, hai⟩ := st
    obtain ⟨xs, hq, hx⟩ := hg
    obtain ⟨its, rv, p, hz⟩ := I.tuple hq
    obtain ⟨f0, f1, f2, f3, f4, f5⟩ := hf it (by simp)
    have hl := rv.length
    have hh : X.A.in1.handled = none := I.ok.hd hc
    have D : Draws X.prog X.w X.A.in1 it [it, a] its.toArray.size (fun i v => its.toArray[i]? = some v) (fun i h => h.IsTupleIter it a i ∧ h.IsTuple a its.toArray) := Draws.tuple hh it a hai its.toArray
    have hn : i = its.toArray.size := by rw [List.size_toArray]; omega
    exact wpAny_pyNext_enum_endD D he (by rw [← hn]; exact ⟨hit, p⟩) fun h' eb => ⟨rfl, I.turned (t' := s.toks) (fun b o hb q => eb b o hb q) f0 f1 f3 f4 f5⟩
  self := fun A i s Q E st h => let ⟨⟨_, he⟩, _⟩ := st; wpAny_pyIter_enum he h
def iEnumA (K : PySem.W.Frag) (ta : TA) : TI := fun σ H R => ta σ H fun vs H1 => ∃ (a : Addr) (xs : List V), vs = [.ref a] ∧ ((SqL K H1 a xs ∧ R (Ite K a) H1) ∨ (SqT K H1 a xs ∧ R (IteT K a) H1))
theorem pi_enumA {X : Cx} {e : Expr} {ta : TA} {p pos tpos : Pos} {elts : List Expr} {kk : Nat} (hg : Gl X "enumerate") (hm : X.mg "enumerate" = none) (ha : PA X [e] ta) (hs : starEach [e] X.env = [(false, eval e X.env)] := by rfl) :
    PI X (.Tuple elts kk tpos) (.Call (.Name "enumerate" p) [e] [] pos) (iEnumA X.K ta) := by
  refine ⟨fun pins s σ H R I h => ?_⟩
  refine Call_ (ld_blt I hg hm boot_enumerate (PyProof.Rows.callWith_type1 (thn (ha.run pos pins s σ H _ I h) fun us s1 ⟨vs, H1, I1, r1, q1⟩ => ?_) hs rfl))
  obtain ⟨a, xs, ex, q1⟩ := q1
  subst ex
  cases r1 with
  | cons r rr =>
    cases rr
    cases r
    have fresh2 : ∀ b, b ∈ [s1.heap.objs.size + 1, s1.heap.objs.size] → FpOk X pins H1 b := fun b hb => by
      have e' : b = s1.heap.objs.size + 1 ∨ b = s1.heap.objs.size := by simpa using hb
      have hle : s1.heap.objs.size ≤ b := by
        rcases e' with z | z
        · rw [z]; exact Nat.le_add_right _ _
        · rw [z]; exact Nat.le_refl _
      exact I1.fpOk hle (I1.hok.fresh hle)
    rcases q1 with ⟨hq, q⟩ | ⟨hq, q⟩
    · obtain ⟨its, rv, p', hz⟩ := I1.list hq
      refine call_enumerate_list p'.isList fun h' he hit hsz hk => wpAny_pyIter_enum he ?_
      have I2 : Inv X pins σ H1 { s1 with heap := h' } := I1.kept (t' := s1.toks) hk
      exact ⟨s1.heap.objs.size + 1, [s1.heap.objs.size + 1, s1.heap.objs.size], _, _, H1, rfl, I2, turn_enum a (s1.heap.objs.size + 1) s1.heap.objs.size, ⟨⟨.none, he⟩, hit, Nat.succ_ne_self _⟩, fresh2, q⟩
    · obtain ⟨its, rv, p', hz⟩ := I1.tuple hq
      have hla : a < s1.heap.objs.size := by obtain ⟨o, ho, _⟩ := id p'; exact Heap.lt_size ho
      refine enum_begins1 (begins_tuple a its.toArray) (show s1.heap.IsTuple a its.toArray from p') fun h' he hit hsz hk => wpAny_pyIter_enum he ?_
      have I2 : Inv X pins σ H1 { s1 with heap := h' } := I1.kept (t' := s1.toks) hk
      exact ⟨s1.heap.objs.size + 1, [s1.heap.objs.size + 1, s1.heap.objs.size], _, _, H1, rfl, I2, turn_enumT a (s1.heap.objs.size + 1) s1.heap.objs.size, ⟨⟨.none, he⟩, ⟨_, hit, rfl, rfl⟩, Nat.succ_ne_self _, (fun z => by rw [← z] at hla; exact Nat.lt_irrefl _ (Nat.lt_of_succ_lt hla)), Nat.ne_of_lt hla⟩, fresh2, q⟩
def enumD : Nat → List PyData → List PyData
  | _, [] => []
  | k, d :: r => .tuple [.int (k : Nat), d] :: enumD (k + 1) r
theorem enumD_len : ∀ (k : Nat) (ds : List PyData), (enumD k ds).length = ds.length
  | _, [] => rfl
  | k, d :: r => by
    show (enumD (k + 1) r).length + 1 = r.length + 1
    rw [enumD_len]
theorem enumD_get : ∀ {k : Nat} {ds : List PyData} {i : Nat} {d : PyData}, ds[i]? = some d → (enumD k ds)[i]? = some (.tuple [.int ((k + i : Nat) : Int), d])
  | _, [], _, _, h => by simp at h
  | k, a :: r, 0, d, h => by
    simp at h
    subst h
    rfl
  | k, a :: r, i + 1, d, h => by
    rw [List.getElem?_cons_succ] at h
    show (enumD (k + 1) r)[i]? = _
    rw [enumD_get h, show k + 1 + i = k + (i + 1) by omega]
def iEnumF (f : En → Option PyData) : En → Option (List PyData) := fun en => ((f en).bind items).map (enumD 0)
section
variable {X : Cx} {Ts : TsT} {pos p tpos : Pos} {e : Expr} {f : En → Option PyData} {elts : List Expr} {kk : Nat}
theorem gives_enum {K : PySem.W.Frag} {H1 : Hp} {O : List Addr} {J : It} {xs : List V} {ds : List PyData} (go : ∀ O' H2, Xt (hide H1 O) (hide H2 O') → Xt (hide H1 O) H2 → (∀ i x, xs[i]? = some x → J.go i H2) ∧ J.stop xs.length H2 ∧
      ∀ i v H3, J.yld i H2 v H3 → ∃ T x, v = .ref T ∧ H2 T = none ∧ H3 = upd H2 T (.tup [.int (i : Nat), x]) ∧ xs[i]? = some x)
    (a : DpAll K (hide H1 O) xs ds) : Gives K Ts J (enumD 0 ds) H1 O := fun O' H2 h1 h2 occ => by
  obtain ⟨g1, g2, g3⟩ := go O' H2 h1 h2
  have la := DpAll.len a
  have a2 := DpAll.mono h1 a
  refine ⟨fun i hi => ?_, ?_, fun i v H3 hi hy => ?_⟩
  · rw [enumD_len] at hi
    exact g1 i (xs[i]'(by omega)) (List.getElem?_eq_getElem _)
  · rw [enumD_len, ← la]
    exact g2
  · obtain ⟨T, x, rfl, nT, rfl, ex⟩ := g3 i v H3 hy
    obtain ⟨d1, hd1, q1⟩ := DpAll.get a2 ex
    have hg := enumD_get (k := 0) hd1
    rw [Nat.zero_add] at hg
    exact ⟨.tuple [.int (i : Nat), d1], hg, Xt.upd nT, fun t => t.new nT, tup_new nT (fun z => (occ T z).1 nT) (.cons (.int _) (.cons q1 .nil))⟩
theorem di_enum (hg : Gl X "enumerate") (hm : X.mg "enumerate" = none) (ha : DE X Ts e f) (hs : starEach [e] X.env = [(false, eval e X.env)] := by rfl) :
    DI X Ts (.Tuple elts kk tpos) (.Call (.Name "enumerate" p) [e] [] pos) (iEnumF f) :=
  PI.imp (pi_enumA (ta := tCons (tD X.K Ts f) tNil) hg hm (pa_cons ha pa_nil hs) hs) fun σ H R ⟨He, O, en, ds, rp, hf, kk⟩ => by
    unfold iEnumF at hf
    obtain ⟨es, h0, rfl⟩ := Option.map_eq_some_iff.mp hf
    obtain ⟨d, h1, h2⟩ := Option.bind_eq_some_iff.mp h0
    refine tD.of rp h1 fun v H1 x1 r1 q1 => ?_
    cases d <;> simp only [items] at h2 <;> cases h2
    · cases q1 with
      | lst s a =>
        have t1 := sqL_mono (fun o n e => (hide_some e).2) s
        refine ⟨_, _, rfl, .inl ⟨t1, kk _ H1 x1 r1.tabs (gives_enum (fun O' H2 y1 y2 => ?_) a)⟩⟩
        have u1 := sqL_mono (fun o n e => y2.get _ o e n) s
        exact ⟨fun i x ex => ⟨_, x, u1, ex⟩, ⟨_, u1, Nat.le_refl _⟩, fun i v H3 ⟨T, x, h1, h2, h3, h4⟩ => ⟨T, x, h1, h2, h3, h4 _ u1⟩⟩
    · cases q1 with
      | tup s a =>
        have t1 := sqT_mono (fun o n e => (hide_some e).2) s
        refine ⟨_, _, rfl, .inr ⟨t1, kk _ H1 x1 r1.tabs (gives_enum (fun O' H2 y1 y2 => ?_) a)⟩⟩
        have u1 := sqT_mono (fun o n e => y2.get _ o e n) s
        exact ⟨fun i x ex => ⟨_, x, u1, ex⟩, ⟨_, u1, rfl⟩, fun i v H3 ⟨T, x, h1, h2, h3, h4⟩ => ⟨T, x, h1, h2, h3, h4 _ u1⟩⟩
end
def sPar3O (i j l : Nat) (f h g : En → Option PyData) : En → Option Fl := fun en => (f en).bind fun x => (h en).bind fun y => match g en with
  | some (.list ds) => if i < en.length ∧ j < en.length ∧ l < en.length then some (.nx (((en.set i (.dat x)).set j (.dat y)).set l (.own ds))) else none
  | _ => none
section
variable {X : Cx} {Ts : TsT} {pos : Pos} {a b c : Expr}
theorem s_par3O {i j l : Nat} {x y z : Str} {px py pz pt : Pos} {kt k2 pt2} {f h g : En → Option PyData} (hc : X.calm = true) (hN : X.N.Nodup) (hi : X.N[i]? = some x) (hj : X.N[j]? = some y) (hl : X.N[l]? = some z) (hij : i ≠ j) (hil : i ≠ l) (hjl : j ≠ l)
    (hx : X.env.scope.names.lookup x = some .local) (hy : X.env.scope.names.lookup y = some .local) (hz : X.env.scope.names.lookup z = some .local) (ha : DE X Ts a f) (hb : DE X Ts b h) (hcc : DNew X Ts c g) (hw : swappedStores [.Tuple [.Name x px, .Name y py, .Name z pz] kt pt] (.Tuple [a, b, c] k2 pt2) X.env = pure (some [x, y, z]))
    (hs1 : starEach [a, b, c] X.env = (false, eval a X.env) :: starEach [b, c] X.env := by rfl) (hs2 : starEach [b, c] X.env = (false, eval b X.env) :: starEach [c] X.env := by rfl) (hs3 : starEach [c] X.env = (false, eval c X.env) :: starEach [] X.env := by rfl)
    (hs : swapsWithSole [.Tuple [.Name x px, .Name y py, .Name z pz] kt pt] (.Tuple [a, b, c] k2 pt2) pos.line X.env = pure false := by rfl) : DS X Ts (.Assign [.Tuple [.Name x px, .Name y py, .Name z pz] kt pt] (.Tuple [a, b, c] k2 pt2) pos) (sPar3O i j l f h g) :=
  PS.imp (ps_par3 hc hN hi hj hl hij hil hjl hx hy hz (pa_cons ha (pa_cons hb (pa_cons hcc pa_nil hs3) hs2) hs1) hw hs) fun D σ H ⟨He, O₀, Vz, en, r, rp, hf, k⟩ => by
    unfold sPar3O at hf
    obtain ⟨d1, h1, hf1⟩ := Option.bind_eq_some_iff.mp hf
    obtain ⟨d2, h2, hf2⟩ := Option.bind_eq_some_iff.mp hf1
    split at hf2
    · rename_i ds h3
      split at hf2
      · rename_i hlt
        cases hf2
        obtain ⟨O, a1, a2, rp, xv⟩ := rp
        refine tD.of rp h1 fun v H1 x1 r1 q1 => tD.of r1 h2 fun w H2 x2 r2 q2 => ⟨He, O, en, ds, r2, h3, fun p ws H3 x3 t3 na ha2 q3 => ⟨v, w, .ref p, rfl, k _ H3 ?_⟩⟩
        obtain ⟨r4, r5⟩ := ((r2.setD hlt.1 (Dp.mono (hide_mono x2) q1)).setD (i := j) (by simpa using hlt.2.1) q2).setO1 (i := l) (by simpa using hlt.2.2) x3 t3 na ha2 q3
        exact ⟨p :: O, fun b hb => List.mem_cons_of_mem _ (a1 b hb), a2, r4, xv.trans ((hide_mono (x1.trans x2)).trans r5)⟩
      · cases hf2
    · cases hf2
end
end DN
namespace Ty
open PySem PySem.Spec PyProof.Rows L2 DN
section
variable {α β γ ξ σ ζ : Type} {en : En} {f g h : En → Option PyData} {F G : En → Option Fl} {ea : α → PyData} {eb : β → PyData} {ec : γ → PyData} {er : ξ → PyData} {A : Option α} {B : Option β} {C : Option (List γ)} {i j l : Nat} {env : σ → ζ → En}
theorem par3O_eq (p : f en = A.map ea) (p1 : g en = B.map eb) (p2 : h en = C.map (eL ec)) (hi : i < en.length) (hj : j < en.length) (hl : l < en.length) : sPar3O i j l f g h en = (A.bind fun x => B.bind fun y => C.bind fun z => some (Fl.nx (((en.set i (.dat (ea x))).set j (.dat (eb y))).set l (.own (z.map ec))))) := by
  unfold sPar3O
  rw [p, p1, p2]
  cases A with
  | none => rfl
  | some a => cases B with
    | none => rfl
    | some b => cases C with
      | none => rfl
      | some c =>
        show (if i < en.length ∧ j < en.length ∧ l < en.length then _ else _) = _
        rw [if_pos ⟨hi, hj, hl⟩]
        rfl
end
section
variable {α β γ ξ σ : Type} {ea : α → PyData} {eb : β → PyData} {ec : γ → PyData} {en : En} {f g : En → Option PyData}
theorem g_o2 {G : PyData → PyData → Option PyData} {k : α → β → Option γ} (hn : ∀ x, G (ea x) .none = none) (h : ∀ x y, G (ea x) (eb y) = (k x y).map ec) (x : α) (y : Option β) : G (ea x) (eO eb y) = (y.bind fun b => k x b).map ec := by
  cases y with
  | none => exact hn x
  | some b => exact h x b
def enumN : Nat → List α → List (Int × α)
  | _, [] => []
  | k, x :: r => ((k : Int), x) :: enumN (k + 1) r
theorem enum_map (e : α → PyData) : ∀ (k : Nat) (l : List α), enumD k (l.map e) = (enumN k l).map (e2 eI e)
  | _, [] => rfl
  | k, x :: r => by
    show PyData.tuple [.int (k : Nat), e x] :: enumD (k + 1) (r.map e) = _
    rw [enum_map e (k + 1) r]
    rfl
theorem i_enumL {e : α → PyData} {A : Option (List α)} (pa : f en = A.map (eL e)) : iEnumF f en = (A.bind fun x => some (enumN 0 x)).map (List.map (e2 eI e)) := by
  unfold iEnumF
  rw [pa]
  cases A with
  | none => rfl
  | some l => exact congrArg some (enum_map e 0 l)
end
end Ty
namespace DN
open PySem PySem.Spec PyProof.Rows L2
theorem Rep.fresh {K : PySem.W.Frag} {Ts : TsT} {He : Hp} {O : List Addr} {σ : St} {H H1 : Hp} {en : En} {a : Addr} {vs : List V} (r : Rep K Ts He O σ H en) (x : Xt H H1) (t : Tb Ts H1) (na : H a = none) (ha : H1 a = some (.lst vs)) :
    Rep K Ts He (a :: O) σ H1 en ∧ Xt (hide H O) (hide H1 (a :: O)) := by
  have r1 := r.go x t
  have back : Xt (hide H O) (hide H1 (a :: O)) := fun b o e => by
    obtain ⟨e1, e2⟩ := hide_some e
    have nb : b ∉ a :: O := fun z => by
      rcases List.mem_cons.mp z with z | z
      · rw [z, na] at e2; cases e2
      · exact e1 z
    rcases x b o e2 with q | ⟨ps, qs, e3, q⟩
    · exact .inl (hide_of nb q)
    · exact .inr ⟨ps, qs, e3, hide_of nb q⟩
  refine ⟨⟨r.len, fun j d h => let ⟨v, q1, q2⟩ := r.dat j d h; ⟨v, q1, Dp.mono back q2⟩, fun j es h => let ⟨a', vs', q1, q2, q3, q4, q5⟩ := r.own j es h; ⟨a', vs', q1, List.mem_cons_of_mem _ q2, q3, x.get a' _ q4 (fun _ z => nomatch z), DpAll.mono back q5⟩, r.inj, fun b hb => ?_, r1.ext, t⟩, back⟩
  rcases List.mem_cons.mp hb with z | z
  · rw [z, ha]
    exact ⟨by simp, fun ps z => nomatch z⟩
  · exact r1.occ b z
def sPar3B (i j l : Nat) (f g h : En → Option PyData) : En → Option Fl := fun en => match f en, g en, h en with
  | some (.list ds), some (.list es), some (.list gs) => if i < en.length ∧ j < en.length ∧ l < en.length then some (.nx (((en.set i (.own ds)).set j (.own es)).set l (.own gs))) else none
  | _, _, _ => none
section
variable {X : Cx} {Ts : TsT} {pos : Pos} {a b c : Expr}
theorem s_par3C {i j l : Nat} {x y z : Str} {px py pz pt : Pos} {kt k2 pt2} {f g h : En → Option PyData} (hc : X.calm = true) (hN : X.N.Nodup) (hi : X.N[i]? = some x) (hj : X.N[j]? = some y) (hl : X.N[l]? = some z) (hij : i ≠ j) (hil : i ≠ l) (hjl : j ≠ l)
    (hx : Loc X.env.scope x) (hy : Loc X.env.scope y) (hz : Loc X.env.scope z) (ha : DNew X Ts a f) (hb : DNew X Ts b g) (hcc : DNew X Ts c h)
    (fx : X.fn x = true ∨ X.env.scope.names.lookup x = some .local := by first | exact .inl rfl | exact .inr rfl) (fy : X.fn y = true ∨ X.env.scope.names.lookup y = some .local := by first | exact .inl rfl | exact .inr rfl) (fz : X.fn z = true ∨ X.env.scope.names.lookup z = some .local := by first | exact .inl rfl | exact .inr rfl)
    (hs1 : starEach [a, b, c] X.env = (false, eval a X.env) :: starEach [b, c] X.env := by rfl) (hs2 : starEach [b, c] X.env = (false, eval b X.env) :: starEach [c] X.env := by rfl) (hs3 : starEach [c] X.env = (false, eval c X.env) :: starEach [] X.env := by rfl)
    (hs : swapsWithSole [.Tuple [.Name x px, .Name y py, .Name z pz] kt pt] (.Tuple [a, b, c] k2 pt2) pos.line X.env = pure false := by rfl) (hw : swappedStores [.Tuple [.Name x px, .Name y py, .Name z pz] kt pt] (.Tuple [a, b, c] k2 pt2) X.env = pure none := by rfl) : DS X Ts (.Assign [.Tuple [.Name x px, .Name y py, .Name z pz] kt pt] (.Tuple [a, b, c] k2 pt2) pos) (sPar3B i j l f g h) :=
  PS.imp (ps_asg (pe_tup (pa_cons ha (pa_cons hb (pa_cons hcc pa_nil hs3) hs2) hs1)) (pg_tup hc (pgs_cons (pg_name hN hi hx fx) (pgs_cons (pg_name hN hj hy fy) (pgs_cons (pg_name hN hl hz fz) pgs_nil)))) hs hw) fun D σ H ⟨He, O₀, Vz, en, r, rp, hf, k⟩ => by
    unfold sPar3B at hf
    split at hf
    · rename_i ds es gs h1 h2 h3
      split at hf
      · rename_i hlt
        cases hf
        obtain ⟨O, a1, a2, rp, xv⟩ := rp
        refine ⟨He, O, en, ds, rp, h1, fun p ws H2 x2 t2 na ha2 q2 => ?_⟩
        obtain ⟨r3, b3⟩ := rp.fresh x2 t2 na ha2
        obtain ⟨o3, _⟩ := rp.setO1 (i := i) hlt.1 x2 t2 na ha2 q2
        refine ⟨He, p :: O, en, es, r3, h2, fun p' ws' H3 x3 t3 na' ha3 q3 => ?_⟩
        obtain ⟨r4, b4⟩ := r3.fresh x3 t3 na' ha3
        obtain ⟨o4, _⟩ := o3.setO1 (i := j) (by simpa using hlt.2.1) x3 t3 na' ha3 q3
        refine ⟨He, p' :: p :: O, en, gs, r4, h3, fun p'' ws'' H4 x4 t4 na'' ha4 q4 => ?_⟩
        obtain ⟨o5, b5⟩ := o4.setO1 (i := l) (by simpa using hlt.2.2) x4 t4 na'' ha4 q4
        refine ⟨by show 3 ≤ sizeLine; decide, fun T nT => ⟨T, [.ref p, .ref p', .ref p''], rfl, .inl (.inl upd_same), rfl, .ref p, _, rfl, .ref p', _, rfl, .ref p'', _, rfl, rfl, k _ _ ?_⟩⟩
        have x5 : Xt H4 (upd H4 T (.tup [.ref p, .ref p', .ref p''])) := Xt.upd nT
        exact ⟨p'' :: p' :: p :: O, fun b hb => List.mem_cons_of_mem _ (List.mem_cons_of_mem _ (List.mem_cons_of_mem _ (a1 b hb))), a2, o5.go x5 (t4.new nT), xv.trans (((b3.trans b4).trans b5).trans (hide_mono x5))⟩
      · cases hf
    · cases hf
end
def bLst (is : List Nat) : PyData → En → Option En := fun d en => match d with
  | .list ds => bNames is ds en
  | _ => none
theorem dg_lst {X : Cx} {Ts : TsT} {pos : Pos} {es : List Expr} {k : Nat} {vs is : List Nat} (hc : X.calm = true) (h : PGs X es (gDs X.K Ts vs is)) (hn : (assignEach es X.env).length = is.length := by rfl) (hst : (assignEach es X.env).findIdx? (·.1) = none := by rfl) : DG X Ts (.Tuple es k pos) vs (bLst is) :=
  PG.imp (pg_unl hc h hn hst) fun v σ H Q ⟨He, O, en, d, en', r, q, hb, kk⟩ => by
    cases d <;> try cases hb
    rename_i ds
    cases q with
    | lst s a =>
      exact ⟨_, _, rfl, sqL_mono (fun o n e => (hide_some e).2) s, by rw [DpAll.len a]; exact bNames_len hb, He, O, en, ds, en', r, a, hb, kk⟩
end DN
namespace ZL
open PySem PySem.Spec PyProof.Rows L2 DN
open Sem (wp)
section
variable {prog : Program} {w : World} {A : Around} {E : Value → Shared → Prop} {s : Shared} {z TI TO T i1 i2 i3 : Addr} {f : Bool} {oT : Obj} {fp1 fp2 fp3 : List Addr} {n1 n2 n3 i : Nat} {P1 P2 P3 : Nat → Value → Prop} {St1 St2 St3 : Nat → Heap → Prop}
theorem held2_item {Q : Value → Shared → Prop} (S : ZipSep2 z TI TO i1 i2 fp1 fp2) (D1 : Draws prog w A i1 fp1 n1 P1 St1) (D2 : Draws prog w A i2 fp2 n2 P2 St2)
    (hz : IsZipHeld s.heap z TI TO T f) (hT : s.heap.get? T = some oT) (hTI : IsTupOf2 s.heap TI (.ref i1) (.ref i2)) (st1 : St1 i s.heap) (st2 : St2 i s.heap) (hlt1 : i < n1) (hlt2 : i < n2)
    (hQ : ∀ x1 x2 h' tk, P1 i x1 → P2 i x2 → IsZipHeld h' z TI TO T true → St1 (i + 1) h' → St2 (i + 1) h' → IsTupOf2 h' s.heap.objs.size x1 x2 → h'.objs.size = s.heap.objs.size + 1 →
      (∀ c o, c ≠ z → c ≠ i1 → c ≠ i2 → s.heap.get? c = some o → h'.get? c = some o) → Q (.ref s.heap.objs.size) { s with heap := h', toks := tk }) :
    wpAny (model prog w) A (Builtin.«zip.__next__» ⟨[.ref z], []⟩) (fun fin s' => ∃ v, fin = .done (.ret v) ∧ Q v s') E s := by
  obtain ⟨hp, g, d, tk0, os⟩ := s
  show wpAny _ _ (field (.ref z) 2 >>= _) _ _ _
  refine wpAny_bind (wpAny_field hz rfl (x := .bool false) rfl ?_)
  show wpAny _ _ (field (.ref z) 3 >>= _) _ _ _
  refine wpAny_bind (wpAny_field hz rfl (x := .ref TI) rfl ?_)
  refine wpAny_bind (wpAny_seqItems hTI rfl ?_)
  show wpAny _ _ (Builtin.SmallTypes.ownedTupleIsFree (.ref z) >>= _) _ _ _
  refine wpAny_bind (wpAny_tupleHeld_zip hz hT fun g0 hz0 hs0 => ?_)
  replace hs0 : Heap.SameBut z hp g0 := hs0
  simp only [Bool.false_eq_true, if_false]
  refine wpAny_bind ?_
  rw [← Array.forIn_toList]
  simp only [List.forIn_cons, List.forIn_nil]
  refine wpAny_bind (wpAny_bind (wpAny_holding ?_))
  show wpAny _ _ (Builtin.SmallTypes.nextOf (.ref i1) >>= _) _ _ _
  refine wpAny_bind (D1.item i ⟨g0, g, d, tk0, os⟩ _ _ hlt1 (D1.over st1 hs0 S.zf1) fun x1 p1 tk1 hx1 sn1 hp1 => wpAny_pure ?_)
  replace hp1 : Heap.SameBut i1 g0 p1 := hp1
  refine wpAny_pure ?_
  refine wpAny_bind (wpAny_bind (wpAny_holding ?_))
  show wpAny _ _ (Builtin.SmallTypes.nextOf (.ref i2) >>= _) _ _ _
  refine wpAny_bind (D2.item i ⟨p1, g, d, tk1, os⟩ _ _ hlt2 (D2.over (D2.over st2 hs0 S.zf2) hp1 S.sep1_2) fun x2 p2 tk2 hx2 sn2 hp2 => wpAny_pure ?_)
  replace hp2 : Heap.SameBut i2 p1 p2 := hp2
  refine wpAny_pure (wpAny_pure ?_)
  show wpAny _ _ (newTuple [x1, x2] >>= _) _ _ _
  refine wpAny_bind (wpAny_newTuple ?_)
  have hsz : p2.objs.size = hp.objs.size := by rw [hp2.1, hp1.1, hs0.1]
  have hz3 : IsZipHeld p2 z TI TO T true := hp2.extBut _ _ S.zi2 (hp1.extBut _ _ S.zi1 hz0)
  have hk : ∀ c o, c ≠ z → c ≠ i1 → c ≠ i2 → hp.get? c = some o → p2.get? c = some o := fun c o c1 c2 c3 e => hp2.extBut _ _ c3 (hp1.extBut _ _ c2 (hs0.extBut _ _ c1 e))
  refine wpAny_pure ⟨_, rfl, ?_⟩
  show Q (.ref p2.objs.size) _
  have up : ∀ c o, p2.get? c = some o → (p2.push { cls := .type "tuple", data := .seq #[x1, x2] }).get? c = some o := fun c o e => Heap.get?_push_of_some _ e
  have hp4 : IsTupOf2 (p2.push { cls := .type "tuple", data := .seq #[x1, x2] }) p2.objs.size x1 x2 := Heap.get?_push_size _ rfl
  have hz4 : (p2.push { cls := .type "tuple", data := .seq #[x1, x2] }).objs.size = p2.objs.size + 1 := Heap.size_push ..
  have j1 : St1 (i + 1) p2 := D1.over sn1 hp2 S.sep2_1
  rw [hsz] at hp4 hz4 ⊢
  exact hQ x1 x2 _ tk2 hx1 hx2 (up _ _ hz3) (D1.frame _ _ _ j1 fun b _ o e => up b o e) (D2.frame _ _ _ sn2 fun b _ o e => up b o e) hp4 hz4 fun c o c1 c2 c3 e => up _ _ (hk c o c1 c2 c3 e)
theorem held2_end {Q : Fin → Shared → Prop} (S : ZipSep2 z TI TO i1 i2 fp1 fp2) (D1 : Draws prog w A i1 fp1 n1 P1 St1) (D2 : Draws prog w A i2 fp2 n2 P2 St2)
    (hz : IsZipHeld s.heap z TI TO T f) (hT : s.heap.get? T = some oT) (hTI : IsTupOf2 s.heap TI (.ref i1) (.ref i2)) (st1 : St1 i s.heap) (st2 : St2 i s.heap) (hle1 : i ≤ n1) (hle2 : i ≤ n2) (hend : i = n1 ∨ i = n2)
    (hE : ∀ h' tk e, (∀ c o, c ≠ z → c ≠ i1 → c ≠ i2 → s.heap.get? c = some o → h'.get? c = some o) → (∃ o, h'.get? e = some o ∧ o.cls = .type "StopIteration") → E (.ref e) { s with heap := h', toks := tk }) :
    wpAny (model prog w) A (Builtin.«zip.__next__» ⟨[.ref z], []⟩) Q E s := by
  obtain ⟨hp, g, d, tk0, os⟩ := s
  show wpAny _ _ (field (.ref z) 2 >>= _) _ _ _
  refine wpAny_bind (wpAny_field hz rfl (x := .bool false) rfl ?_)
  show wpAny _ _ (field (.ref z) 3 >>= _) _ _ _
  refine wpAny_bind (wpAny_field hz rfl (x := .ref TI) rfl ?_)
  refine wpAny_bind (wpAny_seqItems hTI rfl ?_)
  show wpAny _ _ (Builtin.SmallTypes.ownedTupleIsFree (.ref z) >>= _) _ _ _
  refine wpAny_bind (wpAny_tupleHeld_zip hz hT fun g0 hz0 hs0 => ?_)
  replace hs0 : Heap.SameBut z hp g0 := hs0
  simp only [Bool.false_eq_true, if_false]
  refine wpAny_bind ?_
  rw [← Array.forIn_toList]
  simp only [List.forIn_cons, List.forIn_nil]
  refine wpAny_bind (wpAny_bind (wpAny_holding ?_))
  show wpAny _ _ (Builtin.SmallTypes.nextOf (.ref i1) >>= _) _ _ _
  by_cases hlt1 : i < n1
  · refine wpAny_bind (D1.item i ⟨g0, g, d, tk0, os⟩ _ _ hlt1 (D1.over st1 hs0 S.zf1) fun x1 p1 tk1 hx1 sn1 hp1 => wpAny_pure ?_)
    replace hp1 : Heap.SameBut i1 g0 p1 := hp1
    have hi2 : i = n2 := by omega
    refine wpAny_pure ?_
    refine wpAny_bind (wpAny_bind (wpAny_holding ?_))
    show wpAny _ _ (Builtin.SmallTypes.nextOf (.ref i2) >>= _) _ _ _
    refine wpAny_bind (D2.done ⟨p1, g, d, tk1, os⟩ _ _ (by rw [← hi2]; exact (D2.over (D2.over st2 hs0 S.zf2) hp1 S.sep1_2)) fun q e hq he => ?_)
    replace hq : Heap.ExtBut i2 p1 q := hq
    exact hE q tk1 e (fun c o cz c1 c2 x => hq _ _ c2 (hp1.extBut _ _ c1 (hs0.extBut _ _ cz x))) he
  · have hi1 : i = n1 := by omega
    refine wpAny_bind (D1.done ⟨g0, g, d, tk0, os⟩ _ _ (by rw [← hi1]; exact (D1.over st1 hs0 S.zf1)) fun q e hq he => ?_)
    replace hq : Heap.ExtBut i1 g0 q := hq
    exact hE q tk0 e (fun c o cz c1 c2 x => hq _ _ c1 (hs0.extBut _ _ cz x)) he
end
structure ZlG (P : Nat → Array Value → Prop) (lo : Addr) (h : Heap) (as : List Addr) : Prop where
  rise : as.Pairwise (· < ·)
  above : ∀ a ∈ as, lo < a
  pairs : ∀ (j : Nat) (a : Addr), as[j]? = some a → ∃ vals, P j vals ∧ h.get? a = some { cls := .type "tuple", data := .seq vals }
theorem ZlG.there {P : Nat → Array Value → Prop} {lo : Addr} {h : Heap} {as : List Addr} (g : ZlG P lo h as) {a : Addr} (ha : a ∈ as) : a < h.objs.size := by
  obtain ⟨j, hj⟩ := List.mem_iff_getElem?.mp ha
  obtain ⟨_, _, e⟩ := g.pairs j a hj
  exact Heap.lt_size e
end ZL
namespace EZ
open PySem PySem.Spec PyProof.Rows L2 DN
open Sem (wp)
section
variable {prog : Program} {w : World} {A : Around} {E : Value → Shared → Prop} {s : Shared} {z TI TO T i1 i2 : Addr} {f : Bool} {u1 u2 : Value} {fp1 fp2 : List Addr} {n1 n2 i : Nat} {P1 P2 : Nat → Value → Prop} {St1 St2 : Nat → Heap → Prop}
theorem dead_free {Q : Bool → Shared → Prop} (hz : IsZipHeld s.heap z TI TO T f) (hT : s.heap.get? T = none) (h : Q true s) : wpAny (model prog w) A (Builtin.SmallTypes.ownedTupleIsFree (.ref z)) Q E s := by
  unfold Builtin.SmallTypes.ownedTupleIsFree
  refine wpAny_bind (wpAny_field hz rfl (x := rawInt T) rfl ?_)
  show wpAny _ _ (loadIfAlive ((T : Int).toNat) >>= _) _ _ _
  rw [Int.toNat_natCast]
  have al : ∀ {Q' : Option Obj → Shared → Prop}, Q' none s → wpAny (model prog w) A (loadIfAlive T) Q' E s := fun {Q'} q => by
    have q' : Q' (s.heap.get? T) s := by rw [hT]; exact q
    exact fun _ _ _ => q'
  refine wpAny_bind (al ?_)
  simp only [Option.isNone_none, if_true]
  exact wpAny_pure h
theorem dead2_item {Q : Value → Shared → Prop} (S : ZipSep2 z TI TO i1 i2 fp1 fp2) (D1 : Draws prog w A i1 fp1 n1 P1 St1) (D2 : Draws prog w A i2 fp2 n2 P2 St2)
    (hz : IsZipHeld s.heap z TI TO T f) (hT : s.heap.get? T = none) (hTI : IsTupOf2 s.heap TI (.ref i1) (.ref i2)) (hTO : IsTupOf2 s.heap TO u1 u2) (st1 : St1 i s.heap) (st2 : St2 i s.heap) (hlt1 : i < n1) (hlt2 : i < n2)
    (hQ : ∀ x1 x2 h' tk, P1 i x1 → P2 i x2 → IsZip h' z TI TO (rawInt s.heap.objs.size) → IsTupOf2 h' TO x1 x2 → St1 (i + 1) h' → St2 (i + 1) h' → IsTupOf2 h' s.heap.objs.size x1 x2 → h'.objs.size = s.heap.objs.size + 1 →
      (∀ c o, c ≠ z → c ≠ TO → c ≠ i1 → c ≠ i2 → s.heap.get? c = some o → h'.get? c = some o) → Q (.ref s.heap.objs.size) { s with heap := h', toks := tk }) :
    wpAny (model prog w) A (Builtin.«zip.__next__» ⟨[.ref z], []⟩) (fun fin s' => ∃ v, fin = .done (.ret v) ∧ Q v s') E s := by
  obtain ⟨hp, g, d, tk0, os⟩ := s
  show wpAny _ _ (field (.ref z) 2 >>= _) _ _ _
  refine wpAny_bind (wpAny_field hz rfl (x := .bool false) rfl ?_)
  show wpAny _ _ (field (.ref z) 3 >>= _) _ _ _
  refine wpAny_bind (wpAny_field hz rfl (x := .ref TI) rfl ?_)
  refine wpAny_bind (wpAny_seqItems hTI rfl ?_)
  show wpAny _ _ (Builtin.SmallTypes.ownedTupleIsFree (.ref z) >>= _) _ _ _
  refine wpAny_bind (dead_free hz hT ?_)
  simp only [if_true]
  refine wpAny_bind (wpAny_rule ?_)
  refine wpAny_bind (wpAny_field hz rfl (x := .ref TO) rfl ?_)
  refine wpAny_bind (wpAny_setField_rec hz (by simp) fun k0 z0 m0 => ?_)
  replace z0 : k0.get? z = some { cls := .type "zip", dict := none, data := .fields #[.ellipsis, .bool f, .bool false, .ref TI, .ref TO], slots := #[] } := z0
  replace m0 : Heap.SameBut z hp k0 := m0
  refine wpAny_bind ?_
  simp only [List.zipIdx_cons, List.zipIdx_nil, List.forIn_cons, List.forIn_nil]
  refine wpAny_bind (wpAny_bind (wpAny_onRaise ?_))
  show wpAny _ _ (Builtin.SmallTypes.nextOf (.ref i1) >>= _) _ _ ⟨k0, g, d, tk0, os⟩
  refine wpAny_bind (D1.item i _ _ _ hlt1 (D1.over st1 m0 S.zf1) fun x1 k1 tk1 y1 j1 m1 => wpAny_pure ?_)
  replace m1 : Heap.SameBut i1 k0 k1 := m1
  have o1 : IsTupOf2 k1 TO u1 u2 := m1.extBut _ _ S.Ti1 (m0.extBut _ _ S.TOz hTO)
  refine wpAny_bind (wpAny_seqItems (s := ⟨k1, g, d, tk1, os⟩) o1 rfl ?_)
  refine wpAny_bind (updateSeq_IsTupOf2 (s := ⟨k1, g, d, tk1, os⟩) o1 fun k2 o2 m2 => ?_)
  replace o2 : IsTupOf2 k2 TO x1 u2 := o2
  replace m2 : Heap.SameBut TO k1 k2 := m2
  refine wpAny_bind (wpAny_letGo (wpAny_pure ?_))
  refine wpAny_bind (wpAny_bind (wpAny_onRaise ?_))
  show wpAny _ _ (Builtin.SmallTypes.nextOf (.ref i2) >>= _) _ _ ⟨k2, g, d, tk1, os⟩
  refine wpAny_bind (D2.item i _ _ _ hlt2 (D2.over (D2.over (D2.over st2 m0 S.zf2) m1 S.sep1_2) m2 S.Tf2) fun x2 k3 tk2 y2 j2 m3 => wpAny_pure ?_)
  replace m3 : Heap.SameBut i2 k2 k3 := m3
  have o3 : IsTupOf2 k3 TO x1 u2 := m3.extBut _ _ S.Ti2 o2
  refine wpAny_bind (wpAny_seqItems (s := ⟨k3, g, d, tk2, os⟩) o3 rfl ?_)
  refine wpAny_bind (updateSeq_IsTupOf2 (s := ⟨k3, g, d, tk2, os⟩) o3 fun k4 o4 m4 => ?_)
  replace o4 : IsTupOf2 k4 TO x1 x2 := o4
  replace m4 : Heap.SameBut TO k3 k4 := m4
  refine wpAny_bind (wpAny_letGo (wpAny_pure (wpAny_pure ?_)))
  refine wpAny_bind (wpAny_seqItems (s := ⟨k4, g, d, tk2, os⟩) o4 rfl ?_)
  refine wpAny_bind (wpAny_newTuple ?_)
  have sz : k4.objs.size = hp.objs.size := by rw [m4.1, m3.1, m2.1, m1.1, m0.1]
  have z4 := m4.extBut _ _ S.TOz.symm (m3.extBut _ _ S.zi2 (m2.extBut _ _ S.TOz.symm (m1.extBut _ _ S.zi1 z0)))
  have kk : ∀ c o, c ≠ z → c ≠ TO → c ≠ i1 → c ≠ i2 → hp.get? c = some o → k4.get? c = some o := fun c o cz cT c1 c2 e =>
    m4.extBut _ _ cT (m3.extBut _ _ c2 (m2.extBut _ _ cT (m1.extBut _ _ c1 (m0.extBut _ _ cz e))))
  have q1 : St1 (i + 1) k4 := D1.over (D1.over (D1.over j1 m2 S.Tf1) m3 S.sep2_1) m4 S.Tf1
  have q2 : St2 (i + 1) k4 := D2.over j2 m4 S.Tf2
  have zlt : z < k4.objs.size := Heap.lt_size z4
  show wpAny _ _ (Builtin.SmallTypes.ownedTupleHandOut (.ref z) (.ref k4.objs.size) >>= _) _ _ ⟨k4.push { cls := .type "tuple", data := .seq #[x1, x2] }, g, d, tk2, os⟩
  refine wpAny_bind ?_
  unfold Builtin.SmallTypes.ownedTupleHandOut
  have z5 := Heap.get?_push_of_some ({ cls := .type "tuple", data := .seq #[x1, x2] } : Obj) z4
  refine wpAny_bind (wpAny_setField_rec z5 (by simp) fun k6 z6 m6 => ?_)
  replace z6 : k6.get? z = some { cls := .type "zip", dict := none, data := .fields #[rawInt k4.objs.size, .bool f, .bool false, .ref TI, .ref TO], slots := #[] } := z6
  refine wpAny_setField_rec z6 (by simp) fun k7 z7 m7 => ?_
  replace z7 : IsZip k7 z TI TO (rawInt k4.objs.size) := z7
  replace m6 : Heap.SameBut z (k4.push { cls := .type "tuple", data := .seq #[x1, x2] }) k6 := m6
  replace m7 : Heap.SameBut z k6 k7 := m7
  have up : ∀ c o, c ≠ z → k4.get? c = some o → k7.get? c = some o := fun c o c1 e => m7.extBut _ _ c1 (m6.extBut _ _ c1 (Heap.get?_push_of_some _ e))
  have t7 : IsTupOf2 k7 k4.objs.size x1 x2 := m7.extBut _ _ (Nat.ne_of_gt zlt) (m6.extBut _ _ (Nat.ne_of_gt zlt) (Heap.get?_push_size _ rfl))
  have s7 : k7.objs.size = k4.objs.size + 1 := by rw [m7.1, m6.1, Heap.size_push]
  rw [sz] at z7 t7 s7
  refine wpAny_pure ⟨_, rfl, ?_⟩
  show Q (.ref k4.objs.size) ⟨k7, g, d, tk2, os⟩
  rw [sz]
  exact hQ x1 x2 k7 tk2 y1 y2 z7 (up _ _ S.TOz o4) (D1.frame _ _ _ q1 fun b hb o e => up b o (fun q => S.zf1 (q ▸ hb)) e) (D2.frame _ _ _ q2 fun b hb o e => up b o (fun q => S.zf2 (q ▸ hb)) e) t7 s7 fun c o cz cT c1 c2 e => up c o cz (kk c o cz cT c1 c2 e)
theorem dead2_end {Q : Fin → Shared → Prop} (S : ZipSep2 z TI TO i1 i2 fp1 fp2) (D1 : Draws prog w A i1 fp1 n1 P1 St1) (D2 : Draws prog w A i2 fp2 n2 P2 St2)
    (hz : IsZipHeld s.heap z TI TO T f) (hT : s.heap.get? T = none) (hTI : IsTupOf2 s.heap TI (.ref i1) (.ref i2)) (hTO : IsTupOf2 s.heap TO u1 u2) (st1 : St1 i s.heap) (st2 : St2 i s.heap) (hle1 : i ≤ n1) (hle2 : i ≤ n2) (hend : i = n1 ∨ i = n2)
    (hE : ∀ h' tk e, (∀ c o, c ≠ z → c ≠ TO → c ≠ i1 → c ≠ i2 → s.heap.get? c = some o → h'.get? c = some o) → (∃ o, h'.get? e = some o ∧ o.cls = .type "StopIteration") → E (.ref e) { s with heap := h', toks := tk }) :
    wpAny (model prog w) A (Builtin.«zip.__next__» ⟨[.ref z], []⟩) Q E s := by
  obtain ⟨hp, g, d, tk0, os⟩ := s
  show wpAny _ _ (field (.ref z) 2 >>= _) _ _ _
  refine wpAny_bind (wpAny_field hz rfl (x := .bool false) rfl ?_)
  show wpAny _ _ (field (.ref z) 3 >>= _) _ _ _
  refine wpAny_bind (wpAny_field hz rfl (x := .ref TI) rfl ?_)
  refine wpAny_bind (wpAny_seqItems hTI rfl ?_)
  show wpAny _ _ (Builtin.SmallTypes.ownedTupleIsFree (.ref z) >>= _) _ _ _
  refine wpAny_bind (dead_free hz hT ?_)
  simp only [if_true]
  refine wpAny_bind (wpAny_rule ?_)
  refine wpAny_bind (wpAny_field hz rfl (x := .ref TO) rfl ?_)
  refine wpAny_bind (wpAny_setField_rec hz (by simp) fun k0 z0 m0 => ?_)
  replace z0 : k0.get? z = some { cls := .type "zip", dict := none, data := .fields #[.ellipsis, .bool f, .bool false, .ref TI, .ref TO], slots := #[] } := z0
  replace m0 : Heap.SameBut z hp k0 := m0
  refine wpAny_bind ?_
  simp only [List.zipIdx_cons, List.zipIdx_nil, List.forIn_cons, List.forIn_nil]
  refine wpAny_bind (wpAny_bind (wpAny_onRaise ?_))
  show wpAny _ _ (Builtin.SmallTypes.nextOf (.ref i1) >>= _) _ _ ⟨k0, g, d, tk0, os⟩
  by_cases lt1 : i < n1
  · refine wpAny_bind (D1.item i _ _ _ lt1 (D1.over st1 m0 S.zf1) fun x1 k1 tk1 y1 j1 m1 => wpAny_pure ?_)
    replace m1 : Heap.SameBut i1 k0 k1 := m1
    have o1 : IsTupOf2 k1 TO u1 u2 := m1.extBut _ _ S.Ti1 (m0.extBut _ _ S.TOz hTO)
    refine wpAny_bind (wpAny_seqItems (s := ⟨k1, g, d, tk1, os⟩) o1 rfl ?_)
    refine wpAny_bind (updateSeq_IsTupOf2 (s := ⟨k1, g, d, tk1, os⟩) o1 fun k2 o2 m2 => ?_)
    replace m2 : Heap.SameBut TO k1 k2 := m2
    refine wpAny_bind (wpAny_letGo (wpAny_pure ?_))
    have en : i = n2 := by omega
    refine wpAny_bind (wpAny_bind (wpAny_onRaise ?_))
    show wpAny _ _ (Builtin.SmallTypes.nextOf (.ref i2) >>= _) _ _ ⟨k2, g, d, tk1, os⟩
    refine wpAny_bind (D2.done ⟨k2, g, d, tk1, os⟩ _ _ (by rw [← en]; exact D2.over (D2.over (D2.over st2 m0 S.zf2) m1 S.sep1_2) m2 S.Tf2) fun k3 e m3 he => ?_)
    replace m3 : Heap.ExtBut i2 k2 k3 := m3
    obtain ⟨oe, ho, hc⟩ := he
    replace ho : k3.get? e = some oe := ho
    have z3 := m3 _ _ S.zi2 (m2.extBut _ _ S.TOz.symm (m1.extBut _ _ S.zi1 z0))
    have ez : e ≠ z := fun x => by subst x; rw [z3] at ho; cases ho; simp at hc
    refine wpAny_setField_rec (s := ⟨k3, g, d, tk1, os⟩) z3 (by simp) fun k4 _ m4 => ?_
    replace m4 : Heap.SameBut z k3 k4 := m4
    exact hE k4 tk1 e (fun c o cz cT c1 c2 x => m4.extBut _ _ cz (m3 _ _ c2 (m2.extBut _ _ cT (m1.extBut _ _ c1 (m0.extBut _ _ cz x))))) ⟨oe, m4.extBut _ _ ez ho, hc⟩
  · have en : i = n1 := by omega
    refine wpAny_bind (D1.done ⟨k0, g, d, tk0, os⟩ _ _ (by rw [← en]; exact D1.over st1 m0 S.zf1) fun k3 e m3 he => ?_)
    replace m3 : Heap.ExtBut i1 k0 k3 := m3
    obtain ⟨oe, ho, hc⟩ := he
    replace ho : k3.get? e = some oe := ho
    have z3 := m3 _ _ S.zi1 z0
    have ez : e ≠ z := fun x => by subst x; rw [z3] at ho; cases ho; simp at hc
    refine wpAny_setField_rec (s := ⟨k3, g, d, tk0, os⟩) z3 (by simp) fun k4 _ m4 => ?_
    replace m4 : Heap.SameBut z k3 k4 := m4
    exact hE k4 tk0 e (fun c o cz cT c1 c2 x => m4.extBut _ _ cz (m3 _ _ c1 (m0.extBut _ _ cz x))) ⟨oe, m4.extBut _ _ ez ho, hc⟩
def ZipAny (h : Heap) (z TI TO : Addr) : Prop := IsZip h z TI TO .none ∨ ∃ T f, IsZipHeld h z TI TO T f
theorem ZipAny.cell {h : Heap} (q : ZipAny h z TI TO) : ∃ vs, h.get? z = some { cls := .type "zip", dict := none, data := .fields vs, slots := #[] } := by
  rcases q with e | ⟨_, _, e⟩
  · exact ⟨_, e⟩
  · exact ⟨_, e⟩
theorem ZipAny.at {h h' : Heap} (q : ZipAny h z TI TO) (k : ∀ o, h.get? z = some o → h'.get? z = some o) : ZipAny h' z TI TO := by
  rcases q with e | ⟨T, f, e⟩
  · exact .inl (k _ e)
  · exact .inr ⟨T, f, k _ e⟩
theorem any2_item {Q : Value → Shared → Prop} (S : ZipSep2 z TI TO i1 i2 fp1 fp2) (D1 : Draws prog w A.in1 i1 fp1 n1 P1 St1) (D2 : Draws prog w A.in1 i2 fp2 n2 P2 St2)
    (hz : ZipAny s.heap z TI TO) (hTI : IsTupOf2 s.heap TI (.ref i1) (.ref i2)) (hTO : ∃ u1 u2, IsTupOf2 s.heap TO u1 u2) (st1 : St1 i s.heap) (st2 : St2 i s.heap) (hlt1 : i < n1) (hlt2 : i < n2)
    (hQ : ∀ x1 x2 h' tk, P1 i x1 → P2 i x2 → ZipAny h' z TI TO → (∃ u1 u2, IsTupOf2 h' TO u1 u2) → St1 (i + 1) h' → St2 (i + 1) h' → IsTupOf2 h' s.heap.objs.size x1 x2 → h'.objs.size = s.heap.objs.size + 1 →
      (∀ c o, c ≠ z → c ≠ TO → c ≠ i1 → c ≠ i2 → s.heap.get? c = some o → h'.get? c = some o) → Q (.ref s.heap.objs.size) { s with heap := h', toks := tk }) :
    wpAny (model prog w) A (Builtin.SmallTypes.nextOf (.ref z)) Q E s := by
  have hTy : s.TypeIs (.ref z) "zip" := let ⟨_, e⟩ := hz.cell; ⟨_, e, rfl⟩
  obtain ⟨u1, u2, hTO⟩ := hTO
  unfold Builtin.SmallTypes.nextOf
  refine wpAny_bind (wpAny_callSpecial?_slot (name := Str.ofString "__next__") hTy F.slot_zip_next
    (wpAny_call_entry F.slot_zip_next hTy F.entry_zip_next ?_ (F.args_zip_next_1 _)))
  rcases hz with hz | ⟨T, f, hz⟩
  · exact zipD2_next_item S D1 D2 hz hTI hTO st1 st2 hlt1 hlt2 fun x1 x2 h' tk y1 y2 z' o' d1 d2 t' s' k => wpAny_pure (hQ x1 x2 h' tk y1 y2 (.inr ⟨_, _, z'⟩) ⟨_, _, o'⟩ d1 d2 t' s' k)
  · cases hT : s.heap.get? T with
    | none => exact dead2_item S D1 D2 hz hT hTI hTO st1 st2 hlt1 hlt2 fun x1 x2 h' tk y1 y2 z' o' d1 d2 t' s' k => wpAny_pure (hQ x1 x2 h' tk y1 y2 (.inr ⟨_, _, z'⟩) ⟨_, _, o'⟩ d1 d2 t' s' k)
    | some oT => exact ZL.held2_item S D1 D2 hz hT hTI st1 st2 hlt1 hlt2 fun x1 x2 h' tk y1 y2 z' d1 d2 t' s' k => wpAny_pure (hQ x1 x2 h' tk y1 y2 (.inr ⟨_, _, z'⟩) ⟨_, _, k _ _ S.TOz S.Ti1 S.Ti2 hTO⟩ d1 d2 t' s' fun c o c1 _ c3 c4 e => k c o c1 c3 c4 e)
theorem any2_end {Q : Value → Shared → Prop} (S : ZipSep2 z TI TO i1 i2 fp1 fp2) (D1 : Draws prog w A.in1 i1 fp1 n1 P1 St1) (D2 : Draws prog w A.in1 i2 fp2 n2 P2 St2)
    (hz : ZipAny s.heap z TI TO) (hTI : IsTupOf2 s.heap TI (.ref i1) (.ref i2)) (hTO : ∃ u1 u2, IsTupOf2 s.heap TO u1 u2) (st1 : St1 i s.heap) (st2 : St2 i s.heap) (hle1 : i ≤ n1) (hle2 : i ≤ n2) (hend : i = n1 ∨ i = n2)
    (hE : ∀ h' tk e, (∀ c o, c ≠ z → c ≠ TO → c ≠ i1 → c ≠ i2 → s.heap.get? c = some o → h'.get? c = some o) → (∃ o, h'.get? e = some o ∧ o.cls = .type "StopIteration") → E (.ref e) { s with heap := h', toks := tk }) :
    wpAny (model prog w) A (Builtin.SmallTypes.nextOf (.ref z)) Q E s := by
  have hTy : s.TypeIs (.ref z) "zip" := let ⟨_, e⟩ := hz.cell; ⟨_, e, rfl⟩
  obtain ⟨u1, u2, hTO⟩ := hTO
  unfold Builtin.SmallTypes.nextOf
  refine wpAny_bind (wpAny_callSpecial?_slot (name := Str.ofString "__next__") hTy F.slot_zip_next
    (wpAny_call_entry F.slot_zip_next hTy F.entry_zip_next ?_ (F.args_zip_next_1 _)))
  rcases hz with hz | ⟨T, f, hz⟩
  · exact zipD2_next_end S D1 D2 hz hTI hTO st1 st2 hle1 hle2 hend hE
  · cases hT : s.heap.get? T with
    | none => exact dead2_end S D1 D2 hz hT hTI hTO st1 st2 hle1 hle2 hend hE
    | some oT => exact ZL.held2_end S D1 D2 hz hT hTI st1 st2 hle1 hle2 hend fun h' tk e k x => hE h' tk e (fun c o c1 _ c3 c4 y => k c o c1 c3 c4 y) x
variable {e : Addr} {old : Value}
theorem enumz_next {Q : Value → Shared → Prop} (S : ZipSep2 z TI TO i1 i2 fp1 fp2) (D1 : Draws prog w A.in1 i1 fp1 n1 P1 St1) (D2 : Draws prog w A.in1 i2 fp2 n2 P2 St2)
    (he : IsEnum s.heap e z i old) (hz : ZipAny s.heap z TI TO) (hTI : IsTupOf2 s.heap TI (.ref i1) (.ref i2)) (hTO : ∃ u1 u2, IsTupOf2 s.heap TO u1 u2) (st1 : St1 i s.heap) (st2 : St2 i s.heap) (hlt1 : i < n1) (hlt2 : i < n2)
    (n_z : e ≠ z) (n_I : e ≠ TI) (n_O : e ≠ TO) (n_1 : e ∉ fp1) (n_2 : e ∉ fp2)
    (hQ : ∀ x1 x2 k1 h' tk, P1 i x1 → P2 i x2 → IsEnumOut h' e z ((i : Int) + 1) (.ref s.heap.objs.size) (s.heap.objs.size + 1) → ZipAny h' z TI TO → (∃ u1 u2, IsTupOf2 h' TO u1 u2) → St1 (i + 1) h' → St2 (i + 1) h' → IsTupOf2 k1 s.heap.objs.size x1 x2 → k1.objs.size = s.heap.objs.size + 1 →
      h'.get? (s.heap.objs.size + 1) = some { cls := .type "tuple", data := .seq #[.int i tk, .ref s.heap.objs.size] } →
      (∀ c o, c ≠ z → c ≠ TO → c ≠ i1 → c ≠ i2 → s.heap.get? c = some o → k1.get? c = some o) → (∀ c o, c ≠ e → k1.get? c = some o → h'.get? c = some o) → Q (.ref (s.heap.objs.size + 1)) { s with heap := h', toks := tk + 1 }) :
    wpAny (model prog w) A (Builtin.«enumerate.__next__» ⟨[.ref e], []⟩) (fun fin s' => ∃ v, fin = .done (.ret v) ∧ Q v s') E s := by
  have n_i1 : e ≠ i1 := fun q => n_1 (by rw [q]; exact S.mem1)
  have n_i2 : e ≠ i2 := fun q => n_2 (by rw [q]; exact S.mem2)
  obtain ⟨hp, g, d, tk0, os⟩ := s
  show wpAny _ _ (field (.ref e) 2 >>= _) _ _ _
  refine wpAny_bind (wpAny_field he rfl (x := .ref z) rfl ?_)
  refine wpAny_bind (any2_item S D1 D2 hz hTI hTO st1 st2 hlt1 hlt2 fun x1 x2 k1 tk y1 y2 z1 o1 d1 d2 t1 s1 kp => ?_)
  replace t1 : IsTupOf2 k1 hp.objs.size x1 x2 := t1
  replace s1 : k1.objs.size = hp.objs.size + 1 := s1
  have e1 : IsEnum k1 e z i old := kp _ _ n_z n_O n_i1 n_i2 he
  show wpAny _ _ (field (.ref e) 3 >>= _) _ _ ⟨k1, g, d, tk, os⟩
  refine wpAny_bind (wpAny_field e1 rfl (x := rawInt i) rfl ?_)
  show wpAny _ _ (field (.ref e) 4 >>= _) _ _ ⟨k1, g, d, tk, os⟩
  refine wpAny_bind (wpAny_field e1 rfl (x := .none) rfl ?_)
  show wpAny _ _ (mkInt i >>= _) _ _ ⟨k1, g, d, tk, os⟩
  refine wpAny_bind (wpAny_mkInt ?_)
  show wpAny _ _ (setField (.ref e) 3 (rawInt ((i : Int) + 1)) >>= _) _ _ ⟨k1, g, d, tk + 1, os⟩
  refine wpAny_bind (wpAny_setField_rec e1 (by simp) fun k2 e2 m2 => ?_)
  replace m2 : Heap.SameBut e k1 k2 := m2
  replace e2 : IsEnum k2 e z ((i : Int) + 1) old := e2
  show wpAny _ _ (setField (.ref e) 4 .none >>= _) _ _ ⟨k2, g, d, tk + 1, os⟩
  refine wpAny_bind (wpAny_setField_rec e2 (by simp) fun k3 e3 m3 => ?_)
  replace m3 : Heap.SameBut e k2 k3 := m3
  replace e3 : IsEnum k3 e z ((i : Int) + 1) old := e3
  show wpAny _ _ (newTuple [.int i tk, .ref hp.objs.size] >>= _) _ _ ⟨k3, g, d, tk + 1, os⟩
  refine wpAny_bind (wpAny_newTuple ?_)
  have sz : k3.objs.size = hp.objs.size + 1 := by rw [m3.1, m2.1, s1]
  have e4 : IsEnum (k3.push { cls := .type "tuple", data := .seq #[.int i tk, .ref hp.objs.size] }) e z ((i : Int) + 1) old := Heap.get?_push_of_some _ e3
  have t4 : (k3.push { cls := .type "tuple", data := .seq #[.int i tk, .ref hp.objs.size] }).get? (hp.objs.size + 1) = some { cls := .type "tuple", data := .seq #[.int i tk, .ref hp.objs.size] } := by rw [← sz]; exact Heap.get?_push_size _ rfl
  have up : ∀ c o, c ≠ e → k1.get? c = some o → (k3.push { cls := .type "tuple", data := .seq #[.int i tk, .ref hp.objs.size] }).get? c = some o := fun c o c1 y => Heap.get?_push_of_some _ (m3.extBut _ _ c1 (m2.extBut _ _ c1 y))
  rw [sz]
  generalize k3.push { cls := .type "tuple", data := .seq #[.int i tk, .ref hp.objs.size] } = k4 at e4 t4 up
  show wpAny _ _ (Builtin.SmallTypes.ownedTupleIsFree (.ref e) >>= _) _ _ ⟨k4, g, d, tk + 1, os⟩
  have elt : e < hp.objs.size := Heap.lt_size he
  refine wpAny_bind ?_
  unfold Builtin.SmallTypes.ownedTupleIsFree
  refine wpAny_bind (wpAny_field e4 rfl (x := .none) rfl (wpAny_pure ?_))
  simp only [if_true]
  refine wpAny_bind (wpAny_rule ?_)
  refine wpAny_bind (wpAny_field e4 rfl (x := old) rfl ?_)
  refine wpAny_bind (wpAny_setField_rec e4 (by simp) fun k5 e5 m5 => ?_)
  replace m5 : Heap.SameBut e k4 k5 := m5
  replace e5 : IsEnum k5 e z ((i : Int) + 1) (.ref hp.objs.size) := e5
  show wpAny _ _ (Builtin.SmallTypes.ownedTupleHandOut (.ref e) (.ref (hp.objs.size + 1)) >>= _) _ _ ⟨k5, g, d, tk + 1, os⟩
  refine wpAny_bind ?_
  unfold Builtin.SmallTypes.ownedTupleHandOut
  refine wpAny_bind (wpAny_setField_rec e5 (by simp) fun k6 e6 m6 => ?_)
  replace m6 : Heap.SameBut e k5 k6 := m6
  replace e6 : IsEnumOut k6 e z ((i : Int) + 1) (.ref hp.objs.size) (hp.objs.size + 1) := e6
  refine wpAny_setField_rec e6 (by simp) fun k7 e7 m7 => ?_
  replace m7 : Heap.SameBut e k6 k7 := m7
  replace e7 : IsEnumOut k7 e z ((i : Int) + 1) (.ref hp.objs.size) (hp.objs.size + 1) := e7
  have un : ∀ c o, c ≠ e → k4.get? c = some o → k7.get? c = some o := fun c o c1 y => m7.extBut _ _ c1 (m6.extBut _ _ c1 (m5.extBut _ _ c1 y))
  have fin : ∀ c o, c ≠ e → k1.get? c = some o → k7.get? c = some o := fun c o c1 y => un c o c1 (up c o c1 y)
  obtain ⟨u1, u2, o1⟩ := o1
  refine wpAny_bind (wpAny_letGo (wpAny_pure ⟨_, rfl, hQ x1 x2 k1 k7 tk y1 y2 e7 (z1.at fun o y => fin z o n_z.symm y) ⟨u1, u2, fin TO _ n_O.symm o1⟩ (D1.frame _ _ _ d1 fun b hb o y => fin b o (fun q => n_1 (q ▸ hb)) y) (D2.frame _ _ _ d2 fun b hb o y => fin b o (fun q => n_2 (q ▸ hb)) y) t1 s1 (un _ _ (Nat.ne_of_gt (Nat.lt_succ_of_lt elt)) t4) kp fin⟩))
theorem enumz_item {Q : Option Value → Shared → Prop} (S : ZipSep2 z TI TO i1 i2 fp1 fp2) (D1 : Draws prog w A.in1.in1 i1 fp1 n1 P1 St1) (D2 : Draws prog w A.in1.in1 i2 fp2 n2 P2 St2)
    (he : IsEnum s.heap e z i old) (hz : ZipAny s.heap z TI TO) (hTI : IsTupOf2 s.heap TI (.ref i1) (.ref i2)) (hTO : ∃ u1 u2, IsTupOf2 s.heap TO u1 u2) (st1 : St1 i s.heap) (st2 : St2 i s.heap) (hlt1 : i < n1) (hlt2 : i < n2)
    (n_z : e ≠ z) (n_I : e ≠ TI) (n_O : e ≠ TO) (n_1 : e ∉ fp1) (n_2 : e ∉ fp2)
    (hQ : ∀ x1 x2 k1 h' tk, P1 i x1 → P2 i x2 → IsEnumOut h' e z ((i : Int) + 1) (.ref s.heap.objs.size) (s.heap.objs.size + 1) → ZipAny h' z TI TO → (∃ u1 u2, IsTupOf2 h' TO u1 u2) → St1 (i + 1) h' → St2 (i + 1) h' → IsTupOf2 k1 s.heap.objs.size x1 x2 → k1.objs.size = s.heap.objs.size + 1 →
      h'.get? (s.heap.objs.size + 1) = some { cls := .type "tuple", data := .seq #[.int i tk, .ref s.heap.objs.size] } →
      (∀ c o, c ≠ z → c ≠ TO → c ≠ i1 → c ≠ i2 → s.heap.get? c = some o → k1.get? c = some o) → (∀ c o, c ≠ e → k1.get? c = some o → h'.get? c = some o) → Q (some (.ref (s.heap.objs.size + 1))) { s with heap := h', toks := tk + 1 }) :
    wpAny (model prog w) A (pyNext (.ref e)) Q E s := by
  have hT : s.TypeIs (.ref e) "enumerate" := ⟨_, he, rfl⟩
  unfold pyNext
  exact wpAny_bind (wpAny_attempt (wpAny_callSpecial?_slot (name := Str.ofString "__next__") hT F.slot_enumerate_next
    (wpAny_call_entry F.slot_enumerate_next hT F.entry_enumerate_next
      (enumz_next S D1 D2 he hz hTI hTO st1 st2 hlt1 hlt2 n_z n_I n_O n_1 n_2 fun x1 x2 k1 h' tk a1 a2 a3 a4 a5 a6 a7 a8 a9 a10 a11 a12 => wpAny_pure (hQ x1 x2 k1 h' tk a1 a2 a3 a4 a5 a6 a7 a8 a9 a10 a11 a12)) (F.args_enumerate_next_1 _))))
theorem enumz_end {Q : Option Value → Shared → Prop} (S : ZipSep2 z TI TO i1 i2 fp1 fp2) (D1 : Draws prog w A.in1.in1 i1 fp1 n1 P1 St1) (D2 : Draws prog w A.in1.in1 i2 fp2 n2 P2 St2)
    (he : IsEnum s.heap e z i old) (hz : ZipAny s.heap z TI TO) (hTI : IsTupOf2 s.heap TI (.ref i1) (.ref i2)) (hTO : ∃ u1 u2, IsTupOf2 s.heap TO u1 u2) (st1 : St1 i s.heap) (st2 : St2 i s.heap) (hle1 : i ≤ n1) (hle2 : i ≤ n2) (hend : i = n1 ∨ i = n2)
    (hQ : ∀ h' tk, (∀ c o, c ≠ z → c ≠ TO → c ≠ i1 → c ≠ i2 → s.heap.get? c = some o → h'.get? c = some o) → Q none { s with heap := h', toks := tk }) : wpAny (model prog w) A (pyNext (.ref e)) Q E s := by
  have hT : s.TypeIs (.ref e) "enumerate" := ⟨_, he, rfl⟩
  unfold pyNext
  refine wpAny_bind (wpAny_attempt (wpAny_callSpecial?_slot (name := Str.ofString "__next__") hT F.slot_enumerate_next
    (wpAny_call_entry F.slot_enumerate_next hT F.entry_enumerate_next ?_ (F.args_enumerate_next_1 _))))
  show wpAny _ _ (field (.ref e) 2 >>= _) _ _ _
  refine wpAny_bind (wpAny_field he rfl (x := .ref z) rfl ?_)
  refine wpAny_bind (any2_end S D1 D2 hz hTI hTO st1 st2 hle1 hle2 hend fun h' tk x k hx => ?_)
  obtain ⟨o, ho, hc⟩ := hx
  refine wpAny_bind (wpAny_isInstance (T := "StopIteration") (b := true) ⟨o, ho, hc⟩ isSubtype_stop ?_)
  exact wpAny_pure (hQ _ _ k)
end
set_option maxHeartbeats 4000000 in
theorem meets_enumerate_newZ {z TI TO : Addr} :
    Meets (Builtin.«enumerate.__new__» ⟨[.type "enumerate", .ref z], []⟩) (fun _ R s => IsZip s.heap z TI TO .none ∧
      R (.ok (.ret (.ref s.heap.objs.size))) { s with heap := s.heap.push { cls := .type "enumerate", data := .fields #[.none, .bool false, .ref z, rawInt 0, .none, .none] } }) :=
  .of_wp fun prog w A R s h => by
    obtain ⟨hp, g, d, tk, os⟩ := s; obtain ⟨h1, h⟩ := h
    have hsub := sub_enumerate
    have q1 : ∀ {A' : Around} {E : Value → Shared → Prop} {Q : Value → Shared → Prop}, Q (.ref z) ⟨hp, g, d, tk, os⟩ → wpAny (model prog w) A' (pyIter (.ref z)) Q E ⟨hp, g, d, tk, os⟩ :=
      fun q => wpAny_pyIter_zip (s := ⟨hp, g, d, tk, os⟩) h1 q
    wp_walk using q1
    refine wpAny_stack_any fun st => wpAny_pure ?_
    split
    · rename_i c _ _ _ _ _
      cases (c == Value.type "enumerate")
      · wp_walk using q1
        exact ⟨_, rfl, h⟩
      · wp_walk using q1
        exact ⟨_, rfl, h⟩
    · wp_walk using q1
      exact ⟨_, rfl, h⟩
theorem enumz_begins {prog : Program} {w : World} {A : Around} {E : Value → Shared → Prop} {s : Shared} {z TI TO : Addr} {Q : Value → Shared → Prop} (h1 : IsZip s.heap z TI TO .none)
    (h : ∀ h', IsEnum h' s.heap.objs.size z 0 .none → h'.objs.size = s.heap.objs.size + 1 →
      (∀ b o, s.heap.get? b = some o → h'.get? b = some o) → Q (.ref s.heap.objs.size) { s with heap := h' }) :
    wpAny (model prog w) A (call (.type "enumerate") [.ref z]) Q E s := by
  refine callType_new F.called_enumerate (by decide) (F.typeCall_enumerate_1 _) (F.newCall_enumerate_1 _) (fun obj => F.args_object_init_2 obj _) F.entry_enumerate_new
    (meets_enumerate_newZ (z := z) (TI := TI) (TO := TO)) ⟨h1, ?_⟩
  have he : IsEnum (s.heap.push { cls := .type "enumerate", data := .fields #[.none, .bool false, .ref z, rawInt 0, .none, .none] }) s.heap.objs.size z 0 .none :=
    Heap.get?_push_size s.heap (o := { cls := .type "enumerate", data := .fields #[.none, .bool false, .ref z, rawInt 0, .none, .none] }) rfl
  exact ⟨⟨_, he, rfl⟩, h _ he (by rw [Heap.size_push]) fun b o x => Heap.get?_push_of_some _ x⟩
end EZ
namespace ZL
open PySem PySem.Spec PyProof.Rows L2 DN
section
variable {prog : Program} {w : World} {A : Around} {z TI TO i1 i2 i3 a1 a2 a3 : Addr} {b1 b2 b3 : Bool} {xs ys zs : List Value}
def St2 (z TI TO i1 i2 a1 a2 : Addr) (b1 b2 : Bool) (xs ys : List Value) : Nat → Addr → Heap → Prop := fun i T h =>
  ((i = 0 ∧ IsZip h z TI TO .none ∧ ∃ u v, IsTupOf2 h TO u v) ∨ (0 < i ∧ ∃ f oT, IsZipHeld h z TI TO T f ∧ h.get? T = some oT ∧ T ≠ z ∧ T ≠ TO ∧ T ≠ i1 ∧ T ≠ i2)) ∧ IsTupOf2 h TI (.ref i1) (.ref i2) ∧ (ItB b1 h i1 a1 i ∧ IsB b1 h a1 xs.toArray) ∧ (ItB b2 h i2 a2 i ∧ IsB b2 h a2 ys.toArray)
def St3 (z TI TO i1 i2 i3 a1 a2 a3 : Addr) (b1 b2 b3 : Bool) (xs ys zs : List Value) : Nat → Addr → Heap → Prop := fun i T h =>
  ((i = 0 ∧ IsZip h z TI TO .none ∧ ∃ u v q, IsTupOf3 h TO u v q) ∨ (0 < i ∧ ∃ f oT, IsZipHeld h z TI TO T f ∧ h.get? T = some oT ∧ T ≠ z ∧ T ≠ TO ∧ T ≠ i1 ∧ T ≠ i2 ∧ T ≠ i3)) ∧ IsTupOf3 h TI (.ref i1) (.ref i2) (.ref i3) ∧ (ItB b1 h i1 a1 i ∧ IsB b1 h a1 xs.toArray) ∧ (ItB b2 h i2 a2 i ∧ IsB b2 h a2 ys.toArray) ∧ (ItB b3 h i3 a3 i ∧ IsB b3 h a3 zs.toArray)
end
end ZL
namespace DN
open PySem PySem.Spec PyProof.Rows L2 ZL
end DN
namespace DN
open PySem PySem.Spec PyProof.Rows L2
def ItEZ (K : PySem.W.Frag) (b1 b2 : Bool) (a1 a2 : Addr) : It :=
  ⟨fun i H => ∃ (xs ys : List V) (x y : V), SqB K b1 H a1 xs ∧ SqB K b2 H a2 ys ∧ xs[i]? = some x ∧ ys[i]? = some y,
    fun i H v H' => ∃ T U x y, v = .ref U ∧ H T = none ∧ H U = none ∧ T ≠ U ∧ H' = upd (upd H T (.tup [x, y])) U (.tup [.int (i : Nat), .ref T]) ∧ (∀ xs, SqB K b1 H a1 xs → xs[i]? = some x) ∧ (∀ ys, SqB K b2 H a2 ys → ys[i]? = some y),
    fun i H => ∃ xs ys : List V, SqB K b1 H a1 xs ∧ SqB K b2 H a2 ys ∧ i ≤ xs.length ∧ i ≤ ys.length ∧ (i = xs.length ∨ i = ys.length)⟩
theorem turn_ez {P : Program} {w : World} {K : PySem.W.Frag} {elts : List Expr} {kk : Nat} {tpos : Pos} {b1 b2 : Bool} {a1 a2 e z TI TO i1 i2 : Addr} (S : ZipSep2 z TI TO i1 i2 [i1, a1] [i2, a2]) (n1 : a1 ≠ i1) (n2 : a2 ≠ i2)
    (n_z : e ≠ z) (n_I : e ≠ TI) (n_O : e ≠ TO) (n_1 : e ∉ [i1, a1]) (n_2 : e ∉ [i2, a2]) :
    Turn P w K (.Tuple elts kk tpos) (ItEZ K b1 b2 a1 a2) [e, z, TI, TO, i1, i2] e (fun i h => (∃ old, IsEnum h e z ((i : Nat) : Int) old) ∧ EZ.ZipAny h z TI TO ∧ IsTupOf2 h TI (.ref i1) (.ref i2) ∧ (∃ x y, IsTupOf2 h TO x y) ∧ ItB b1 h i1 a1 i ∧ ItB b2 h i2 a2 i) where
  mem := by simp
  obj := fun i h st c hc => by
    obtain ⟨⟨old, he⟩, hz, hTI, ⟨x, y, hTO⟩, e1, e2⟩ := st
    have e' : c = e ∨ c = z ∨ c = TI ∨ c = TO ∨ c = i1 ∨ c = i2 := by simpa using hc
    rcases e' with q | q | q | q | q | q
    · rw [q]; exact ⟨_, he, fun v q => nomatch q⟩
    · rw [q]; obtain ⟨vs, hz⟩ := hz.cell; exact ⟨_, hz, fun v q => nomatch q⟩
    · rw [q]; exact ⟨_, hTI, fun v q => nomatch q⟩
    · rw [q]; exact ⟨_, hTO, fun v q => nomatch q⟩
    · rw [q]; exact e1.obj
    · rw [q]; exact e2.obj
  keep := fun i h h' st k => by
    obtain ⟨⟨old, he⟩, hz, hTI, ⟨x, y, hTO⟩, h1, h2⟩ := st
    exact ⟨⟨old, k e (by simp) _ he⟩, hz.at fun o q => k z (by simp) o q, k TI (by simp) _ hTI, ⟨x, y, k TO (by simp) _ hTO⟩, h1.at fun o q => k i1 (by simp) o q, h2.at fun o q => k i2 (by simp) o q⟩
  item := by
    intro X hP hw hK hc i pins s σ H E I hf st hg
    subst hP hw hK
    obtain ⟨⟨old, he⟩, hz, hTI, hTO, h1, h2⟩ := st
    obtain ⟨xs, ys, x, y, hqx, hqy, hx, hy⟩ := hg
    obtain ⟨its, rv, p, _⟩ := hqx.inv I
    obtain ⟨its2, rv2, p2, _⟩ := hqy.inv I
    obtain ⟨u, hu, ru⟩ := rv.get hx
    obtain ⟨u2, hu2, ru2⟩ := rv2.get hy
    have hh : X.A.in1.in1.handled = none := I.ok.hd hc
    have D1 := drB (prog := X.prog) (w := X.w) hh b1 i1 a1 n1 its.toArray
    have D2 := drB (prog := X.prog) (w := X.w) hh b2 i2 a2 n2 its2.toArray
    have l1 : i < its.length := (List.getElem?_eq_some_iff.mp hu).1
    have l2 : i < its2.length := (List.getElem?_eq_some_iff.mp hu2).1
    have low : ∀ c ∈ [e, z, TI, TO, i1, i2], c < s.heap.objs.size := fun c hcm => by
      have e' : c = e ∨ c = z ∨ c = TI ∨ c = TO ∨ c = i1 ∨ c = i2 := by simpa using hcm
      obtain ⟨t1, t2, hTO⟩ := hTO
      rcases e' with q | q | q | q | q | q
      · rw [q]; exact Heap.lt_size he
      · rw [q]; obtain ⟨vs, hz⟩ := hz.cell; exact Heap.lt_size hz
      · rw [q]; exact Heap.lt_size hTI
      · rw [q]; exact Heap.lt_size hTO
      · rw [q]; obtain ⟨_, e1, _⟩ := h1.obj; exact Heap.lt_size e1
      · rw [q]; obtain ⟨_, e2, _⟩ := h2.obj; exact Heap.lt_size e2
    refine EZ.enumz_item S D1 D2 he hz hTI hTO ⟨h1, p⟩ ⟨h2, p2⟩ (by simpa using l1) (by simpa using l2) n_z n_I n_O n_1 n_2 fun x1 x2 k1 h' tk y1 y2 eo z' o' d1 d2 t1 s1 t2 f1 f2 => ?_
    have y1 : its[i]? = some x1 := by simpa using y1
    have y2 : its2[i]? = some x2 := by simpa using y2
    rw [hu] at y1; cases y1
    rw [hu2] at y2; cases y2
    refine ⟨_, rfl, wpAny_letOwnedTupleGo_enum (s := { s with heap := h', toks := tk + 1 }) eo fun h'' e'' sb => ?_⟩
    have elt := low e (by simp)
    have t3 : h''.get? (s.heap.objs.size + 1) = some { cls := .type "tuple", data := .seq #[.int i tk, .ref s.heap.objs.size] } := (sb.2 _ (Nat.ne_of_gt (Nat.lt_succ_of_lt elt))).trans t2
    have g1 : ∀ c o, c ≠ e → h'.get? c = some o → h''.get? c = some o := fun c o c1 q => (sb.2 c c1).trans q
    have new : ObjOk X.prog X.w (upd H s.heap.objs.size (.tup [x, y])) k1 s.heap.objs.size (.tup [x, y]) :=
      ⟨by show 2 ≤ sizeLine; decide, [u, u2], .cons ru (.cons ru2 .nil), ⟨_, t1, rfl, _, rfl⟩⟩
    have I1 : Inv X pins σ (upd H s.heap.objs.size (.tup [x, y])) { s with heap := k1, toks := tk + 1 } :=
      I.turnedNew (t' := tk + 1) (ch := [e, z, TI, TO, i1, i2]) (fun c o hb q => f1 c o (fun q' => hb (by simp [q'])) (fun q' => hb (by simp [q'])) (fun q' => hb (by simp [q'])) (fun q' => hb (by simp [q'])) q) hf (Nat.le_refl _) new
    have hf1 : ∀ b ∈ [e, z, TI, TO, i1, i2], FpOk X pins (upd H s.heap.objs.size (.tup [x, y])) b := fun b hb => ⟨by rw [upd_ne (Nat.ne_of_lt (low b hb))]; exact (hf b hb).1, (hf b hb).2⟩
    have new2 : ObjOk X.prog X.w (upd (upd H s.heap.objs.size (.tup [x, y])) (s.heap.objs.size + 1) (.tup [.int (i : Nat), .ref s.heap.objs.size])) h'' (s.heap.objs.size + 1) (.tup [.int (i : Nat), .ref s.heap.objs.size]) :=
      ⟨by show 2 ≤ sizeLine; decide, [.int i tk, .ref s.heap.objs.size], .cons ⟨_, rfl⟩ (.cons rfl .nil), ⟨_, t3, rfl, _, rfl⟩⟩
    have I2 : Inv X pins σ (upd (upd H s.heap.objs.size (.tup [x, y])) (s.heap.objs.size + 1) (.tup [.int (i : Nat), .ref s.heap.objs.size])) { s with heap := h'', toks := tk + 1 } :=
      I1.turnedNew (t' := tk + 1) (ch := [e, z, TI, TO, i1, i2]) (fun c o hb q => g1 c o (fun q' => hb (by simp [q'])) (f2 c o (fun q' => hb (by simp [q'])) q)) hf1 (by show k1.objs.size ≤ s.heap.objs.size + 1; rw [s1]; exact Nat.le_refl _) new2
    have fr : H s.heap.objs.size = none := I.hok.fresh (Nat.le_refl _)
    have fr2 : H (s.heap.objs.size + 1) = none := I.hok.fresh (Nat.le_succ _)
    obtain ⟨v1, v2, o'⟩ := o'
    have ni : e ≠ i1 := fun q => n_1 (by rw [q]; simp)
    have ni2 : e ≠ i2 := fun q => n_2 (by rw [q]; simp)
    refine ⟨.ref (s.heap.objs.size + 1), _, I2, rfl, ⟨_, _, x, y, rfl, fr, fr2, Nat.ne_of_lt (Nat.lt_succ_self _), rfl, fun l hl => by rw [hl.inj I hqx]; exact hx, fun l hl => by rw [hl.inj I hqy]; exact hy⟩, ⟨⟨.ref s.heap.objs.size, ?_⟩, z'.at fun o q => g1 z o n_z.symm q, ?_, ⟨v1, v2, g1 _ _ n_O.symm o'⟩, d1.1.at fun o q => g1 i1 o ni.symm q, d2.1.at fun o q => g1 i2 o ni2.symm q⟩, fun c hcm => ?_⟩
    · have q : ((i + 1 : Nat) : Int) = (i : Int) + 1 := by omega
      rw [q]; exact e''
    · exact g1 _ _ n_I.symm (f2 _ _ n_I.symm (f1 _ _ S.TIz S.TITO S.TIi1 S.TIi2 hTI))
    · have hlt := low c hcm
      rw [upd_ne (Nat.ne_of_lt (Nat.lt_succ_of_lt hlt)), upd_ne (Nat.ne_of_lt hlt)]
      exact (hf c hcm).1
  done := by
    intro X hP hw hK hc i pins s σ H E I hf st hg
    subst hP hw hK
    obtain ⟨⟨old, he⟩, hz, hTI, hTO, h1, h2⟩ := st
    obtain ⟨xs, ys, hqx, hqy, k1, k2, hend⟩ := hg
    obtain ⟨its, rv, p, _⟩ := hqx.inv I
    obtain ⟨its2, rv2, p2, _⟩ := hqy.inv I
    have l1 := rv.length
    have l2 := rv2.length
    have hh : X.A.in1.in1.handled = none := I.ok.hd hc
    have D1 := drB (prog := X.prog) (w := X.w) hh b1 i1 a1 n1 its.toArray
    have D2 := drB (prog := X.prog) (w := X.w) hh b2 i2 a2 n2 its2.toArray
    exact EZ.enumz_end S D1 D2 he hz hTI hTO ⟨h1, p⟩ ⟨h2, p2⟩ (by simp; omega) (by simp; omega) (by simp; omega) fun h' tk hk => ⟨rfl, I.turnedL (t' := tk) (ch := [e, z, TI, TO, i1, i2]) (fun c o hb q =>
      hk c o (fun q' => hb (by simp [q'])) (fun q' => hb (by simp [q'])) (fun q' => hb (by simp [q'])) (fun q' => hb (by simp [q'])) q) hf⟩
  self := fun A i s Q E st h => let ⟨⟨_, he⟩, _⟩ := st; wpAny_pyIter_enum he h
def iEZA (K : PySem.W.Frag) (ta : TA) : TI := fun σ H R => ta σ H fun vs H1 => ∃ b1 b2 a1 a2 xs ys, vs = [.ref a1, .ref a2] ∧ SqB K b1 H1 a1 xs ∧ SqB K b2 H1 a2 ys ∧ R (ItEZ K b1 b2 a1 a2) H1
theorem pi_ezA {X : Cx} {e e2 : Expr} {ta : TA} {p p2 zp pos tpos : Pos} {elts : List Expr} {kk : Nat} (hge : Gl X "enumerate") (hme : X.mg "enumerate" = none) (hg : Gl X "zip") (hm : X.mg "zip" = none) (ha : PA X [e, e2] ta)
    (hsl : starEach [.Call (.Name "zip" p2) [e, e2] [] zp] X.env = (false, eval (.Call (.Name "zip" p2) [e, e2] [] zp) X.env) :: starEach [] X.env := by rfl)
    (hs : starEach [e, e2] X.env = (false, eval e X.env) :: starEach [e2] X.env := by rfl) (hpl : (backTo zp (starEach [e2] X.env)).any (·.1) = false := by rfl) :
    PI X (.Tuple elts kk tpos) (.Call (.Name "enumerate" p) [.Call (.Name "zip" p2) [e, e2] [] zp] [] pos) (iEZA X.K ta) := by
  refine ⟨fun pins s σ H R I h => ?_⟩
  refine Call_ (ld_blt I hge hme boot_enumerate (PyProof.Rows.callWith_type1 ?_ hsl rfl))
  rw [hsl]
  show wpAny _ _ (spliced ((false, eval (.Call (.Name "zip" p2) [e, e2] [] zp) X.env) :: backTo pos (starEach [] X.env))) _ _ s
  refine Calls.spliced_cons ?_
  refine Call_ (ld_blt I hg hm PyProof.Rows.boot_zip (PyProof.Rows.callWith_type1 (thn (ha.run zp pins s σ H _ I h) fun us s1 ⟨vs, H1, I1, r1, q1⟩ => ?_) hs hpl))
  obtain ⟨b1, b2, a1, a2, xs, ys, ex, q1, q2, qR⟩ := q1
  subst ex
  cases r1 with
  | cons r rr =>
    cases rr with
    | cons r' rr =>
      cases rr
      cases r
      cases r'
      obtain ⟨its, rv, p1, k1⟩ := q1.inv I1
      obtain ⟨its2, rv2, p2, k2⟩ := q2.inv I1
      refine zip_begins2 (begB b1 a1 its.toArray) (begB b2 a2 its2.toArray) p1 p2 fun h' hz hTI hTO g1 g2 hsz hk => ?_
      refine Calls.spliced_nil ?_
      refine EZ.enumz_begins (s := { s1 with heap := h' }) hz fun h2 he hsz2 hk2 => wpAny_pyIter_enum he ?_
      have hs5 : h'.objs.size = s1.heap.objs.size + 5 := hsz
      have I2 : Inv X pins σ H1 { s1 with heap := h2 } := I1.kept (t' := s1.toks) fun b o q => hk2 b o (hk b o q)
      have S := zip_sep2 (N := s1.heap.objs.size) (fp1 := [a1]) (fp2 := [a2]) (fun b hb => by rw [List.mem_singleton.mp hb]; exact k1) (fun b hb => by rw [List.mem_singleton.mp hb]; exact k2)
      have far : ∀ {j : Nat}, j < 5 → h'.objs.size ≠ s1.heap.objs.size + j := fun hj => by rw [hs5]; exact Nat.ne_of_gt (Nat.add_lt_add_left hj _)
      have fa : ∀ {a : Addr}, a < s1.heap.objs.size → h'.objs.size ≠ a := fun ha => by rw [hs5]; exact Nat.ne_of_gt (Nat.lt_of_lt_of_le ha (Nat.le_add_right _ _))
      refine ⟨h'.objs.size, [h'.objs.size, s1.heap.objs.size + 4, s1.heap.objs.size + 2, s1.heap.objs.size + 3, s1.heap.objs.size, s1.heap.objs.size + 1], _, _, H1, rfl, I2, turn_ez (b1 := b1) (b2 := b2) (a1 := a1) (a2 := a2) S (Nat.ne_of_lt k1) (Nat.ne_of_lt (Nat.lt_succ_of_lt k2)) (far (by decide)) (far (by decide)) (far (by decide)) (fun q => ?_) (fun q => ?_), ⟨⟨_, he⟩, .inl (hk2 _ _ hz), hk2 _ _ hTI, ⟨_, _, hk2 _ _ hTO⟩, .start (hk2 _ _ g1), .start (hk2 _ _ g2)⟩, fun c hcm => ?_, qR⟩
      · have e' : h'.objs.size = s1.heap.objs.size ∨ h'.objs.size = a1 := by simpa using q
        rcases e' with q | q
        · exact far (j := 0) (by decide) q
        · exact fa k1 q
      · have e' : h'.objs.size = s1.heap.objs.size + 1 ∨ h'.objs.size = a2 := by simpa using q
        rcases e' with q | q
        · exact far (j := 1) (by decide) q
        · exact fa k2 q
      · have e' : c = h'.objs.size ∨ c = s1.heap.objs.size + 4 ∨ c = s1.heap.objs.size + 2 ∨ c = s1.heap.objs.size + 3 ∨ c = s1.heap.objs.size ∨ c = s1.heap.objs.size + 1 := by simpa using hcm
        have hle : s1.heap.objs.size ≤ c := by
          rcases e' with z | z | z | z | z | z
          · rw [z, hs5]; exact Nat.le_add_right _ _
          · rw [z]; exact Nat.le_add_right _ _
          · rw [z]; exact Nat.le_add_right _ _
          · rw [z]; exact Nat.le_add_right _ _
          · rw [z]; exact Nat.le_refl _
          · rw [z]; exact Nat.le_add_right _ _
        exact I1.fpOk hle (I1.hok.fresh hle)
def iEZ (f g : En → Option PyData) : En → Option (List PyData) := fun en => (iZip f g en).map (enumD 0)
section
variable {X : Cx} {Ts : TsT} {pos p p2 zp tpos : Pos} {e e2 : Expr} {f g : En → Option PyData} {elts : List Expr} {kk : Nat}
theorem gives_ez {K : PySem.W.Frag} {H1 : Hp} {O : List Addr} {b1 b2 : Bool} {a1 a2 : Addr} {xs ys : List V} {ds es : List PyData} (s1 : SqB K b1 (hide H1 O) a1 xs) (s2 : SqB K b2 (hide H1 O) a2 ys)
    (q1 : DpAll K (hide H1 O) xs ds) (q2 : DpAll K (hide H1 O) ys es) : Gives K Ts (ItEZ K b1 b2 a1 a2) (enumD 0 (pairs ds es)) H1 O := fun O' H2 h1 h2 occ => by
  have u1 := s1.mono fun o n e => h2.get _ o e n
  have u2 := s2.mono fun o n e => h2.get _ o e n
  have la := DpAll.len q1
  have lb := DpAll.len q2
  have q1 := DpAll.mono h1 q1
  have q2 := DpAll.mono h1 q2
  refine ⟨fun i hi => ?_, ?_, fun i v H3 hi hy => ?_⟩
  · rw [enumD_len, pairs_len] at hi
    exact ⟨xs, ys, xs[i]'(by omega), ys[i]'(by omega), u1, u2, List.getElem?_eq_getElem _, List.getElem?_eq_getElem _⟩
  · rw [enumD_len, pairs_len]
    exact ⟨xs, ys, u1, u2, by omega, by omega, by omega⟩
  · obtain ⟨T, U, x, y, rfl, nT, nU, ne, rfl, ex, ey⟩ := hy
    obtain ⟨d1, hd1, r1⟩ := DpAll.get q1 (ex _ u1)
    obtain ⟨d2, hd2, r2⟩ := DpAll.get q2 (ey _ u2)
    have hg := enumD_get (k := 0) (pairs_get hd1 hd2)
    rw [Nat.zero_add] at hg
    have oT : T ∉ O' := fun z => (occ T z).1 nT
    have oU : U ∉ O' := fun z => (occ U z).1 nU
    have t1 := tup_new nT oT (.cons r1 (.cons r2 .nil))
    have nU1 : upd H2 T (.tup [x, y]) U = none := by rw [upd_ne (Ne.symm ne)]; exact nU
    exact ⟨.tuple [.int (i : Nat), .tuple [d1, d2]], hg, (Xt.upd nT).trans (Xt.upd nU1), fun t => (t.new nT).new nU1, tup_new nU1 oU (.cons (.int _) (.cons t1 .nil))⟩
theorem di_ez (hge : Gl X "enumerate") (hme : X.mg "enumerate" = none) (hg : Gl X "zip") (hm : X.mg "zip" = none) (ha : DE X Ts e f) (hb : DE X Ts e2 g)
    (hsl : starEach [.Call (.Name "zip" p2) [e, e2] [] zp] X.env = (false, eval (.Call (.Name "zip" p2) [e, e2] [] zp) X.env) :: starEach [] X.env := by rfl)
    (hs : starEach [e, e2] X.env = (false, eval e X.env) :: starEach [e2] X.env := by rfl) (hs2 : starEach [e2] X.env = (false, eval e2 X.env) :: starEach [] X.env := by rfl) (hpl : (backTo zp (starEach [e2] X.env)).any (·.1) = false := by rfl) :
    DI X Ts (.Tuple elts kk tpos) (.Call (.Name "enumerate" p) [.Call (.Name "zip" p2) [e, e2] [] zp] [] pos) (iEZ f g) :=
  PI.imp (pi_ezA (ta := tCons (tD X.K Ts f) (tCons (tD X.K Ts g) tNil)) hge hme hg hm (pa_cons ha (pa_cons hb pa_nil hs2) hs) hsl hs hpl) fun σ H R ⟨He, O, en, ds, rp, hf, kk⟩ => by
    unfold iEZ at hf
    obtain ⟨ls, hf0, rfl⟩ := Option.map_eq_some_iff.mp hf
    unfold iZip at hf0
    obtain ⟨x, h1, hf1⟩ := Option.bind_eq_some_iff.mp hf0
    obtain ⟨y, h2, hf2⟩ := Option.bind_eq_some_iff.mp hf1
    refine tD.of rp h1 fun v H1 x1 r1 q1 => tD.of r1 h2 fun w H2 x2 r2 q2 => ?_
    have q1 := Dp.mono (hide_mono x2) q1
    have fin : ∀ xs ys, lt_items x = some xs → lt_items y = some ys → ls = pairs xs ys → ∃ b1 b2 a1 a2 us ws, [v, w] = [V.ref a1, V.ref a2] ∧ SqB X.K b1 H2 a1 us ∧ SqB X.K b2 H2 a2 ws ∧ R (ItEZ X.K b1 b2 a1 a2) H2 := fun xs ys h4 h5 e => by
      subst e
      obtain ⟨b1, a1, vs1, rfl, s1, t1⟩ := dp_sqB q1 h4
      obtain ⟨b2, a2, vs2, rfl, s2, t2⟩ := dp_sqB q2 h5
      exact ⟨b1, b2, a1, a2, vs1, vs2, rfl, s1.mono fun o n e => (hide_some e).2, s2.mono fun o n e => (hide_some e).2, kk _ H2 (x1.trans x2) r2.tabs (gives_ez s1 s2 t1 t2)⟩
    cases x <;> cases y <;> simp only at hf2 <;> cases hf2 <;> exact fin _ _ rfl rfl rfl
end
end DN
namespace Ty
open PySem PySem.Spec PyProof.Rows L2 DN
def FUEL : Nat := 100000000
def F_is_whole : En → Option Fl := (sRet (fAnd (fIsi isInt (fVar 0)) (fNot (fIsi isBool (fVar 0)))))
def S_is_whole := runD 1 (F_is_whole)
def F_is_between (c_is_whole : List PyData → Option PyData) : En → Option Fl := (sRet (fAnd (fCall 1 c_is_whole (fCons (fVar 0) fNil)) (fChain gLe gLe (fVar 1) (fVar 0) (fVar 2))))
def S_is_between := runD 3 (F_is_between S_is_whole)
def F_is_row_between (c_is_between : List PyData → Option PyData) : En → Option Fl := (sRet (fAnd (fIsi isTup (fVar 0)) (fAll true (iSeq (fVar 0)) (bName 3) (fCall 3 c_is_between (fCons (fVar 3) (fCons (fVar 1) (fCons (fVar 2) fNil)))) [3])))
def S_is_row_between := runD 4 (F_is_row_between S_is_between)
def F_ratio : En → Option Fl := (sSeq (sSet 2 (fGcd (fVar 0) (fVar 1))) (sRet (fTup (fCons (fDiv (fVar 0) (fVar 2)) (fCons (fDiv (fVar 1) (fVar 2)) fNil)))))
def S_ratio := runD 3 (F_ratio)
def F_is_less : En → Option Fl := (sRet (fLt (fTimes (fIx (fVar 0) (fLit (.int 0))) (fIx (fVar 1) (fLit (.int 1)))) (fTimes (fIx (fVar 1) (fLit (.int 0))) (fIx (fVar 0) (fLit (.int 1))))))
def S_is_less := runD 2 (F_is_less)
def F_least_ratio (c_is_less : List PyData → Option PyData) : En → Option Fl := (sSeq (sSet 1 (fIx (fVar 0) (fLit (.int 0)))) (sSeq (sFor (iSeq (fVar 0)) (bName 2) (sIf (fT (fCall 2 c_is_less (fCons (fVar 2) (fCons (fVar 1) fNil)))) (sSet 1 (fVar 2)) sNil)) (sRet (fVar 1))))
def S_least_ratio := runD 3 (F_least_ratio S_is_less)
def F_is_inflows (c_is_row_between : List PyData → Option PyData) : En → Option Fl := (sRet (fAnd (fCall 3 c_is_row_between (fCons (fVar 0) (fCons (fLit (.int 0)) (fCons (fLit (.int 1000)) fNil)))) (fChain gLe gLe (fLit (.int 1)) (fLen (fVar 0)) (fLit (.int 12)))))
def S_is_inflows := runD 1 (F_is_inflows S_is_row_between)
def F_is_dam (c_is_between c_is_inflows : List PyData → Option PyData) : En → Option Fl := (sSeq (sIf (kNot (kAnd (fT (fIsi isTup (fVar 0))) (fT (fEq (fLen (fVar 0)) (fLit (.int 4)))))) (sRet (fLit (.bool false))) sNil) (sSeq (sBind (bTup [1, 2, 3, 4]) (fVar 0)) (sSeq (sIf (kNot (fT (fCall 3 c_is_between (fCons (fVar 1) (fCons (fLit (.int 0)) (fCons (fLit (.int 1000)) fNil)))))) (sRet (fLit (.bool false))) sNil) (sRet (fAnd (fCall 3 c_is_between (fCons (fVar 2) (fCons (fLit (.int 0)) (fCons (fVar 1) fNil)))) (fAnd (fCall 3 c_is_between (fCons (fVar 3) (fCons (fLit (.int 0)) (fCons (fVar 1) fNil)))) (fCall 1 c_is_inflows (fCons (fVar 4) fNil))))))))
def S_is_dam := runD 5 (F_is_dam S_is_between S_is_inflows)
def F_check_dam (c_is_dam : List PyData → Option PyData) : En → Option Fl := (sIf (kNot (fT (fCall 1 c_is_dam (fCons (fVar 0) fNil)))) sNever sNil)
def S_check_dam := runD 1 (F_check_dam S_is_dam)
def F__law_ratio (w0 : En → Nat) : En → Option Fl := (sSeq (sPar 2 3 (fAbs (fVar 0)) (fAbs (fVar 1))) (sSeq (sWhile w0 (fT (fNe (fVar 3) (fLit (.int 0)))) (sPar 2 3 (fVar 3) (fMod (fInt (fVar 2)) (fVar 3)))) (sRet (fIf (fT (fGt (fVar 1) (fLit (.int 0)))) (fTup (fCons (fDiv (fVar 0) (fVar 2)) (fCons (fDiv (fVar 1) (fVar 2)) fNil))) (fTup (fCons (fSub (fLit (.int 0)) (fDiv (fVar 0) (fVar 2))) (fCons (fSub (fLit (.int 0)) (fDiv (fVar 1) (fVar 2))) fNil)))))))
def S__law_ratio := runD 4 (F__law_ratio (fun _ => FUEL))
def F__law_plus (c__law_ratio : List PyData → Option PyData) : En → Option Fl := (sRet (fCall 2 c__law_ratio (fCons (fPlus (fTimes (fIx (fVar 0) (fLit (.int 0))) (fIx (fVar 1) (fLit (.int 1)))) (fTimes (fIx (fVar 1) (fLit (.int 0))) (fIx (fVar 0) (fLit (.int 1))))) (fCons (fTimes (fIx (fVar 0) (fLit (.int 1))) (fIx (fVar 1) (fLit (.int 1)))) fNil))))
def S__law_plus := runD 2 (F__law_plus S__law_ratio)
def F__law_by (c__law_ratio : List PyData → Option PyData) : En → Option Fl := (sRet (fCall 2 c__law_ratio (fCons (fTimes (fIx (fVar 0) (fLit (.int 0))) (fIx (fVar 1) (fLit (.int 0)))) (fCons (fTimes (fIx (fVar 0) (fLit (.int 1))) (fIx (fVar 1) (fLit (.int 1)))) fNil))))
def S__law_by := runD 2 (F__law_by S__law_ratio)
def F__law_sum (c__law_plus : List PyData → Option PyData) : En → Option Fl := (sSeq (sSet 1 (fTup (fCons (fLit (.int 0)) (fCons (fLit (.int 1)) fNil)))) (sSeq (sFor (iSeq (fVar 0)) (bName 2) (sSet 1 (fCall 2 c__law_plus (fCons (fVar 1) (fCons (fVar 2) fNil))))) (sRet (fVar 1))))
def S__law_sum := runD 3 (F__law_sum S__law_plus)
def F__law_less : En → Option Fl := (sRet (fLt (fTimes (fIx (fVar 0) (fLit (.int 0))) (fIx (fVar 1) (fLit (.int 1)))) (fTimes (fIx (fVar 1) (fLit (.int 0))) (fIx (fVar 0) (fLit (.int 1))))))
def S__law_less := runD 2 (F__law_less)
def F__law_is_ratio (c__law_ratio : List PyData → Option PyData) : En → Option Fl := (sSeq (sIf (kNot (fT (fIsi isTup (fVar 0)))) (sRet (fLit (.bool false))) sNil) (sSeq (sIf (fT (fNe (fLen (fVar 0)) (fLit (.int 2)))) (sRet (fLit (.bool false))) sNil) (sSeq (sIf (fT (fNe (fLc (iSeq (fVar 0)) (bName 1) (kOr (kNot (fT (fIsi isInt (fVar 1)))) (fT (fIsi isBool (fVar 1)))) (fVar 1) [1]) (fLst fNil))) (sRet (fLit (.bool false))) sNil) (sRet (fAnd (fGt (fIx (fVar 0) (fLit (.int 1))) (fLit (.int 0))) (fEq (fCall 2 c__law_ratio (fCons (fIx (fVar 0) (fLit (.int 0))) (fCons (fIx (fVar 0) (fLit (.int 1))) fNil))) (fVar 0)))))))
def S__law_is_ratio := runD 2 (F__law_is_ratio S__law_ratio)
def N__law_ratio (top' : Int) (bottom' : Int) : Option (Int × Int) := ((some (abs1 top')).bind fun one_3 => (some (abs1 bottom')).bind fun other_4 => ((whileO (fun s5 => (some (!decide (s5.2 = (0 : Int))))) (fun s5 => ((some s5.2).bind fun one_12 => (modO s5.1 s5.2).bind fun other_13 => some (one_12, other_13))) FUEL (one_3, other_4)).bind fun s14 => (iteO (some (decide ((0 : Int) < bottom'))) ((divO top' s14.1).bind fun x22 => (divO bottom' s14.1).bind fun x23 => some (x22, x23)) (((some (0 : Int)).bind fun x26 => (divO top' s14.1).bind fun y27 => some (x26 - y27)).bind fun x32 => ((some (0 : Int)).bind fun x30 => (divO bottom' s14.1).bind fun y31 => some (x30 - y31)).bind fun x33 => some (x32, x33)))))
theorem t__law_ratio (top' : Int) (bottom' : Int) : S__law_ratio [eI top', eI bottom'] = (N__law_ratio top' bottom').map (e2 eI eI) := d_run (r_seq_par (i := 2) (j := 3) (A := (some (abs1 top'))) (B := (some (abs1 bottom'))) (t_f1 (A := (some top')) (h := (fun x1 => some (abs1 x1))) g_abs (t_var (i := 0) (e := eI) (v := top') rfl)) (t_f1 (A := (some bottom')) (h := (fun x2 => some (abs1 x2))) g_abs (t_var (i := 1) (e := eI) (v := bottom') rfl)) (lt_of rfl) (lt_of rfl) (fun one_3 other_4 => (r_seq_nx (env := (fun (s : (Int × Int)) (z : Unit) => [.dat (eI top'), .dat (eI bottom'), .dat (eI s.1), .dat (eI s.2)])) (A := (whileO (fun s5 => (some (!decide (s5.2 = (0 : Int))))) (fun s5 => ((some s5.2).bind fun one_12 => (modO s5.1 s5.2).bind fun other_13 => some (one_12, other_13))) FUEL (one_3, other_4))) (n_while (env := (fun (s : (Int × Int)) (z : Unit) => [.dat (eI top'), .dat (eI bottom'), .dat (eI s.1), .dat (eI s.2)])) (s := (one_3, other_4)) (z := ()) (T := fun s5 => (some (!decide (s5.2 = (0 : Int))))) (Bd := fun s5 => ((some s5.2).bind fun one_12 => (modO s5.1 s5.2).bind fun other_13 => some (one_12, other_13))) rfl (fun s5 z6 => (t_T (P := (some (!decide (s5.2 = (0 : Int))))) (t_f2 (A := (some s5.2)) (B := (some (0 : Int))) (h := (fun x7 y8 => some (!decide (x7 = y8)))) (g_ne enc_I rfl) (t_var (i := 3) (e := eI) (v := s5.2) rfl) (t_int (i := 0))))) (fun s5 z6 => (n_par  (K := fun one_12 other_13 => (one_12, other_13)) (i := 2) (j := 3) (A := (some s5.2)) (B := (modO s5.1 s5.2)) (t_var (i := 3) (e := eI) (v := s5.2) rfl) (t_f2 (A := (some s5.1)) (B := (some s5.2)) (h := (fun x10 y11 => (modO x10 y11))) g_mod (t_f1 (A := (some s5.1)) (h := (fun x9 => some x9)) g_int (t_var (i := 2) (e := eI) (v := s5.1) rfl)) (t_var (i := 3) (e := eI) (v := s5.2) rfl)) (lt_of rfl) (lt_of rfl) (fun one_12 other_13 => ⟨(), rfl⟩)))) (fun s14 z15 => (r_ret (A := (iteO (some (decide ((0 : Int) < bottom'))) ((divO top' s14.1).bind fun x22 => (divO bottom' s14.1).bind fun x23 => some (x22, x23)) (((some (0 : Int)).bind fun x26 => (divO top' s14.1).bind fun y27 => some (x26 - y27)).bind fun x32 => ((some (0 : Int)).bind fun x30 => (divO bottom' s14.1).bind fun y31 => some (x30 - y31)).bind fun x33 => some (x32, x33)))) (t_if (P := (some (decide ((0 : Int) < bottom')))) (A := ((divO top' s14.1).bind fun x22 => (divO bottom' s14.1).bind fun x23 => some (x22, x23))) (B := (((some (0 : Int)).bind fun x26 => (divO top' s14.1).bind fun y27 => some (x26 - y27)).bind fun x32 => ((some (0 : Int)).bind fun x30 => (divO bottom' s14.1).bind fun y31 => some (x30 - y31)).bind fun x33 => some (x32, x33))) (t_T (P := (some (decide ((0 : Int) < bottom')))) (t_f2 (A := (some bottom')) (B := (some (0 : Int))) (h := (fun x16 y17 => some (decide (y17 < x16)))) g_gt (t_var (i := 1) (e := eI) (v := bottom') rfl) (t_int (i := 0)))) (t_tup2 (A := (divO top' s14.1)) (B := (divO bottom' s14.1)) (t_f2 (A := (some top')) (B := (some s14.1)) (h := (fun x18 y19 => (divO x18 y19))) g_div (t_var (i := 0) (e := eI) (v := top') rfl) (t_var (i := 2) (e := eI) (v := s14.1) rfl)) (t_f2 (A := (some bottom')) (B := (some s14.1)) (h := (fun x20 y21 => (divO x20 y21))) g_div (t_var (i := 1) (e := eI) (v := bottom') rfl) (t_var (i := 2) (e := eI) (v := s14.1) rfl))) (t_tup2 (A := ((some (0 : Int)).bind fun x26 => (divO top' s14.1).bind fun y27 => some (x26 - y27))) (B := ((some (0 : Int)).bind fun x30 => (divO bottom' s14.1).bind fun y31 => some (x30 - y31))) (t_f2 (A := (some (0 : Int))) (B := (divO top' s14.1)) (h := (fun x26 y27 => some (x26 - y27))) g_sub (t_int (i := 0)) (t_f2 (A := (some top')) (B := (some s14.1)) (h := (fun x24 y25 => (divO x24 y25))) g_div (t_var (i := 0) (e := eI) (v := top') rfl) (t_var (i := 2) (e := eI) (v := s14.1) rfl))) (t_f2 (A := (some (0 : Int))) (B := (divO bottom' s14.1)) (h := (fun x30 y31 => some (x30 - y31))) g_sub (t_int (i := 0)) (t_f2 (A := (some bottom')) (B := (some s14.1)) (h := (fun x28 y29 => (divO x28 y29))) g_div (t_var (i := 1) (e := eI) (v := bottom') rfl) (t_var (i := 2) (e := eI) (v := s14.1) rfl))))))))))
def N__law_plus (one' : (Int × Int)) (other' : (Int × Int)) : Option (Int × Int) := (((mulO one'.1 other'.2).bind fun x9 => (mulO other'.1 one'.2).bind fun y10 => some (x9 + y10)).bind fun a15 => (mulO one'.2 other'.2).bind fun a16 => N__law_ratio a15 a16)
theorem t__law_plus (one' : (Int × Int)) (other' : (Int × Int)) : S__law_plus [(e2 eI eI) one', (e2 eI eI) other'] = (N__law_plus one' other').map (e2 eI eI) := d_run (r_ret (A := (((mulO one'.1 other'.2).bind fun x9 => (mulO other'.1 one'.2).bind fun y10 => some (x9 + y10)).bind fun a15 => (mulO one'.2 other'.2).bind fun a16 => N__law_ratio a15 a16)) (t_call2 (A := ((mulO one'.1 other'.2).bind fun x9 => (mulO other'.1 one'.2).bind fun y10 => some (x9 + y10))) (B := (mulO one'.2 other'.2)) t__law_ratio (t_f2 (A := (mulO one'.1 other'.2)) (B := (mulO other'.1 one'.2)) (h := (fun x9 y10 => some (x9 + y10))) g_add (t_f2 (A := (some one'.1)) (B := (some other'.2)) (h := (fun x3 y4 => (mulO x3 y4))) g_mul (t_ixc (A := (some one')) (k := 0) (pr := fun x1 => x1.1) (eb := eI) (fun _ => rfl) (t_var (i := 0) (e := (e2 eI eI)) (v := one') rfl)) (t_ixc (A := (some other')) (k := 1) (pr := fun x2 => x2.2) (eb := eI) (fun _ => rfl) (t_var (i := 1) (e := (e2 eI eI)) (v := other') rfl))) (t_f2 (A := (some other'.1)) (B := (some one'.2)) (h := (fun x7 y8 => (mulO x7 y8))) g_mul (t_ixc (A := (some other')) (k := 0) (pr := fun x5 => x5.1) (eb := eI) (fun _ => rfl) (t_var (i := 1) (e := (e2 eI eI)) (v := other') rfl)) (t_ixc (A := (some one')) (k := 1) (pr := fun x6 => x6.2) (eb := eI) (fun _ => rfl) (t_var (i := 0) (e := (e2 eI eI)) (v := one') rfl)))) (t_f2 (A := (some one'.2)) (B := (some other'.2)) (h := (fun x13 y14 => (mulO x13 y14))) g_mul (t_ixc (A := (some one')) (k := 1) (pr := fun x11 => x11.2) (eb := eI) (fun _ => rfl) (t_var (i := 0) (e := (e2 eI eI)) (v := one') rfl)) (t_ixc (A := (some other')) (k := 1) (pr := fun x12 => x12.2) (eb := eI) (fun _ => rfl) (t_var (i := 1) (e := (e2 eI eI)) (v := other') rfl)))))
def N__law_by (one' : (Int × Int)) (other' : (Int × Int)) : Option (Int × Int) := ((mulO one'.1 other'.1).bind fun a9 => (mulO one'.2 other'.2).bind fun a10 => N__law_ratio a9 a10)
theorem t__law_by (one' : (Int × Int)) (other' : (Int × Int)) : S__law_by [(e2 eI eI) one', (e2 eI eI) other'] = (N__law_by one' other').map (e2 eI eI) := d_run (r_ret (A := ((mulO one'.1 other'.1).bind fun a9 => (mulO one'.2 other'.2).bind fun a10 => N__law_ratio a9 a10)) (t_call2 (A := (mulO one'.1 other'.1)) (B := (mulO one'.2 other'.2)) t__law_ratio (t_f2 (A := (some one'.1)) (B := (some other'.1)) (h := (fun x3 y4 => (mulO x3 y4))) g_mul (t_ixc (A := (some one')) (k := 0) (pr := fun x1 => x1.1) (eb := eI) (fun _ => rfl) (t_var (i := 0) (e := (e2 eI eI)) (v := one') rfl)) (t_ixc (A := (some other')) (k := 0) (pr := fun x2 => x2.1) (eb := eI) (fun _ => rfl) (t_var (i := 1) (e := (e2 eI eI)) (v := other') rfl))) (t_f2 (A := (some one'.2)) (B := (some other'.2)) (h := (fun x7 y8 => (mulO x7 y8))) g_mul (t_ixc (A := (some one')) (k := 1) (pr := fun x5 => x5.2) (eb := eI) (fun _ => rfl) (t_var (i := 0) (e := (e2 eI eI)) (v := one') rfl)) (t_ixc (A := (some other')) (k := 1) (pr := fun x6 => x6.2) (eb := eI) (fun _ => rfl) (t_var (i := 1) (e := (e2 eI eI)) (v := other') rfl)))))
def N__law_less (one' : (Int × Int)) (other' : (Int × Int)) : Option Bool := ((mulO one'.1 other'.2).bind fun x9 => (mulO other'.1 one'.2).bind fun y10 => some (decide (x9 < y10)))
theorem t__law_less (one' : (Int × Int)) (other' : (Int × Int)) : S__law_less [(e2 eI eI) one', (e2 eI eI) other'] = (N__law_less one' other').map eB := d_run (r_ret (A := ((mulO one'.1 other'.2).bind fun x9 => (mulO other'.1 one'.2).bind fun y10 => some (decide (x9 < y10)))) (t_f2 (A := (mulO one'.1 other'.2)) (B := (mulO other'.1 one'.2)) (h := (fun x9 y10 => some (decide (x9 < y10)))) g_lt (t_f2 (A := (some one'.1)) (B := (some other'.2)) (h := (fun x3 y4 => (mulO x3 y4))) g_mul (t_ixc (A := (some one')) (k := 0) (pr := fun x1 => x1.1) (eb := eI) (fun _ => rfl) (t_var (i := 0) (e := (e2 eI eI)) (v := one') rfl)) (t_ixc (A := (some other')) (k := 1) (pr := fun x2 => x2.2) (eb := eI) (fun _ => rfl) (t_var (i := 1) (e := (e2 eI eI)) (v := other') rfl))) (t_f2 (A := (some other'.1)) (B := (some one'.2)) (h := (fun x7 y8 => (mulO x7 y8))) g_mul (t_ixc (A := (some other')) (k := 0) (pr := fun x5 => x5.1) (eb := eI) (fun _ => rfl) (t_var (i := 1) (e := (e2 eI eI)) (v := other') rfl)) (t_ixc (A := (some one')) (k := 1) (pr := fun x6 => x6.2) (eb := eI) (fun _ => rfl) (t_var (i := 0) (e := (e2 eI eI)) (v := one') rfl)))))
def N__law_sum (some' : (List (Int × Int))) : Option (Int × Int) := ((some ((0 : Int), (1 : Int))).bind fun found_1 => ((foldO (fun i4 s2 => ((N__law_plus s2 i4).bind fun found_5 => some found_5)) some' found_1).bind fun s6 => (some s6)))
theorem t__law_sum (some' : (List (Int × Int))) : S__law_sum [(eL (e2 eI eI)) some'] = (N__law_sum some').map (e2 eI eI) := d_run (r_seq_set (i := 1) (A := (some ((0 : Int), (1 : Int)))) (t_tup2 (A := (some (0 : Int))) (B := (some (1 : Int))) (t_int (i := 0)) (t_int (i := 1))) (lt_of rfl) (fun found_1 => (r_seq_nx (env := (fun (s : ((Int × Int))) (z : (Slot)) => [.dat ((eL (e2 eI eI)) some'), .dat ((e2 eI eI) s), z])) (A := (foldO (fun i4 s2 => ((N__law_plus s2 i4).bind fun found_5 => some found_5)) some' found_1)) (n_for (env := (fun (s : ((Int × Int))) (z : (Slot)) => [.dat ((eL (e2 eI eI)) some'), .dat ((e2 eI eI) s), z])) (s := found_1) (z := (.no : Slot)) (L := (some some')) (ea := (e2 eI eI)) (Bd := (fun i4 s2 => ((N__law_plus s2 i4).bind fun found_5 => some found_5))) rfl (i_seqL (A := (some some')) (e := (e2 eI eI)) (t_var (i := 0) (e := (eL (e2 eI eI))) (v := some') rfl)) (fun i4 s2 z3 => ⟨[.dat ((eL (e2 eI eI)) some'), .dat ((e2 eI eI) s2), .dat ((e2 eI eI) i4)], rfl, (n_set  (K := fun found_5 => found_5) (i := 1) (A := (N__law_plus s2 i4)) (t_call2 (A := (some s2)) (B := (some i4)) t__law_plus (t_var (i := 1) (e := (e2 eI eI)) (v := s2) rfl) (t_var (i := 2) (e := (e2 eI eI)) (v := i4) rfl)) (lt_of rfl) (fun found_5 => ⟨(.dat ((e2 eI eI) i4) : Slot), rfl⟩))⟩)) (fun s6 z7 => (r_ret (A := (some s6)) (t_var (i := 1) (e := (e2 eI eI)) (v := s6) rfl))))))
def N__law_is_ratio (value' : (Int × Int)) : Option Bool := (iteO (some (!true)) (some false) (iteO (some (!decide ((2 : Int) = (2 : Int)))) (some false) (iteO ((compL (fun i7 => (some ((!true) || false))) (fun i7 => (some i7)) [value'.1, value'.2]).bind fun x11 => (some ([] : (List Int))).bind fun y12 => some (!decide (x11 = y12))) (some false) (andO (some (decide ((0 : Int) < value'.2))) ((N__law_ratio value'.1 value'.2).bind fun x18 => (some value').bind fun y19 => some (decide (x18 = y19)))))))
theorem t__law_is_ratio (value' : (Int × Int)) : S__law_is_ratio [(e2 eI eI) value'] = (N__law_is_ratio value').map eB := d_run (r_seq_ifret (P := (some (!true))) (A := (some false)) (t_knot (P := (some true)) (t_T (P := (some true)) (t_isi (A := (some value')) (b := fun x1 => true) (fun _ => rfl) (t_var (i := 0) (e := (e2 eI eI)) (v := value') rfl)))) (r_ret (A := (some false)) (t_bl (b := false))) (r_seq_ifret (P := (some (!decide ((2 : Int) = (2 : Int))))) (A := (some false)) (t_T (P := (some (!decide ((2 : Int) = (2 : Int))))) (t_f2 (A := (some (2 : Int))) (B := (some (2 : Int))) (h := (fun x4 y5 => some (!decide (x4 = y5)))) (g_ne enc_I rfl) (t_f1 (A := (some value')) (h := (fun x3 => some (2 : Int))) (fun _ => rfl) (t_var (i := 0) (e := (e2 eI eI)) (v := value') rfl)) (t_int (i := 2)))) (r_ret (A := (some false)) (t_bl (b := false))) (r_seq_ifret (P := ((compL (fun i7 => (some ((!true) || false))) (fun i7 => (some i7)) [value'.1, value'.2]).bind fun x11 => (some ([] : (List Int))).bind fun y12 => some (!decide (x11 = y12)))) (A := (some false)) (t_T (P := ((compL (fun i7 => (some ((!true) || false))) (fun i7 => (some i7)) [value'.1, value'.2]).bind fun x11 => (some ([] : (List Int))).bind fun y12 => some (!decide (x11 = y12)))) (t_f2 (A := (compL (fun i7 => (some ((!true) || false))) (fun i7 => (some i7)) [value'.1, value'.2])) (B := (some ([] : (List Int)))) (h := (fun x11 y12 => some (!decide (x11 = y12)))) (g_ne (enc_L enc_I) rfl) (t_lc (L := (some [value'.1, value'.2])) (ea := eI) (eb := eI) (T := fun i7 => (some ((!true) || false))) (Bf := fun i7 => (some i7)) (i_seq (A := (some value')) (e := eI) (u := fun x6 => [x6.1, x6.2]) (fun _ => rfl) (t_var (i := 0) (e := (e2 eI eI)) (v := value') rfl)) (fun i7 => ⟨[.dat ((e2 eI eI) value'), .dat (eI i7)], rfl, (t_korP (b := (!true)) (c := false) (t_knot (P := (some true)) (t_T (P := (some true)) (t_isi (A := (some i7)) (b := fun x8 => true) (fun _ => rfl) (t_var (i := 1) (e := eI) (v := i7) rfl)))) (t_T (P := (some false)) (t_isi (A := (some i7)) (b := fun x10 => false) (fun _ => rfl) (t_var (i := 1) (e := eI) (v := i7) rfl)))), (t_var (i := 1) (e := eI) (v := i7) rfl)⟩)) (t_lstL (L := some []) (t_nil (α := Int) (e := eI))))) (r_ret (A := (some false)) (t_bl (b := false))) (r_ret (A := (andO (some (decide ((0 : Int) < value'.2))) ((N__law_ratio value'.1 value'.2).bind fun x18 => (some value').bind fun y19 => some (decide (x18 = y19))))) (t_and (P := (some (decide ((0 : Int) < value'.2)))) (Q := ((N__law_ratio value'.1 value'.2).bind fun x18 => (some value').bind fun y19 => some (decide (x18 = y19)))) (t_f2 (A := (some value'.2)) (B := (some (0 : Int))) (h := (fun x14 y15 => some (decide (y15 < x14)))) g_gt (t_ixc (A := (some value')) (k := 1) (pr := fun x13 => x13.2) (eb := eI) (fun _ => rfl) (t_var (i := 0) (e := (e2 eI eI)) (v := value') rfl)) (t_int (i := 0))) (t_f2 (A := (N__law_ratio value'.1 value'.2)) (B := (some value')) (h := (fun x18 y19 => some (decide (x18 = y19)))) (g_eq (enc_2 enc_I enc_I) rfl) (t_call2 (A := (some value'.1)) (B := (some value'.2)) t__law_ratio (t_ixc (A := (some value')) (k := 0) (pr := fun x16 => x16.1) (eb := eI) (fun _ => rfl) (t_var (i := 0) (e := (e2 eI eI)) (v := value') rfl)) (t_ixc (A := (some value')) (k := 1) (pr := fun x17 => x17.2) (eb := eI) (fun _ => rfl) (t_var (i := 0) (e := (e2 eI eI)) (v := value') rfl))) (t_var (i := 0) (e := (e2 eI eI)) (v := value') rfl)))))))
def N_is_whole (value' : Int) : Option Bool := (some (true && (!false)))
theorem t_is_whole (value' : Int) : S_is_whole [eI value'] = (N_is_whole value').map eB := d_run (r_ret (A := (some (true && (!false)))) (t_andP (b := true) (c := (!false)) (t_isi (A := (some value')) (b := fun x1 => true) (fun _ => rfl) (t_var (i := 0) (e := eI) (v := value') rfl)) (t_not (P := (some false)) (t_isi (A := (some value')) (b := fun x2 => false) (fun _ => rfl) (t_var (i := 0) (e := eI) (v := value') rfl)))))
def N_is_between (value' : Int) (least' : Int) (most' : Int) : Option Bool := (andO (N_is_whole value') (some (decide (least' ≤ value') && decide (value' ≤ most'))))
theorem t_is_between (value' : Int) (least' : Int) (most' : Int) : S_is_between [eI value', eI least', eI most'] = (N_is_between value' least' most').map eB := d_run (r_ret (A := (andO (N_is_whole value') (some (decide (least' ≤ value') && decide (value' ≤ most'))))) (t_and (P := (N_is_whole value')) (Q := (some (decide (least' ≤ value') && decide (value' ≤ most')))) (t_call1 (A := (some value')) t_is_whole (t_var (i := 0) (e := eI) (v := value') rfl)) (t_chainP (x := least') (y := value') (z := most') (t_var (i := 1) (e := eI) (v := least') rfl) (t_var (i := 0) (e := eI) (v := value') rfl) (t_var (i := 2) (e := eI) (v := most') rfl))))
def N_is_row_between (value' : (List Int)) (least' : Int) (most' : Int) : Option Bool := (andO (some true) (allO true (fun i2 => (N_is_between i2 least' most')) value'))
theorem t_is_row_between (value' : (List Int)) (least' : Int) (most' : Int) : S_is_row_between [(eR eI) value', eI least', eI most'] = (N_is_row_between value' least' most').map eB := d_run (r_ret (A := (andO (some true) (allO true (fun i2 => (N_is_between i2 least' most')) value'))) (t_and (P := (some true)) (Q := (allO true (fun i2 => (N_is_between i2 least' most')) value')) (t_isi (A := (some value')) (b := fun x1 => true) (fun _ => rfl) (t_var (i := 0) (e := (eR eI)) (v := value') rfl)) (t_all (L := (some value')) (ea := eI) (Bf := fun i2 => (N_is_between i2 least' most')) (i_seqR (A := (some value')) (e := eI) (t_var (i := 0) (e := (eR eI)) (v := value') rfl)) (fun i2 => ⟨[.dat ((eR eI) value'), .dat (eI least'), .dat (eI most'), .dat (eI i2)], rfl, (t_call3 (A := (some i2)) (B := (some least')) (C := (some most')) t_is_between (t_var (i := 3) (e := eI) (v := i2) rfl) (t_var (i := 1) (e := eI) (v := least') rfl) (t_var (i := 2) (e := eI) (v := most') rfl))⟩))))
def N_is_inflows (value' : (List Int)) : Option Bool := (andO (N_is_row_between value' (0 : Int) (1000 : Int)) (some (decide ((1 : Int) ≤ ((value').length : Int)) && decide (((value').length : Int) ≤ (12 : Int)))))
theorem t_is_inflows (value' : (List Int)) : S_is_inflows [(eR eI) value'] = (N_is_inflows value').map eB := d_run (r_ret (A := (andO (N_is_row_between value' (0 : Int) (1000 : Int)) (some (decide ((1 : Int) ≤ ((value').length : Int)) && decide (((value').length : Int) ≤ (12 : Int)))))) (t_and (P := (N_is_row_between value' (0 : Int) (1000 : Int))) (Q := (some (decide ((1 : Int) ≤ ((value').length : Int)) && decide (((value').length : Int) ≤ (12 : Int))))) (t_call3 (A := (some value')) (B := (some (0 : Int))) (C := (some (1000 : Int))) t_is_row_between (t_var (i := 0) (e := (eR eI)) (v := value') rfl) (t_int (i := 0)) (t_int (i := 1000))) (t_chainP (x := (1 : Int)) (y := ((value').length : Int)) (z := (12 : Int)) (t_int (i := 1)) (t_f1 (A := (some value')) (h := (fun x1 => some ((x1).length : Int))) g_lenR (t_var (i := 0) (e := (eR eI)) (v := value') rfl)) (t_int (i := 12)))))
def N_is_dam (value' : (Int × Int × Int × (List Int))) : Option Bool := (iteO (some (!(true && (decide ((4 : Int) = (4 : Int)))))) (some false) ((some value').bind fun p6 => (iteO ((N_is_between p6.1 (0 : Int) (1000 : Int)).bind fun b7 => some (!b7)) (some false) (andO (N_is_between p6.2.1 (0 : Int) p6.1) (andO (N_is_between p6.2.2.1 (0 : Int) p6.1) (N_is_inflows p6.2.2.2))))))
theorem t_is_dam (value' : (Int × Int × Int × (List Int))) : S_is_dam [(e4 eI eI eI (eR eI)) value'] = (N_is_dam value').map eB := d_run (r_seq_ifret (P := (some (!(true && (decide ((4 : Int) = (4 : Int))))))) (A := (some false)) (t_knot (P := (some (true && (decide ((4 : Int) = (4 : Int)))))) (t_kandP (b := true) (c := (decide ((4 : Int) = (4 : Int)))) (t_T (P := (some true)) (t_isi (A := (some value')) (b := fun x1 => true) (fun _ => rfl) (t_var (i := 0) (e := (e4 eI eI eI (eR eI))) (v := value') rfl))) (t_T (P := (some (decide ((4 : Int) = (4 : Int))))) (t_f2 (A := (some (4 : Int))) (B := (some (4 : Int))) (h := (fun x3 y4 => some (decide (x3 = y4)))) (g_eq enc_I rfl) (t_f1 (A := (some value')) (h := (fun x2 => some (4 : Int))) (fun _ => rfl) (t_var (i := 0) (e := (e4 eI eI eI (eR eI))) (v := value') rfl)) (t_int (i := 4)))))) (r_ret (A := (some false)) (t_bl (b := false))) (r_seq_bind (A := (some value')) (envb := fun p6 => [.dat ((e4 eI eI eI (eR eI)) value'), .dat (eI p6.1), .dat (eI p6.2.1), .dat (eI p6.2.2.1), .dat ((eR eI) p6.2.2.2)]) (t_var (i := 0) (e := (e4 eI eI eI (eR eI))) (v := value') rfl) (fun _ => rfl) (fun p6 => (r_seq_ifret (P := ((N_is_between p6.1 (0 : Int) (1000 : Int)).bind fun b7 => some (!b7))) (A := (some false)) (t_knot (P := (N_is_between p6.1 (0 : Int) (1000 : Int))) (t_T (P := (N_is_between p6.1 (0 : Int) (1000 : Int))) (t_call3 (A := (some p6.1)) (B := (some (0 : Int))) (C := (some (1000 : Int))) t_is_between (t_var (i := 1) (e := eI) (v := p6.1) rfl) (t_int (i := 0)) (t_int (i := 1000))))) (r_ret (A := (some false)) (t_bl (b := false))) (r_ret (A := (andO (N_is_between p6.2.1 (0 : Int) p6.1) (andO (N_is_between p6.2.2.1 (0 : Int) p6.1) (N_is_inflows p6.2.2.2)))) (t_and (P := (N_is_between p6.2.1 (0 : Int) p6.1)) (Q := (andO (N_is_between p6.2.2.1 (0 : Int) p6.1) (N_is_inflows p6.2.2.2))) (t_call3 (A := (some p6.2.1)) (B := (some (0 : Int))) (C := (some p6.1)) t_is_between (t_var (i := 2) (e := eI) (v := p6.2.1) rfl) (t_int (i := 0)) (t_var (i := 1) (e := eI) (v := p6.1) rfl)) (t_and (P := (N_is_between p6.2.2.1 (0 : Int) p6.1)) (Q := (N_is_inflows p6.2.2.2)) (t_call3 (A := (some p6.2.2.1)) (B := (some (0 : Int))) (C := (some p6.1)) t_is_between (t_var (i := 3) (e := eI) (v := p6.2.2.1) rfl) (t_int (i := 0)) (t_var (i := 1) (e := eI) (v := p6.1) rfl)) (t_call1 (A := (some p6.2.2.2)) t_is_inflows (t_var (i := 4) (e := (eR eI)) (v := p6.2.2.2) rfl)))))))))
def N_check_dam (dam' : (Int × Int × Int × (List Int))) : Option Unit := (iteO ((N_is_dam dam').bind fun b1 => some (!b1)) none (some ())).bind fun _ => some ()
theorem t_check_dam (dam' : (Int × Int × Int × (List Int))) : S_check_dam [(e4 eI eI eI (eR eI)) dam'] = (N_check_dam dam').map eU := d_runN (env := (fun (s : Unit) (z : Unit) => [.dat ((e4 eI eI eI (eR eI)) dam')])) (n_if (P := ((N_is_dam dam').bind fun b1 => some (!b1))) (A := none) (B := (some ())) (t_knot (P := (N_is_dam dam')) (t_T (P := (N_is_dam dam')) (t_call1 (A := (some dam')) t_is_dam (t_var (i := 0) (e := (e4 eI eI eI (eR eI))) (v := dam') rfl)))) n_never (n_nil (s := ()) (z := ()) rfl))
def N_ratio (top' : Int) (bottom' : Int) : Option (Int × Int) := ((some ((Nat.gcd (top').natAbs (bottom').natAbs : Nat) : Int)).bind fun shared_1 => ((divO top' shared_1).bind fun x8 => (divO bottom' shared_1).bind fun x9 => some (x8, x9)))
theorem t_ratio (top' : Int) (bottom' : Int) : S_ratio [eI top', eI bottom'] = (N_ratio top' bottom').map (e2 eI eI) := d_run (r_seq_set (i := 2) (A := (some ((Nat.gcd (top').natAbs (bottom').natAbs : Nat) : Int))) (t_f2 (A := (some top')) (B := (some bottom')) (h := (fun x2 y3 => some ((Nat.gcd (x2).natAbs (y3).natAbs : Nat) : Int))) g_gcd (t_var (i := 0) (e := eI) (v := top') rfl) (t_var (i := 1) (e := eI) (v := bottom') rfl)) (lt_of rfl) (fun shared_1 => (r_ret (A := ((divO top' shared_1).bind fun x8 => (divO bottom' shared_1).bind fun x9 => some (x8, x9))) (t_tup2 (A := (divO top' shared_1)) (B := (divO bottom' shared_1)) (t_f2 (A := (some top')) (B := (some shared_1)) (h := (fun x4 y5 => (divO x4 y5))) g_div (t_var (i := 0) (e := eI) (v := top') rfl) (t_var (i := 2) (e := eI) (v := shared_1) rfl)) (t_f2 (A := (some bottom')) (B := (some shared_1)) (h := (fun x6 y7 => (divO x6 y7))) g_div (t_var (i := 1) (e := eI) (v := bottom') rfl) (t_var (i := 2) (e := eI) (v := shared_1) rfl))))))
def N_is_less (one' : (Int × Int)) (other' : (Int × Int)) : Option Bool := ((mulO one'.1 other'.2).bind fun x9 => (mulO other'.1 one'.2).bind fun y10 => some (decide (x9 < y10)))
theorem t_is_less (one' : (Int × Int)) (other' : (Int × Int)) : S_is_less [(e2 eI eI) one', (e2 eI eI) other'] = (N_is_less one' other').map eB := d_run (r_ret (A := ((mulO one'.1 other'.2).bind fun x9 => (mulO other'.1 one'.2).bind fun y10 => some (decide (x9 < y10)))) (t_f2 (A := (mulO one'.1 other'.2)) (B := (mulO other'.1 one'.2)) (h := (fun x9 y10 => some (decide (x9 < y10)))) g_lt (t_f2 (A := (some one'.1)) (B := (some other'.2)) (h := (fun x3 y4 => (mulO x3 y4))) g_mul (t_ixc (A := (some one')) (k := 0) (pr := fun x1 => x1.1) (eb := eI) (fun _ => rfl) (t_var (i := 0) (e := (e2 eI eI)) (v := one') rfl)) (t_ixc (A := (some other')) (k := 1) (pr := fun x2 => x2.2) (eb := eI) (fun _ => rfl) (t_var (i := 1) (e := (e2 eI eI)) (v := other') rfl))) (t_f2 (A := (some other'.1)) (B := (some one'.2)) (h := (fun x7 y8 => (mulO x7 y8))) g_mul (t_ixc (A := (some other')) (k := 0) (pr := fun x5 => x5.1) (eb := eI) (fun _ => rfl) (t_var (i := 1) (e := (e2 eI eI)) (v := other') rfl)) (t_ixc (A := (some one')) (k := 1) (pr := fun x6 => x6.2) (eb := eI) (fun _ => rfl) (t_var (i := 0) (e := (e2 eI eI)) (v := one') rfl)))))
def N_least_ratio (ratios' : (List (Int × Int))) : Option (Int × Int) := ((atI ratios' (0 : Int)).bind fun least_1 => ((foldO (fun i6 s4 => (iteO (N_is_less i6 s4) ((some i6).bind fun least_7 => some least_7) (some s4))) ratios' least_1).bind fun s8 => (some s8)))
theorem t_least_ratio (ratios' : (List (Int × Int))) : S_least_ratio [(eL (e2 eI eI)) ratios'] = (N_least_ratio ratios').map (e2 eI eI) := d_run (r_seq_set (i := 1) (A := (atI ratios' (0 : Int))) (t_f2 (A := (some ratios')) (B := (some (0 : Int))) (h := (fun x2 y3 => (atI x2 y3))) g_ixL (t_var (i := 0) (e := (eL (e2 eI eI))) (v := ratios') rfl) (t_int (i := 0))) (lt_of rfl) (fun least_1 => (r_seq_nx (env := (fun (s : ((Int × Int))) (z : (Slot)) => [.dat ((eL (e2 eI eI)) ratios'), .dat ((e2 eI eI) s), z])) (A := (foldO (fun i6 s4 => (iteO (N_is_less i6 s4) ((some i6).bind fun least_7 => some least_7) (some s4))) ratios' least_1)) (n_for (env := (fun (s : ((Int × Int))) (z : (Slot)) => [.dat ((eL (e2 eI eI)) ratios'), .dat ((e2 eI eI) s), z])) (s := least_1) (z := (.no : Slot)) (L := (some ratios')) (ea := (e2 eI eI)) (Bd := (fun i6 s4 => (iteO (N_is_less i6 s4) ((some i6).bind fun least_7 => some least_7) (some s4)))) rfl (i_seqL (A := (some ratios')) (e := (e2 eI eI)) (t_var (i := 0) (e := (eL (e2 eI eI))) (v := ratios') rfl)) (fun i6 s4 z5 => ⟨[.dat ((eL (e2 eI eI)) ratios'), .dat ((e2 eI eI) s4), .dat ((e2 eI eI) i6)], rfl, (n_if (P := (N_is_less i6 s4)) (A := ((some i6).bind fun least_7 => some least_7)) (B := (some s4)) (t_T (P := (N_is_less i6 s4)) (t_call2 (A := (some i6)) (B := (some s4)) t_is_less (t_var (i := 2) (e := (e2 eI eI)) (v := i6) rfl) (t_var (i := 1) (e := (e2 eI eI)) (v := s4) rfl))) (n_set  (K := fun least_7 => least_7) (i := 1) (A := (some i6)) (t_var (i := 2) (e := (e2 eI eI)) (v := i6) rfl) (lt_of rfl) (fun least_7 => ⟨(.dat ((e2 eI eI) i6) : Slot), rfl⟩)) (n_nil (s := s4) (z := (.dat ((e2 eI eI) i6) : Slot)) rfl))⟩)) (fun s8 z9 => (r_ret (A := (some s8)) (t_var (i := 1) (e := (e2 eI eI)) (v := s8) rfl))))))
def F_is_ratio (c_is_whole : List PyData → Option PyData) : En → Option Fl := (sSeq (sIf (kNot (kAnd (fT (fIsi isTup (fVar 0))) (fT (fEq (fLen (fVar 0)) (fLit (.int 2)))))) (sRet (fLit (.bool false))) sNil) (sSeq (sBind (bTup [1, 2]) (fVar 0)) (sRet (fAnd (fCall 1 c_is_whole (fCons (fVar 1) fNil)) (fAnd (fCall 1 c_is_whole (fCons (fVar 2) fNil)) (fAnd (fGt (fVar 2) (fLit (.int 0))) (fEq (fGcd (fVar 1) (fVar 2)) (fLit (.int 1)))))))))
def S_is_ratio := runD 3 (F_is_ratio S_is_whole)
def F_plus (c_ratio : List PyData → Option PyData) : En → Option Fl := (sRet (fCall 2 c_ratio (fCons (fPlus (fTimes (fIx (fVar 0) (fLit (.int 0))) (fIx (fVar 1) (fLit (.int 1)))) (fTimes (fIx (fVar 1) (fLit (.int 0))) (fIx (fVar 0) (fLit (.int 1))))) (fCons (fTimes (fIx (fVar 0) (fLit (.int 1))) (fIx (fVar 1) (fLit (.int 1)))) fNil))))
def S_plus := runD 2 (F_plus S_ratio)
def F_minus (c_ratio : List PyData → Option PyData) : En → Option Fl := (sRet (fCall 2 c_ratio (fCons (fSub (fTimes (fIx (fVar 0) (fLit (.int 0))) (fIx (fVar 1) (fLit (.int 1)))) (fTimes (fIx (fVar 1) (fLit (.int 0))) (fIx (fVar 0) (fLit (.int 1))))) (fCons (fTimes (fIx (fVar 0) (fLit (.int 1))) (fIx (fVar 1) (fLit (.int 1)))) fNil))))
def S_minus := runD 2 (F_minus S_ratio)
def F_times (c_ratio : List PyData → Option PyData) : En → Option Fl := (sRet (fCall 2 c_ratio (fCons (fTimes (fIx (fVar 0) (fLit (.int 0))) (fIx (fVar 1) (fLit (.int 0)))) (fCons (fTimes (fIx (fVar 0) (fLit (.int 1))) (fIx (fVar 1) (fLit (.int 1)))) fNil))))
def S_times := runD 2 (F_times S_ratio)
def F_divided (c_ratio : List PyData → Option PyData) : En → Option Fl := (sSeq (sPar 2 3 (fTimes (fIx (fVar 0) (fLit (.int 0))) (fIx (fVar 1) (fLit (.int 1)))) (fTimes (fIx (fVar 0) (fLit (.int 1))) (fIx (fVar 1) (fLit (.int 0))))) (sRet (fIf (fT (fGt (fVar 3) (fLit (.int 0)))) (fCall 2 c_ratio (fCons (fVar 2) (fCons (fVar 3) fNil))) (fCall 2 c_ratio (fCons (fNeg (fVar 2)) (fCons (fNeg (fVar 3)) fNil))))))
def S_divided := runD 4 (F_divided S_ratio)
def N_plus (one' : (Int × Int)) (other' : (Int × Int)) : Option (Int × Int) := (((mulO one'.1 other'.2).bind fun x9 => (mulO other'.1 one'.2).bind fun y10 => some (x9 + y10)).bind fun a15 => (mulO one'.2 other'.2).bind fun a16 => N_ratio a15 a16)
theorem t_plus (one' : (Int × Int)) (other' : (Int × Int)) : S_plus [(e2 eI eI) one', (e2 eI eI) other'] = (N_plus one' other').map (e2 eI eI) := d_run (r_ret (A := (((mulO one'.1 other'.2).bind fun x9 => (mulO other'.1 one'.2).bind fun y10 => some (x9 + y10)).bind fun a15 => (mulO one'.2 other'.2).bind fun a16 => N_ratio a15 a16)) (t_call2 (A := ((mulO one'.1 other'.2).bind fun x9 => (mulO other'.1 one'.2).bind fun y10 => some (x9 + y10))) (B := (mulO one'.2 other'.2)) t_ratio (t_f2 (A := (mulO one'.1 other'.2)) (B := (mulO other'.1 one'.2)) (h := (fun x9 y10 => some (x9 + y10))) g_add (t_f2 (A := (some one'.1)) (B := (some other'.2)) (h := (fun x3 y4 => (mulO x3 y4))) g_mul (t_ixc (A := (some one')) (k := 0) (pr := fun x1 => x1.1) (eb := eI) (fun _ => rfl) (t_var (i := 0) (e := (e2 eI eI)) (v := one') rfl)) (t_ixc (A := (some other')) (k := 1) (pr := fun x2 => x2.2) (eb := eI) (fun _ => rfl) (t_var (i := 1) (e := (e2 eI eI)) (v := other') rfl))) (t_f2 (A := (some other'.1)) (B := (some one'.2)) (h := (fun x7 y8 => (mulO x7 y8))) g_mul (t_ixc (A := (some other')) (k := 0) (pr := fun x5 => x5.1) (eb := eI) (fun _ => rfl) (t_var (i := 1) (e := (e2 eI eI)) (v := other') rfl)) (t_ixc (A := (some one')) (k := 1) (pr := fun x6 => x6.2) (eb := eI) (fun _ => rfl) (t_var (i := 0) (e := (e2 eI eI)) (v := one') rfl)))) (t_f2 (A := (some one'.2)) (B := (some other'.2)) (h := (fun x13 y14 => (mulO x13 y14))) g_mul (t_ixc (A := (some one')) (k := 1) (pr := fun x11 => x11.2) (eb := eI) (fun _ => rfl) (t_var (i := 0) (e := (e2 eI eI)) (v := one') rfl)) (t_ixc (A := (some other')) (k := 1) (pr := fun x12 => x12.2) (eb := eI) (fun _ => rfl) (t_var (i := 1) (e := (e2 eI eI)) (v := other') rfl)))))
def N_minus (one' : (Int × Int)) (other' : (Int × Int)) : Option (Int × Int) := (((mulO one'.1 other'.2).bind fun x9 => (mulO other'.1 one'.2).bind fun y10 => some (x9 - y10)).bind fun a15 => (mulO one'.2 other'.2).bind fun a16 => N_ratio a15 a16)
theorem t_minus (one' : (Int × Int)) (other' : (Int × Int)) : S_minus [(e2 eI eI) one', (e2 eI eI) other'] = (N_minus one' other').map (e2 eI eI) := d_run (r_ret (A := (((mulO one'.1 other'.2).bind fun x9 => (mulO other'.1 one'.2).bind fun y10 => some (x9 - y10)).bind fun a15 => (mulO one'.2 other'.2).bind fun a16 => N_ratio a15 a16)) (t_call2 (A := ((mulO one'.1 other'.2).bind fun x9 => (mulO other'.1 one'.2).bind fun y10 => some (x9 - y10))) (B := (mulO one'.2 other'.2)) t_ratio (t_f2 (A := (mulO one'.1 other'.2)) (B := (mulO other'.1 one'.2)) (h := (fun x9 y10 => some (x9 - y10))) g_sub (t_f2 (A := (some one'.1)) (B := (some other'.2)) (h := (fun x3 y4 => (mulO x3 y4))) g_mul (t_ixc (A := (some one')) (k := 0) (pr := fun x1 => x1.1) (eb := eI) (fun _ => rfl) (t_var (i := 0) (e := (e2 eI eI)) (v := one') rfl)) (t_ixc (A := (some other')) (k := 1) (pr := fun x2 => x2.2) (eb := eI) (fun _ => rfl) (t_var (i := 1) (e := (e2 eI eI)) (v := other') rfl))) (t_f2 (A := (some other'.1)) (B := (some one'.2)) (h := (fun x7 y8 => (mulO x7 y8))) g_mul (t_ixc (A := (some other')) (k := 0) (pr := fun x5 => x5.1) (eb := eI) (fun _ => rfl) (t_var (i := 1) (e := (e2 eI eI)) (v := other') rfl)) (t_ixc (A := (some one')) (k := 1) (pr := fun x6 => x6.2) (eb := eI) (fun _ => rfl) (t_var (i := 0) (e := (e2 eI eI)) (v := one') rfl)))) (t_f2 (A := (some one'.2)) (B := (some other'.2)) (h := (fun x13 y14 => (mulO x13 y14))) g_mul (t_ixc (A := (some one')) (k := 1) (pr := fun x11 => x11.2) (eb := eI) (fun _ => rfl) (t_var (i := 0) (e := (e2 eI eI)) (v := one') rfl)) (t_ixc (A := (some other')) (k := 1) (pr := fun x12 => x12.2) (eb := eI) (fun _ => rfl) (t_var (i := 1) (e := (e2 eI eI)) (v := other') rfl)))))
def N_times (one' : (Int × Int)) (other' : (Int × Int)) : Option (Int × Int) := ((mulO one'.1 other'.1).bind fun a9 => (mulO one'.2 other'.2).bind fun a10 => N_ratio a9 a10)
theorem t_times (one' : (Int × Int)) (other' : (Int × Int)) : S_times [(e2 eI eI) one', (e2 eI eI) other'] = (N_times one' other').map (e2 eI eI) := d_run (r_ret (A := ((mulO one'.1 other'.1).bind fun a9 => (mulO one'.2 other'.2).bind fun a10 => N_ratio a9 a10)) (t_call2 (A := (mulO one'.1 other'.1)) (B := (mulO one'.2 other'.2)) t_ratio (t_f2 (A := (some one'.1)) (B := (some other'.1)) (h := (fun x3 y4 => (mulO x3 y4))) g_mul (t_ixc (A := (some one')) (k := 0) (pr := fun x1 => x1.1) (eb := eI) (fun _ => rfl) (t_var (i := 0) (e := (e2 eI eI)) (v := one') rfl)) (t_ixc (A := (some other')) (k := 0) (pr := fun x2 => x2.1) (eb := eI) (fun _ => rfl) (t_var (i := 1) (e := (e2 eI eI)) (v := other') rfl))) (t_f2 (A := (some one'.2)) (B := (some other'.2)) (h := (fun x7 y8 => (mulO x7 y8))) g_mul (t_ixc (A := (some one')) (k := 1) (pr := fun x5 => x5.2) (eb := eI) (fun _ => rfl) (t_var (i := 0) (e := (e2 eI eI)) (v := one') rfl)) (t_ixc (A := (some other')) (k := 1) (pr := fun x6 => x6.2) (eb := eI) (fun _ => rfl) (t_var (i := 1) (e := (e2 eI eI)) (v := other') rfl)))))
def N_divided (one' : (Int × Int)) (other' : (Int × Int)) : Option (Int × Int) := ((mulO one'.1 other'.2).bind fun top_9 => (mulO one'.2 other'.1).bind fun bottom_10 => (iteO (some (decide ((0 : Int) < bottom_10))) (N_ratio top_9 bottom_10) (N_ratio (-top_9) (-bottom_10))))
theorem t_divided (one' : (Int × Int)) (other' : (Int × Int)) : S_divided [(e2 eI eI) one', (e2 eI eI) other'] = (N_divided one' other').map (e2 eI eI) := d_run (r_seq_par (i := 2) (j := 3) (A := (mulO one'.1 other'.2)) (B := (mulO one'.2 other'.1)) (t_f2 (A := (some one'.1)) (B := (some other'.2)) (h := (fun x3 y4 => (mulO x3 y4))) g_mul (t_ixc (A := (some one')) (k := 0) (pr := fun x1 => x1.1) (eb := eI) (fun _ => rfl) (t_var (i := 0) (e := (e2 eI eI)) (v := one') rfl)) (t_ixc (A := (some other')) (k := 1) (pr := fun x2 => x2.2) (eb := eI) (fun _ => rfl) (t_var (i := 1) (e := (e2 eI eI)) (v := other') rfl))) (t_f2 (A := (some one'.2)) (B := (some other'.1)) (h := (fun x7 y8 => (mulO x7 y8))) g_mul (t_ixc (A := (some one')) (k := 1) (pr := fun x5 => x5.2) (eb := eI) (fun _ => rfl) (t_var (i := 0) (e := (e2 eI eI)) (v := one') rfl)) (t_ixc (A := (some other')) (k := 0) (pr := fun x6 => x6.1) (eb := eI) (fun _ => rfl) (t_var (i := 1) (e := (e2 eI eI)) (v := other') rfl))) (lt_of rfl) (lt_of rfl) (fun top_9 bottom_10 => (r_ret (A := (iteO (some (decide ((0 : Int) < bottom_10))) (N_ratio top_9 bottom_10) (N_ratio (-top_9) (-bottom_10)))) (t_if (P := (some (decide ((0 : Int) < bottom_10)))) (A := (N_ratio top_9 bottom_10)) (B := (N_ratio (-top_9) (-bottom_10))) (t_T (P := (some (decide ((0 : Int) < bottom_10)))) (t_f2 (A := (some bottom_10)) (B := (some (0 : Int))) (h := (fun x13 y14 => some (decide (y14 < x13)))) g_gt (t_var (i := 3) (e := eI) (v := bottom_10) rfl) (t_int (i := 0)))) (t_call2 (A := (some top_9)) (B := (some bottom_10)) t_ratio (t_var (i := 2) (e := eI) (v := top_9) rfl) (t_var (i := 3) (e := eI) (v := bottom_10) rfl)) (t_call2 (A := (some (-top_9))) (B := (some (-bottom_10))) t_ratio (t_f1 (A := (some top_9)) (h := (fun x15 => some (-x15))) g_neg (t_var (i := 2) (e := eI) (v := top_9) rfl)) (t_f1 (A := (some bottom_10)) (h := (fun x16 => some (-x16))) g_neg (t_var (i := 3) (e := eI) (v := bottom_10) rfl)))))))
def N_is_ratio (value' : (Int × Int)) : Option Bool := (iteO (some (!(true && (decide ((2 : Int) = (2 : Int)))))) (some false) ((some value').bind fun p6 => (andO (N_is_whole p6.1) (andO (N_is_whole p6.2) (some ((decide ((0 : Int) < p6.2)) && (decide (((Nat.gcd (p6.1).natAbs (p6.2).natAbs : Nat) : Int) = (1 : Int)))))))))
theorem t_is_ratio (value' : (Int × Int)) : S_is_ratio [(e2 eI eI) value'] = (N_is_ratio value').map eB := d_run (r_seq_ifret (P := (some (!(true && (decide ((2 : Int) = (2 : Int))))))) (A := (some false)) (t_knot (P := (some (true && (decide ((2 : Int) = (2 : Int)))))) (t_kandP (b := true) (c := (decide ((2 : Int) = (2 : Int)))) (t_T (P := (some true)) (t_isi (A := (some value')) (b := fun x1 => true) (fun _ => rfl) (t_var (i := 0) (e := (e2 eI eI)) (v := value') rfl))) (t_T (P := (some (decide ((2 : Int) = (2 : Int))))) (t_f2 (A := (some (2 : Int))) (B := (some (2 : Int))) (h := (fun x3 y4 => some (decide (x3 = y4)))) (g_eq enc_I rfl) (t_f1 (A := (some value')) (h := (fun x2 => some (2 : Int))) (fun _ => rfl) (t_var (i := 0) (e := (e2 eI eI)) (v := value') rfl)) (t_int (i := 2)))))) (r_ret (A := (some false)) (t_bl (b := false))) (r_seq_bind (A := (some value')) (envb := fun p6 => [.dat ((e2 eI eI) value'), .dat (eI p6.1), .dat (eI p6.2)]) (t_var (i := 0) (e := (e2 eI eI)) (v := value') rfl) (fun _ => rfl) (fun p6 => (r_ret (A := (andO (N_is_whole p6.1) (andO (N_is_whole p6.2) (some ((decide ((0 : Int) < p6.2)) && (decide (((Nat.gcd (p6.1).natAbs (p6.2).natAbs : Nat) : Int) = (1 : Int)))))))) (t_and (P := (N_is_whole p6.1)) (Q := (andO (N_is_whole p6.2) (some ((decide ((0 : Int) < p6.2)) && (decide (((Nat.gcd (p6.1).natAbs (p6.2).natAbs : Nat) : Int) = (1 : Int))))))) (t_call1 (A := (some p6.1)) t_is_whole (t_var (i := 1) (e := eI) (v := p6.1) rfl)) (t_and (P := (N_is_whole p6.2)) (Q := (some ((decide ((0 : Int) < p6.2)) && (decide (((Nat.gcd (p6.1).natAbs (p6.2).natAbs : Nat) : Int) = (1 : Int)))))) (t_call1 (A := (some p6.2)) t_is_whole (t_var (i := 2) (e := eI) (v := p6.2) rfl)) (t_andP (b := (decide ((0 : Int) < p6.2))) (c := (decide (((Nat.gcd (p6.1).natAbs (p6.2).natAbs : Nat) : Int) = (1 : Int)))) (t_f2 (A := (some p6.2)) (B := (some (0 : Int))) (h := (fun x9 y10 => some (decide (y10 < x9)))) g_gt (t_var (i := 2) (e := eI) (v := p6.2) rfl) (t_int (i := 0))) (t_f2 (A := (some ((Nat.gcd (p6.1).natAbs (p6.2).natAbs : Nat) : Int))) (B := (some (1 : Int))) (h := (fun x13 y14 => some (decide (x13 = y14)))) (g_eq enc_I rfl) (t_f2 (A := (some p6.1)) (B := (some p6.2)) (h := (fun x11 y12 => some ((Nat.gcd (x11).natAbs (y12).natAbs : Nat) : Int))) g_gcd (t_var (i := 1) (e := eI) (v := p6.1) rfl) (t_var (i := 2) (e := eI) (v := p6.2) rfl)) (t_int (i := 1))))))))))
section
variable {α β γ δ ξ σ ζ : Type} {en : En} {f g h k : En → Option PyData} {F G : En → Option Fl} {ea : α → PyData} {eb : β → PyData} {ec : γ → PyData} {ed : δ → PyData} {er : ξ → PyData}
variable {A : Option α} {B : Option β} {C : Option (List γ)} {D : Option δ} {i j l m : Nat}
theorem w_app {ρ i : Nat} {f : En → Option PyData} {e : α → PyData} {v : List α} {x : α} {Q : Fl → Prop} (hi : en[i]? = some (.own (List.map e v))) (hl : v.length ≤ 1000000) (hf : ∀ rw, f (en.set ρ (.own rw)) = some (e x)) (h : Q (.nx (en.set i (.own (List.map e (v ++ [x])))))) : lApp i (wP ρ f) en Q := by
  refine ⟨_, hi, by rw [List.length_map]; exact hl, e x, hf, ?_⟩
  rw [List.map_append] at h
  exact h
end
def bindJ {β σ : Type} (A : Option (β ⊕ σ)) (K : σ → Option β) : Option β := A.bind (outJ K)
theorem r_seq_bj {ξ σ ζ : Type} {en : En} {F G : En → Option Fl} {er : ξ → PyData} {env : σ → ζ → En} {A : Option (ξ ⊕ σ)} {K : σ → Option ξ} (p : JX (F en) A er env) (q : ∀ s z, G (env s z) = rtO er (K s)) : sSeq F G en = rtO er (bindJ A K) := r_seq_j p q
def F_is_row_of_ratios (c_is_ratio : List PyData → Option PyData) : En → Option Fl := (sSeq (sIf (kNot (kAnd (fT (fIsi isTup (fVar 0))) (fT (fEq (fLen (fVar 0)) (fVar 1))))) (sRet (fLit (.bool false))) sNil) (sRet (fAll true (iSeq (fVar 0)) (bName 2) (fAnd (fCall 1 c_is_ratio (fCons (fVar 2) fNil)) (fGe (fIx (fVar 2) (fLit (.int 0))) (fLit (.int 0)))) [2])))
def S_is_row_of_ratios := runD 3 (F_is_row_of_ratios S_is_ratio)
def F_levels_from (c_minus c_plus : List PyData → Option PyData) : En → Option Fl := (sSeq (sSet 3 (fVar 0)) (sSeq (sOwn 4 (fLst fNil)) (sSeq (sFor (iZip (fVar 1) (fVar 2)) (bTup [5, 6]) (sSeq (sSet 3 (fCall 2 c_minus (fCons (fCall 2 c_plus (fCons (fVar 3) (fCons (fVar 5) fNil))) (fCons (fVar 6) fNil)))) (sApp 4 (fVar 3)))) (sRet (fTuple (fOwn 4))))))
def S_levels_from := runD 7 (F_levels_from S_minus S_plus)
def F_levels_behind (c_levels_from : List PyData → Option PyData) : En → Option Fl := (sRet (fCall 3 c_levels_from (fCons (fTup (fCons (fIx (fVar 0) (fLit (.int 1))) (fCons (fLit (.int 1)) fNil))) (fCons (fLc (iSeq (fIx (fVar 0) (fLit (.int 3)))) (bName 2) kYes (fTup (fCons (fVar 2) (fCons (fLit (.int 1)) fNil))) [2]) (fCons (fVar 1) fNil)))))
def S_levels_behind := runD 3 (F_levels_behind S_levels_from)
def F_can_hold (c_is_less : List PyData → Option PyData) : En → Option Fl := (sSeq (sBind (bTup [2, 3, 4, 3]) (fVar 0)) (sSeq (sIf (fT (fAll false (iSeq (fVar 1)) (bName 5) (fOr (fCall 2 c_is_less (fCons (fVar 5) (fCons (fTup (fCons (fLit (.int 0)) (fCons (fLit (.int 1)) fNil))) fNil))) (fCall 2 c_is_less (fCons (fTup (fCons (fVar 2) (fCons (fLit (.int 1)) fNil))) (fCons (fVar 5) fNil)))) [5])) (sRet (fLit (.bool false))) sNil) (sRet (fNot (fCall 2 c_is_less (fCons (fIx (fVar 1) (fNeg (fLit (.int 1)))) (fCons (fTup (fCons (fVar 4) (fCons (fLit (.int 1)) fNil))) fNil)))))))
def S_can_hold := runD 6 (F_can_hold S_is_less)
def F_is_plan (c_is_row_of_ratios c_can_hold c_levels_behind : List PyData → Option PyData) : En → Option Fl := (sRet (fAnd (fCall 2 c_is_row_of_ratios (fCons (fVar 1) (fCons (fLen (fIx (fVar 0) (fLit (.int 3)))) fNil))) (fCall 2 c_can_hold (fCons (fVar 0) (fCons (fCall 2 c_levels_behind (fCons (fVar 0) (fCons (fVar 1) fNil))) fNil)))))
def S_is_plan := runD 2 (F_is_plan S_is_row_of_ratios S_can_hold S_levels_behind)
def F_check_plan (c_is_plan : List PyData → Option PyData) : En → Option Fl := (sIf (kNot (fT (fCall 2 c_is_plan (fCons (fVar 0) (fCons (fVar 1) fNil))))) sNever sNil)
def S_check_plan := runD 2 (F_check_plan S_is_plan)
def F__law_levels (c__law_is_ratio c__law_plus c__law_less : List PyData → Option PyData) : En → Option Fl := (sSeq (sIf (kOr (kNot (fT (fIsi isTup (fVar 1)))) (kOr (fT (fNe (fLen (fVar 1)) (fLen (fIx (fVar 0) (fLit (.int 3)))))) (fT (fNe (fLc (iSeq (fVar 1)) (bName 5) (kOr (kNot (fT (fCall 1 c__law_is_ratio (fCons (fVar 5) fNil)))) (fT (fLt (fIx (fVar 5) (fLit (.int 0))) (fLit (.int 0))))) (fVar 5) [5]) (fLst fNil))))) (sRet (fLit .none)) sNil) (sSeq (sParO 2 3 (fTup (fCons (fIx (fVar 0) (fLit (.int 1))) (fCons (fLit (.int 1)) fNil))) (fLst fNil)) (sSeq (sFor (iRange1 (fLen (fVar 1))) (bName 4) (sSeq (sSet 2 (fCall 2 c__law_plus (fCons (fVar 2) (fCons (fCall 2 c__law_plus (fCons (fTup (fCons (fIx (fIx (fVar 0) (fLit (.int 3))) (fVar 4)) (fCons (fLit (.int 1)) fNil))) (fCons (fTup (fCons (fSub (fLit (.int 0)) (fIx (fIx (fVar 1) (fVar 4)) (fLit (.int 0)))) (fCons (fIx (fIx (fVar 1) (fVar 4)) (fLit (.int 1))) fNil))) fNil))) fNil)))) (sSeq (sIf (kOr (fT (fLt (fIx (fVar 2) (fLit (.int 0))) (fLit (.int 0)))) (fT (fCall 2 c__law_less (fCons (fTup (fCons (fIx (fVar 0) (fLit (.int 0))) (fCons (fLit (.int 1)) fNil))) (fCons (fVar 2) fNil))))) (sRet (fLit .none)) sNil) (sApp 3 (fVar 2))))) (sSeq (sRel 3) (sRet (fIf (fT (fCall 2 c__law_less (fCons (fVar 2) (fCons (fTup (fCons (fIx (fVar 0) (fLit (.int 2))) (fCons (fLit (.int 1)) fNil))) fNil)))) (fLit .none) (fVar 3)))))))
def S__law_levels := runD 6 (F__law_levels S__law_is_ratio S__law_plus S__law_less)
def N_levels_from (start' : (Int × Int)) (coming' : (List (Int × Int))) (releases' : (List (Int × Int))) : Option (List (Int × Int)) := ((some start').bind fun held_1 => ((some []).bind fun behind_2 => ((foldO (fun i7 s5 => (((N_plus s5.1 i7.1).bind fun a9 => (some i7.2).bind fun a10 => N_minus a9 a10).bind fun held_8 => ((appO s5.2 held_8).bind fun behind_11 => some (held_8, behind_11)))) (List.zip coming' releases') (held_1, behind_2)).bind fun s13 => (some s13.2))))
theorem t_levels_from (start' : (Int × Int)) (coming' : (List (Int × Int))) (releases' : (List (Int × Int))) : S_levels_from [(e2 eI eI) start', (eL (e2 eI eI)) coming', (eR (e2 eI eI)) releases'] = (N_levels_from start' coming' releases').map (eR (e2 eI eI)) := d_run (r_seq_set (i := 3) (A := (some start')) (t_var (i := 0) (e := (e2 eI eI)) (v := start') rfl) (lt_of rfl) (fun held_1 => (r_seq_own (i := 4) (ea := (e2 eI eI)) (A := (some [])) (t_lstL (L := some []) (t_nil (α := (Int × Int)) (e := (e2 eI eI)))) (lt_of rfl) (fun behind_2 => (r_seq_nx (env := (fun (s : ((Int × Int) × (List (Int × Int)))) (z : (Slot × Slot)) => [.dat ((e2 eI eI) start'), .dat ((eL (e2 eI eI)) coming'), .dat ((eR (e2 eI eI)) releases'), .dat ((e2 eI eI) s.1), .own (List.map (e2 eI eI) s.2), z.1, z.2])) (n_for (env := (fun (s : ((Int × Int) × (List (Int × Int)))) (z : (Slot × Slot)) => [.dat ((e2 eI eI) start'), .dat ((eL (e2 eI eI)) coming'), .dat ((eR (e2 eI eI)) releases'), .dat ((e2 eI eI) s.1), .own (List.map (e2 eI eI) s.2), z.1, z.2])) (s := (held_1, behind_2)) (z := ((.no : Slot), (.no : Slot))) (L := (some (List.zip coming' releases'))) (ea := (e2 (e2 eI eI) (e2 eI eI))) (Bd := (fun i7 s5 => (((N_plus s5.1 i7.1).bind fun a9 => (some i7.2).bind fun a10 => N_minus a9 a10).bind fun held_8 => ((appO s5.2 held_8).bind fun behind_11 => some (held_8, behind_11))))) rfl (i_zip (A := (some coming')) (B := (some releases')) (ea := (e2 eI eI)) (eb := (e2 eI eI)) (fun _ _ => rfl) (t_var (i := 1) (e := (eL (e2 eI eI))) (v := coming') rfl) (t_var (i := 2) (e := (eR (e2 eI eI))) (v := releases') rfl)) (fun i7 s5 z6 => ⟨[.dat ((e2 eI eI) start'), .dat ((eL (e2 eI eI)) coming'), .dat ((eR (e2 eI eI)) releases'), .dat ((e2 eI eI) s5.1), .own (List.map (e2 eI eI) s5.2), .dat ((e2 eI eI) i7.1), .dat ((e2 eI eI) i7.2)], rfl, (n_seq_set (i := 3) (A := ((N_plus s5.1 i7.1).bind fun a9 => (some i7.2).bind fun a10 => N_minus a9 a10)) (t_call2 (A := (N_plus s5.1 i7.1)) (B := (some i7.2)) t_minus (t_call2 (A := (some s5.1)) (B := (some i7.1)) t_plus (t_var (i := 3) (e := (e2 eI eI)) (v := s5.1) rfl) (t_var (i := 5) (e := (e2 eI eI)) (v := i7.1) rfl)) (t_var (i := 6) (e := (e2 eI eI)) (v := i7.2) rfl)) (lt_of rfl) (fun held_8 => (n_app (i := 4) (A := (some held_8)) (v := s5.2) (K := fun behind_11 => (held_8, behind_11)) (t_var (i := 3) (e := (e2 eI eI)) (v := held_8) rfl) rfl (fun behind_11 => ⟨((.dat ((e2 eI eI) i7.1) : Slot), (.dat ((e2 eI eI) i7.2) : Slot)), rfl⟩))))⟩)) (fun s13 z14 => (r_ret (A := (some s13.2)) (t_f1 (A := (some s13.2)) (h := (fun x15 => some x15)) g_tupL (t_own (i := 4) (e := (e2 eI eI)) (v := s13.2) rfl)))))))))
def N_levels_behind (dam' : (Int × Int × Int × (List Int))) (releases' : (List (Int × Int))) : Option (List (Int × Int)) := ((some (dam'.2.1, (1 : Int))).bind fun a4 => (compL (fun i3 => (some true)) (fun i3 => (some (i3, (1 : Int)))) dam'.2.2.2).bind fun a5 => (some releases').bind fun a6 => N_levels_from a4 a5 a6)
theorem t_levels_behind (dam' : (Int × Int × Int × (List Int))) (releases' : (List (Int × Int))) : S_levels_behind [(e4 eI eI eI (eR eI)) dam', (eR (e2 eI eI)) releases'] = (N_levels_behind dam' releases').map (eR (e2 eI eI)) := d_run (r_ret (A := ((some (dam'.2.1, (1 : Int))).bind fun a4 => (compL (fun i3 => (some true)) (fun i3 => (some (i3, (1 : Int)))) dam'.2.2.2).bind fun a5 => (some releases').bind fun a6 => N_levels_from a4 a5 a6)) (t_call3 (A := (some (dam'.2.1, (1 : Int)))) (B := (compL (fun i3 => (some true)) (fun i3 => (some (i3, (1 : Int)))) dam'.2.2.2)) (C := (some releases')) t_levels_from (t_tup2 (A := (some dam'.2.1)) (B := (some (1 : Int))) (t_ixc (A := (some dam')) (k := 1) (pr := fun x1 => x1.2.1) (eb := eI) (fun _ => rfl) (t_var (i := 0) (e := (e4 eI eI eI (eR eI))) (v := dam') rfl)) (t_int (i := 1))) (t_lc (L := (some dam'.2.2.2)) (ea := eI) (eb := (e2 eI eI)) (T := fun i3 => (some true)) (Bf := fun i3 => (some (i3, (1 : Int)))) (i_seqR (A := (some dam'.2.2.2)) (e := eI) (t_ixc (A := (some dam')) (k := 3) (pr := fun x2 => x2.2.2.2) (eb := (eR eI)) (fun _ => rfl) (t_var (i := 0) (e := (e4 eI eI eI (eR eI))) (v := dam') rfl))) (fun i3 => ⟨[.dat ((e4 eI eI eI (eR eI)) dam'), .dat ((eR (e2 eI eI)) releases'), .dat (eI i3)], rfl, t_yes, (t_tup2 (A := (some i3)) (B := (some (1 : Int))) (t_var (i := 2) (e := eI) (v := i3) rfl) (t_int (i := 1)))⟩)) (t_var (i := 1) (e := (eR (e2 eI eI))) (v := releases') rfl)))
def N_is_row_of_ratios (value' : (List (Int × Int))) (count' : Int) : Option Bool := (iteO (some (!(true && (decide (((value').length : Int) = count'))))) (some false) (allO true (fun i6 => (andO (N_is_ratio i6) (some (decide ((0 : Int) ≤ i6.1))))) value'))
theorem t_is_row_of_ratios (value' : (List (Int × Int))) (count' : Int) : S_is_row_of_ratios [(eR (e2 eI eI)) value', eI count'] = (N_is_row_of_ratios value' count').map eB := d_run (r_seq_ifret (P := (some (!(true && (decide (((value').length : Int) = count')))))) (A := (some false)) (t_knot (P := (some (true && (decide (((value').length : Int) = count'))))) (t_kandP (b := true) (c := (decide (((value').length : Int) = count'))) (t_T (P := (some true)) (t_isi (A := (some value')) (b := fun x1 => true) (fun _ => rfl) (t_var (i := 0) (e := (eR (e2 eI eI))) (v := value') rfl))) (t_T (P := (some (decide (((value').length : Int) = count')))) (t_f2 (A := (some ((value').length : Int))) (B := (some count')) (h := (fun x3 y4 => some (decide (x3 = y4)))) (g_eq enc_I rfl) (t_f1 (A := (some value')) (h := (fun x2 => some ((x2).length : Int))) g_lenR (t_var (i := 0) (e := (eR (e2 eI eI))) (v := value') rfl)) (t_var (i := 1) (e := eI) (v := count') rfl))))) (r_ret (A := (some false)) (t_bl (b := false))) (r_ret (A := (allO true (fun i6 => (andO (N_is_ratio i6) (some (decide ((0 : Int) ≤ i6.1))))) value')) (t_all (L := (some value')) (ea := (e2 eI eI)) (Bf := fun i6 => (andO (N_is_ratio i6) (some (decide ((0 : Int) ≤ i6.1))))) (i_seqR (A := (some value')) (e := (e2 eI eI)) (t_var (i := 0) (e := (eR (e2 eI eI))) (v := value') rfl)) (fun i6 => ⟨[.dat ((eR (e2 eI eI)) value'), .dat (eI count'), .dat ((e2 eI eI) i6)], rfl, (t_and (P := (N_is_ratio i6)) (Q := (some (decide ((0 : Int) ≤ i6.1)))) (t_call1 (A := (some i6)) t_is_ratio (t_var (i := 2) (e := (e2 eI eI)) (v := i6) rfl)) (t_f2 (A := (some i6.1)) (B := (some (0 : Int))) (h := (fun x10 y11 => some (decide (y11 ≤ x10)))) g_ge (t_ixc (A := (some i6)) (k := 0) (pr := fun x7 => x7.1) (eb := eI) (fun _ => rfl) (t_var (i := 2) (e := (e2 eI eI)) (v := i6) rfl)) (t_int (i := 0))))⟩))))
def N_can_hold (dam' : (Int × Int × Int × (List Int))) (behind' : (List (Int × Int))) : Option Bool := ((some dam').bind fun p1 => (iteO (allO false (fun i2 => (orO (N_is_less i2 ((0 : Int), (1 : Int))) (N_is_less (p1.1, (1 : Int)) i2))) behind') (some false) (((atI behind' (-(1 : Int))).bind fun a6 => (some (p1.2.2.1, (1 : Int))).bind fun a7 => N_is_less a6 a7).bind fun b8 => some (!b8))))
theorem t_can_hold (dam' : (Int × Int × Int × (List Int))) (behind' : (List (Int × Int))) : S_can_hold [(e4 eI eI eI (eR eI)) dam', (eR (e2 eI eI)) behind'] = (N_can_hold dam' behind').map eB := d_run (r_seq_bind (A := (some dam')) (envb := fun p1 => [.dat ((e4 eI eI eI (eR eI)) dam'), .dat ((eR (e2 eI eI)) behind'), .dat (eI p1.1), .dat ((eR eI) p1.2.2.2), .dat (eI p1.2.2.1), .no]) (t_var (i := 0) (e := (e4 eI eI eI (eR eI))) (v := dam') rfl) (fun _ => rfl) (fun p1 => (r_seq_ifret (P := (allO false (fun i2 => (orO (N_is_less i2 ((0 : Int), (1 : Int))) (N_is_less (p1.1, (1 : Int)) i2))) behind')) (A := (some false)) (t_T (P := (allO false (fun i2 => (orO (N_is_less i2 ((0 : Int), (1 : Int))) (N_is_less (p1.1, (1 : Int)) i2))) behind')) (t_all (L := (some behind')) (ea := (e2 eI eI)) (Bf := fun i2 => (orO (N_is_less i2 ((0 : Int), (1 : Int))) (N_is_less (p1.1, (1 : Int)) i2))) (i_seqR (A := (some behind')) (e := (e2 eI eI)) (t_var (i := 1) (e := (eR (e2 eI eI))) (v := behind') rfl)) (fun i2 => ⟨[.dat ((e4 eI eI eI (eR eI)) dam'), .dat ((eR (e2 eI eI)) behind'), .dat (eI p1.1), .dat ((eR eI) p1.2.2.2), .dat (eI p1.2.2.1), .dat ((e2 eI eI) i2)], rfl, (t_or (P := (N_is_less i2 ((0 : Int), (1 : Int)))) (Q := (N_is_less (p1.1, (1 : Int)) i2)) (t_call2 (A := (some i2)) (B := (some ((0 : Int), (1 : Int)))) t_is_less (t_var (i := 5) (e := (e2 eI eI)) (v := i2) rfl) (t_tup2 (A := (some (0 : Int))) (B := (some (1 : Int))) (t_int (i := 0)) (t_int (i := 1)))) (t_call2 (A := (some (p1.1, (1 : Int)))) (B := (some i2)) t_is_less (t_tup2 (A := (some p1.1)) (B := (some (1 : Int))) (t_var (i := 2) (e := eI) (v := p1.1) rfl) (t_int (i := 1))) (t_var (i := 5) (e := (e2 eI eI)) (v := i2) rfl)))⟩))) (r_ret (A := (some false)) (t_bl (b := false))) (r_ret (A := (((atI behind' (-(1 : Int))).bind fun a6 => (some (p1.2.2.1, (1 : Int))).bind fun a7 => N_is_less a6 a7).bind fun b8 => some (!b8))) (t_not (P := ((atI behind' (-(1 : Int))).bind fun a6 => (some (p1.2.2.1, (1 : Int))).bind fun a7 => N_is_less a6 a7)) (t_call2 (A := (atI behind' (-(1 : Int)))) (B := (some (p1.2.2.1, (1 : Int)))) t_is_less (t_f2 (A := (some behind')) (B := (some (-(1 : Int)))) (h := (fun x4 y5 => (atI x4 y5))) g_ixR (t_var (i := 1) (e := (eR (e2 eI eI))) (v := behind') rfl) (t_f1 (A := (some (1 : Int))) (h := (fun x3 => some (-x3))) g_neg (t_int (i := 1)))) (t_tup2 (A := (some p1.2.2.1)) (B := (some (1 : Int))) (t_var (i := 4) (e := eI) (v := p1.2.2.1) rfl) (t_int (i := 1)))))))))
def N_is_plan (dam' : (Int × Int × Int × (List Int))) (value' : (List (Int × Int))) : Option Bool := (andO (N_is_row_of_ratios value' ((dam'.2.2.2).length : Int)) ((some dam').bind fun a3 => (N_levels_behind dam' value').bind fun a4 => N_can_hold a3 a4))
theorem t_is_plan (dam' : (Int × Int × Int × (List Int))) (value' : (List (Int × Int))) : S_is_plan [(e4 eI eI eI (eR eI)) dam', (eR (e2 eI eI)) value'] = (N_is_plan dam' value').map eB := d_run (r_ret (A := (andO (N_is_row_of_ratios value' ((dam'.2.2.2).length : Int)) ((some dam').bind fun a3 => (N_levels_behind dam' value').bind fun a4 => N_can_hold a3 a4))) (t_and (P := (N_is_row_of_ratios value' ((dam'.2.2.2).length : Int))) (Q := ((some dam').bind fun a3 => (N_levels_behind dam' value').bind fun a4 => N_can_hold a3 a4)) (t_call2 (A := (some value')) (B := (some ((dam'.2.2.2).length : Int))) t_is_row_of_ratios (t_var (i := 1) (e := (eR (e2 eI eI))) (v := value') rfl) (t_f1 (A := (some dam'.2.2.2)) (h := (fun x2 => some ((x2).length : Int))) g_lenR (t_ixc (A := (some dam')) (k := 3) (pr := fun x1 => x1.2.2.2) (eb := (eR eI)) (fun _ => rfl) (t_var (i := 0) (e := (e4 eI eI eI (eR eI))) (v := dam') rfl)))) (t_call2 (A := (some dam')) (B := (N_levels_behind dam' value')) t_can_hold (t_var (i := 0) (e := (e4 eI eI eI (eR eI))) (v := dam') rfl) (t_call2 (A := (some dam')) (B := (some value')) t_levels_behind (t_var (i := 0) (e := (e4 eI eI eI (eR eI))) (v := dam') rfl) (t_var (i := 1) (e := (eR (e2 eI eI))) (v := value') rfl)))))
def N_check_plan (dam' : (Int × Int × Int × (List Int))) (plan' : (List (Int × Int))) : Option Unit := (iteO ((N_is_plan dam' plan').bind fun b1 => some (!b1)) none (some ())).bind fun _ => some ()
theorem t_check_plan (dam' : (Int × Int × Int × (List Int))) (plan' : (List (Int × Int))) : S_check_plan [(e4 eI eI eI (eR eI)) dam', (eR (e2 eI eI)) plan'] = (N_check_plan dam' plan').map eU := d_runN (env := (fun (s : Unit) (z : Unit) => [.dat ((e4 eI eI eI (eR eI)) dam'), .dat ((eR (e2 eI eI)) plan')])) (n_if (P := ((N_is_plan dam' plan').bind fun b1 => some (!b1))) (A := none) (B := (some ())) (t_knot (P := (N_is_plan dam' plan')) (t_T (P := (N_is_plan dam' plan')) (t_call2 (A := (some dam')) (B := (some plan')) t_is_plan (t_var (i := 0) (e := (e4 eI eI eI (eR eI))) (v := dam') rfl) (t_var (i := 1) (e := (eR (e2 eI eI))) (v := plan') rfl)))) n_never (n_nil (s := ()) (z := ()) rfl))
def N__law_levels (dam' : (Int × Int × Int × (List Int))) (plan' : (List (Int × Int))) : Option (Option (List (Int × Int))) := (iteO (orO (some (!true)) (orO (some (!decide (((plan').length : Int) = ((dam'.2.2.2).length : Int)))) ((compL (fun i8 => (orO ((N__law_is_ratio i8).bind fun b9 => some (!b9)) (some (decide (i8.1 < (0 : Int)))))) (fun i8 => (some i8)) plan').bind fun x15 => (some ([] : (List (Int × Int)))).bind fun y16 => some (!decide (x15 = y16))))) (some none) ((some (dam'.2.1, (1 : Int))).bind fun held_18 => (some ([] : (List (Int × Int)))).bind fun found_19 => (((range1O ((plan').length : Int)).bind fun l => foldJ (fun i23 s21 => (((some s21.1).bind fun a42 => (((atI dam'.2.2.2 i23).bind fun x28 => (some (1 : Int)).bind fun x29 => some (x28, x29)).bind fun a40 => (((some (0 : Int)).bind fun x33 => ((atI plan' i23).bind fun x32 => some x32.1).bind fun y34 => some (x33 - y34)).bind fun x38 => ((atI plan' i23).bind fun x37 => some x37.2).bind fun x39 => some (x38, x39)).bind fun a41 => N__law_plus a40 a41).bind fun a43 => N__law_plus a42 a43).bind fun held_24 => (iteO (orO (some (decide (held_24.1 < (0 : Int)))) (N__law_less (dam'.1, (1 : Int)) held_24)) ((some none).bind fun v53 => some (.inl v53)) (((appO s21.2 held_24).bind fun found_50 => some (held_24, found_50)).bind fun s52 => some (.inr s52))))) l (held_18, found_19)).bind (outJ fun s54 => (iteO (N__law_less s54.1 (dam'.2.2.1, (1 : Int))) (some none) (some (some s54.2)))))))
theorem t__law_levels (dam' : (Int × Int × Int × (List Int))) (plan' : (List (Int × Int))) : S__law_levels [(e4 eI eI eI (eR eI)) dam', (eR (e2 eI eI)) plan'] = (N__law_levels dam' plan').map (eO (eL (e2 eI eI))) := d_run (r_seq_ifret (P := (orO (some (!true)) (orO (some (!decide (((plan').length : Int) = ((dam'.2.2.2).length : Int)))) ((compL (fun i8 => (orO ((N__law_is_ratio i8).bind fun b9 => some (!b9)) (some (decide (i8.1 < (0 : Int)))))) (fun i8 => (some i8)) plan').bind fun x15 => (some ([] : (List (Int × Int)))).bind fun y16 => some (!decide (x15 = y16)))))) (A := (some none)) (t_kor (P := (some (!true))) (Q := (orO (some (!decide (((plan').length : Int) = ((dam'.2.2.2).length : Int)))) ((compL (fun i8 => (orO ((N__law_is_ratio i8).bind fun b9 => some (!b9)) (some (decide (i8.1 < (0 : Int)))))) (fun i8 => (some i8)) plan').bind fun x15 => (some ([] : (List (Int × Int)))).bind fun y16 => some (!decide (x15 = y16))))) (t_knot (P := (some true)) (t_T (P := (some true)) (t_isi (A := (some plan')) (b := fun x1 => true) (fun _ => rfl) (t_var (i := 1) (e := (eR (e2 eI eI))) (v := plan') rfl)))) (t_kor (P := (some (!decide (((plan').length : Int) = ((dam'.2.2.2).length : Int))))) (Q := ((compL (fun i8 => (orO ((N__law_is_ratio i8).bind fun b9 => some (!b9)) (some (decide (i8.1 < (0 : Int)))))) (fun i8 => (some i8)) plan').bind fun x15 => (some ([] : (List (Int × Int)))).bind fun y16 => some (!decide (x15 = y16)))) (t_T (P := (some (!decide (((plan').length : Int) = ((dam'.2.2.2).length : Int))))) (t_f2 (A := (some ((plan').length : Int))) (B := (some ((dam'.2.2.2).length : Int))) (h := (fun x6 y7 => some (!decide (x6 = y7)))) (g_ne enc_I rfl) (t_f1 (A := (some plan')) (h := (fun x3 => some ((x3).length : Int))) g_lenR (t_var (i := 1) (e := (eR (e2 eI eI))) (v := plan') rfl)) (t_f1 (A := (some dam'.2.2.2)) (h := (fun x5 => some ((x5).length : Int))) g_lenR (t_ixc (A := (some dam')) (k := 3) (pr := fun x4 => x4.2.2.2) (eb := (eR eI)) (fun _ => rfl) (t_var (i := 0) (e := (e4 eI eI eI (eR eI))) (v := dam') rfl))))) (t_T (P := ((compL (fun i8 => (orO ((N__law_is_ratio i8).bind fun b9 => some (!b9)) (some (decide (i8.1 < (0 : Int)))))) (fun i8 => (some i8)) plan').bind fun x15 => (some ([] : (List (Int × Int)))).bind fun y16 => some (!decide (x15 = y16)))) (t_f2 (A := (compL (fun i8 => (orO ((N__law_is_ratio i8).bind fun b9 => some (!b9)) (some (decide (i8.1 < (0 : Int)))))) (fun i8 => (some i8)) plan')) (B := (some ([] : (List (Int × Int))))) (h := (fun x15 y16 => some (!decide (x15 = y16)))) (g_ne (enc_L (enc_2 enc_I enc_I)) rfl) (t_lc (L := (some plan')) (ea := (e2 eI eI)) (eb := (e2 eI eI)) (T := fun i8 => (orO ((N__law_is_ratio i8).bind fun b9 => some (!b9)) (some (decide (i8.1 < (0 : Int)))))) (Bf := fun i8 => (some i8)) (i_seqR (A := (some plan')) (e := (e2 eI eI)) (t_var (i := 1) (e := (eR (e2 eI eI))) (v := plan') rfl)) (fun i8 => ⟨[.dat ((e4 eI eI eI (eR eI)) dam'), .dat ((eR (e2 eI eI)) plan'), .no, .no, .no, .dat ((e2 eI eI) i8)], rfl, (t_kor (P := ((N__law_is_ratio i8).bind fun b9 => some (!b9))) (Q := (some (decide (i8.1 < (0 : Int))))) (t_knot (P := (N__law_is_ratio i8)) (t_T (P := (N__law_is_ratio i8)) (t_call1 (A := (some i8)) t__law_is_ratio (t_var (i := 5) (e := (e2 eI eI)) (v := i8) rfl)))) (t_T (P := (some (decide (i8.1 < (0 : Int))))) (t_f2 (A := (some i8.1)) (B := (some (0 : Int))) (h := (fun x13 y14 => some (decide (x13 < y14)))) g_lt (t_ixc (A := (some i8)) (k := 0) (pr := fun x10 => x10.1) (eb := eI) (fun _ => rfl) (t_var (i := 5) (e := (e2 eI eI)) (v := i8) rfl)) (t_int (i := 0))))), (t_var (i := 5) (e := (e2 eI eI)) (v := i8) rfl)⟩)) (t_lstL (L := some []) (t_nil (α := (Int × Int)) (e := (e2 eI eI)))))))) (r_ret (A := (some none)) (t_none (A := (some ())) (e := (eL (e2 eI eI))) t_non)) (r_seq_parO (i := 2) (j := 3) (eb := (e2 eI eI)) (A := (some (dam'.2.1, (1 : Int)))) (B := (some ([] : (List (Int × Int))))) (t_tup2 (A := (some dam'.2.1)) (B := (some (1 : Int))) (t_ixc (A := (some dam')) (k := 1) (pr := fun x17 => x17.2.1) (eb := eI) (fun _ => rfl) (t_var (i := 0) (e := (e4 eI eI eI (eR eI))) (v := dam') rfl)) (t_int (i := 1))) (t_lstL (L := some []) (t_nil (α := (Int × Int)) (e := (e2 eI eI)))) (lt_of rfl) (lt_of rfl) (fun held_18 found_19 => (r_seq_j (env := (fun (s : ((Int × Int) × (List (Int × Int)))) (z : (Slot)) => [.dat ((e4 eI eI eI (eR eI)) dam'), .dat ((eR (e2 eI eI)) plan'), .dat ((e2 eI eI) s.1), .own (List.map (e2 eI eI) s.2), z, .no])) (A := ((range1O ((plan').length : Int)).bind fun l => foldJ (fun i23 s21 => (((some s21.1).bind fun a42 => (((atI dam'.2.2.2 i23).bind fun x28 => (some (1 : Int)).bind fun x29 => some (x28, x29)).bind fun a40 => (((some (0 : Int)).bind fun x33 => ((atI plan' i23).bind fun x32 => some x32.1).bind fun y34 => some (x33 - y34)).bind fun x38 => ((atI plan' i23).bind fun x37 => some x37.2).bind fun x39 => some (x38, x39)).bind fun a41 => N__law_plus a40 a41).bind fun a43 => N__law_plus a42 a43).bind fun held_24 => (iteO (orO (some (decide (held_24.1 < (0 : Int)))) (N__law_less (dam'.1, (1 : Int)) held_24)) ((some none).bind fun v53 => some (.inl v53)) (((appO s21.2 held_24).bind fun found_50 => some (held_24, found_50)).bind fun s52 => some (.inr s52))))) l (held_18, found_19))) (j_for (env := (fun (s : ((Int × Int) × (List (Int × Int)))) (z : (Slot)) => [.dat ((e4 eI eI eI (eR eI)) dam'), .dat ((eR (e2 eI eI)) plan'), .dat ((e2 eI eI) s.1), .own (List.map (e2 eI eI) s.2), z, .no])) (s := (held_18, found_19)) (z := (.no : Slot)) (L := (range1O ((plan').length : Int))) (ea := eI) (Bd := (fun i23 s21 => (((some s21.1).bind fun a42 => (((atI dam'.2.2.2 i23).bind fun x28 => (some (1 : Int)).bind fun x29 => some (x28, x29)).bind fun a40 => (((some (0 : Int)).bind fun x33 => ((atI plan' i23).bind fun x32 => some x32.1).bind fun y34 => some (x33 - y34)).bind fun x38 => ((atI plan' i23).bind fun x37 => some x37.2).bind fun x39 => some (x38, x39)).bind fun a41 => N__law_plus a40 a41).bind fun a43 => N__law_plus a42 a43).bind fun held_24 => (iteO (orO (some (decide (held_24.1 < (0 : Int)))) (N__law_less (dam'.1, (1 : Int)) held_24)) ((some none).bind fun v53 => some (.inl v53)) (((appO s21.2 held_24).bind fun found_50 => some (held_24, found_50)).bind fun s52 => some (.inr s52)))))) rfl (i_range1 (A := (some ((plan').length : Int))) (t_f1 (A := (some plan')) (h := (fun x20 => some ((x20).length : Int))) g_lenR (t_var (i := 1) (e := (eR (e2 eI eI))) (v := plan') rfl))) (fun i23 s21 z22 => ⟨[.dat ((e4 eI eI eI (eR eI)) dam'), .dat ((eR (e2 eI eI)) plan'), .dat ((e2 eI eI) s21.1), .own (List.map (e2 eI eI) s21.2), .dat (eI i23), .no], rfl, (j_seq_set (i := 2) (A := ((some s21.1).bind fun a42 => (((atI dam'.2.2.2 i23).bind fun x28 => (some (1 : Int)).bind fun x29 => some (x28, x29)).bind fun a40 => (((some (0 : Int)).bind fun x33 => ((atI plan' i23).bind fun x32 => some x32.1).bind fun y34 => some (x33 - y34)).bind fun x38 => ((atI plan' i23).bind fun x37 => some x37.2).bind fun x39 => some (x38, x39)).bind fun a41 => N__law_plus a40 a41).bind fun a43 => N__law_plus a42 a43)) (t_call2 (A := (some s21.1)) (B := (((atI dam'.2.2.2 i23).bind fun x28 => (some (1 : Int)).bind fun x29 => some (x28, x29)).bind fun a40 => (((some (0 : Int)).bind fun x33 => ((atI plan' i23).bind fun x32 => some x32.1).bind fun y34 => some (x33 - y34)).bind fun x38 => ((atI plan' i23).bind fun x37 => some x37.2).bind fun x39 => some (x38, x39)).bind fun a41 => N__law_plus a40 a41)) t__law_plus (t_var (i := 2) (e := (e2 eI eI)) (v := s21.1) rfl) (t_call2 (A := ((atI dam'.2.2.2 i23).bind fun x28 => (some (1 : Int)).bind fun x29 => some (x28, x29))) (B := (((some (0 : Int)).bind fun x33 => ((atI plan' i23).bind fun x32 => some x32.1).bind fun y34 => some (x33 - y34)).bind fun x38 => ((atI plan' i23).bind fun x37 => some x37.2).bind fun x39 => some (x38, x39))) t__law_plus (t_tup2 (A := (atI dam'.2.2.2 i23)) (B := (some (1 : Int))) (t_f2 (A := (some dam'.2.2.2)) (B := (some i23)) (h := (fun x26 y27 => (atI x26 y27))) g_ixR (t_ixc (A := (some dam')) (k := 3) (pr := fun x25 => x25.2.2.2) (eb := (eR eI)) (fun _ => rfl) (t_var (i := 0) (e := (e4 eI eI eI (eR eI))) (v := dam') rfl)) (t_var (i := 4) (e := eI) (v := i23) rfl)) (t_int (i := 1))) (t_tup2 (A := ((some (0 : Int)).bind fun x33 => ((atI plan' i23).bind fun x32 => some x32.1).bind fun y34 => some (x33 - y34))) (B := ((atI plan' i23).bind fun x37 => some x37.2)) (t_f2 (A := (some (0 : Int))) (B := ((atI plan' i23).bind fun x32 => some x32.1)) (h := (fun x33 y34 => some (x33 - y34))) g_sub (t_int (i := 0)) (t_ixc (A := (atI plan' i23)) (k := 0) (pr := fun x32 => x32.1) (eb := eI) (fun _ => rfl) (t_f2 (A := (some plan')) (B := (some i23)) (h := (fun x30 y31 => (atI x30 y31))) g_ixR (t_var (i := 1) (e := (eR (e2 eI eI))) (v := plan') rfl) (t_var (i := 4) (e := eI) (v := i23) rfl)))) (t_ixc (A := (atI plan' i23)) (k := 1) (pr := fun x37 => x37.2) (eb := eI) (fun _ => rfl) (t_f2 (A := (some plan')) (B := (some i23)) (h := (fun x35 y36 => (atI x35 y36))) g_ixR (t_var (i := 1) (e := (eR (e2 eI eI))) (v := plan') rfl) (t_var (i := 4) (e := eI) (v := i23) rfl)))))) (lt_of rfl) (fun held_24 => (j_seq_ifret (P := (orO (some (decide (held_24.1 < (0 : Int)))) (N__law_less (dam'.1, (1 : Int)) held_24))) (A := (some none)) (t_kor (P := (some (decide (held_24.1 < (0 : Int))))) (Q := (N__law_less (dam'.1, (1 : Int)) held_24)) (t_T (P := (some (decide (held_24.1 < (0 : Int))))) (t_f2 (A := (some held_24.1)) (B := (some (0 : Int))) (h := (fun x47 y48 => some (decide (x47 < y48)))) g_lt (t_ixc (A := (some held_24)) (k := 0) (pr := fun x44 => x44.1) (eb := eI) (fun _ => rfl) (t_var (i := 2) (e := (e2 eI eI)) (v := held_24) rfl)) (t_int (i := 0)))) (t_T (P := (N__law_less (dam'.1, (1 : Int)) held_24)) (t_call2 (A := (some (dam'.1, (1 : Int)))) (B := (some held_24)) t__law_less (t_tup2 (A := (some dam'.1)) (B := (some (1 : Int))) (t_ixc (A := (some dam')) (k := 0) (pr := fun x49 => x49.1) (eb := eI) (fun _ => rfl) (t_var (i := 0) (e := (e4 eI eI eI (eR eI))) (v := dam') rfl)) (t_int (i := 1))) (t_var (i := 2) (e := (e2 eI eI)) (v := held_24) rfl)))) (r_ret (A := (some none)) (t_none (A := (some ())) (e := (eL (e2 eI eI))) t_non)) (j_of_n (A := ((appO s21.2 held_24).bind fun found_50 => some (held_24, found_50))) (n_app (i := 3) (A := (some held_24)) (v := s21.2) (K := fun found_50 => (held_24, found_50)) (t_var (i := 2) (e := (e2 eI eI)) (v := held_24) rfl) rfl (fun found_50 => ⟨(.dat (eI i23) : Slot), rfl⟩))))))⟩)) (fun s54 z55 => (r_seq_rel (i := 3) (ea := (e2 eI eI)) (a := s54.2) rfl (r_ret (A := (iteO (N__law_less s54.1 (dam'.2.2.1, (1 : Int))) (some none) (some (some s54.2)))) (t_if (P := (N__law_less s54.1 (dam'.2.2.1, (1 : Int)))) (A := (some none)) (B := (some (some s54.2))) (t_T (P := (N__law_less s54.1 (dam'.2.2.1, (1 : Int)))) (t_call2 (A := (some s54.1)) (B := (some (dam'.2.2.1, (1 : Int)))) t__law_less (t_var (i := 2) (e := (e2 eI eI)) (v := s54.1) rfl) (t_tup2 (A := (some dam'.2.2.1)) (B := (some (1 : Int))) (t_ixc (A := (some dam')) (k := 2) (pr := fun x56 => x56.2.2.1) (eb := eI) (fun _ => rfl) (t_var (i := 0) (e := (e4 eI eI eI (eR eI))) (v := dam') rfl)) (t_int (i := 1))))) (t_none (A := (some ())) (e := (eL (e2 eI eI))) t_non) (t_some (A := (some s54.2)) (t_var (i := 3) (e := (eL (e2 eI eI))) (v := s54.2) rfl))))))))))
end Ty
namespace DN
open PySem PySem.Spec PyProof.Rows L2
def spR (K : PySem.W.Frag) (Ts : TsT) (n : Nat) (C : Value) (R : List PyData → Bool) : Sp := fun vs H _ E => vs.length = n ∧ ∃ O ds, DpAll K (hide H O) vs ds ∧ Tb Ts H ∧ (∀ b ∈ O, H b ≠ none ∧ ∀ ps, H b ≠ some (.tbl ps)) ∧ R ds = true ∧
  ∀ H', Xt H H' → Tb Ts H' → E C none H'
structure CR (P : Program) (w : World) (K : PySem.W.Frag) (mg : Str → Option Value) (base : Heap) (Ts : TsT) (k : Nat) (x : Str) (n : Nat) (C : Value) (R : List PyData → Bool) : Prop where
  ex : ∃ f fd ps, mg x = some (.ref f) ∧ PySem.W.keepIn K (.ref f) = true ∧ Binds K fd ps [] ∧ FnOk P w K mg base (L2.CX P w) k f fd ps (spR K Ts n C R)
theorem CR.imp {P : Program} {w : World} {K : PySem.W.Frag} {mg : Str → Option Value} {base : Heap} {Ts : TsT} {k : Nat} {x : Str} {n : Nat} {C : Value} {R S : List PyData → Bool} (c : CR P w K mg base Ts k x n C R) (h : ∀ ds, S ds = true → R ds = true) : CR P w K mg base Ts k x n C S := by
  obtain ⟨f, fd, ps, h1, h2, h3, h4⟩ := c.ex
  exact ⟨f, fd, ps, h1, h2, h3, h4.imp fun vs H Q E ⟨a, O, ds, b, c, d, e, k⟩ => ⟨a, O, ds, b, c, d, h ds e, k⟩⟩
section
variable {P : Program} {w : World} {K : PySem.W.Frag} {mg : Str → Option Value} {base : Heap} {Ts : TsT}
theorem CR.of {k n : Nat} {x : Str} {C : Value} {R : List PyData → Bool} {f : Addr} {fd : FuncData} {ps : List Str} (h1 : mg x = some (.ref f)) (h2 : PySem.W.keepIn K (.ref f) = true) (h3 : Binds K fd ps []) (h4 : FnOk P w K mg base (L2.CX P w) k f fd ps (spR K Ts n C R)) : CR P w K mg base Ts k x n C R := ⟨f, fd, ps, h1, h2, h3, h4⟩
end
theorem spR.imp {K : PySem.W.Frag} {Ts : TsT} {n : Nat} {C : Value} {R S : List PyData → Bool} (h : ∀ ds, S ds = true → R ds = true) : ∀ vs H Q E, spR K Ts n C S vs H Q E → spR K Ts n C R vs H Q E := fun vs H Q E ⟨a, O, ds, b, c, d, e, k⟩ => ⟨a, O, ds, b, c, d, h ds e, k⟩
end DN
namespace DN
open PySem PySem.Spec PyProof.Rows L2 LamX
theorem pe_or {X : Cx} {e : Expr} {t u : TE} (h : PE X e t) (k : PE X e u) : PE X e (fun σ H Q => t σ H Q ∨ u σ H Q) := ⟨fun pins s σ H Q I q => q.elim (h.run pins s σ H Q I) (k.run pins s σ H Q I)⟩
end DN
namespace Ty
open PySem PySem.Spec PyProof.Rows L2 DN
end Ty
namespace DN
open PySem PySem.Spec PyProof.Rows L2
end DN
namespace DN
open PySem PySem.Spec PyProof.Rows L2
end DN
namespace DN
open PySem PySem.Spec PyProof.Rows L2
end DN
set_option maxHeartbeats 400000
namespace DN
open PySem PySem.Spec PyProof.Rows L2
end DN
set_option maxHeartbeats 1000000
namespace DN
open PySem PySem.Spec PyProof.Rows L2 LamX
end DN
set_option maxHeartbeats 3200000
namespace DN
open PySem PySem.Spec PyProof.Rows L2
end DN
set_option maxHeartbeats 4000000
namespace Ty
open PySem PySem.Spec PyProof.Rows L2 DN
def leU3 (a b : Int × Int × Bool) : Bool := decide (-a.1 ≤ -b.1)
end Ty
set_option maxHeartbeats 400000
namespace DN
open PySem PySem.Spec PyProof.Rows L2
theorem Draws.up {P : Program} {w : World} {A : Around} {it : Addr} {fp : List Addr} {n : Nat} {R : Nat → Value → Prop} {S : Nat → Heap → Prop} (D : Draws P w A it fp n R S) :
    Draws P w A it fp (n + 1) (fun i v => ∃ j, i = j + 1 ∧ R j v) (fun i h => ∃ j, i = j + 1 ∧ S j h) where
  live := fun i h ⟨j, _, st⟩ => D.live j h st
  frame := fun i h h' ⟨j, e, st⟩ k => ⟨j, e, D.frame j h h' st k⟩
  item := fun i s Q E hi ⟨j, e, st⟩ q => D.item j s Q E (by omega) st fun x h' tk p st' sb => q x h' tk ⟨j, e, p⟩ ⟨j + 1, by omega, st'⟩ sb
  done := fun s Q E ⟨j, e, st⟩ q => D.done s Q E (by have : n = j := by omega
                                                     rw [this]; exact st) q
end DN
set_option maxHeartbeats 4000000
namespace Ty
open PySem PySem.Spec PyProof.Rows L2 DN
universe u
end Ty
namespace DN
open PySem PySem.Spec PyProof.Rows L2
end DN
set_option maxHeartbeats 400000
namespace PySem
end PySem
namespace DN
open PySem PySem.Spec PyProof.Rows L2
end DN
set_option maxHeartbeats 4000000
namespace Ty
open PySem PySem.Spec PyProof.Rows L2 DN
end Ty
namespace PySem
open Sem (wp)
structure Zp4 (z TI TO i1 i2 i3 i4 : Addr) (fp1 fp2 fp3 fp4 : List Addr) : Prop where
  a : TI ≠ z ∧ TO ≠ z ∧ TI ≠ TO
  t : TI ≠ i1 ∧ TI ≠ i2 ∧ TI ≠ i3 ∧ TI ≠ i4
  m : i1 ∈ fp1 ∧ i2 ∈ fp2 ∧ i3 ∈ fp3 ∧ i4 ∈ fp4
  f : z ∉ fp1 ∧ z ∉ fp2 ∧ z ∉ fp3 ∧ z ∉ fp4
  g : TO ∉ fp1 ∧ TO ∉ fp2 ∧ TO ∉ fp3 ∧ TO ∉ fp4
  s1_2 : i1 ∉ fp2
  s1_3 : i1 ∉ fp3
  s1_4 : i1 ∉ fp4
  s2_1 : i2 ∉ fp1
  s2_3 : i2 ∉ fp3
  s2_4 : i2 ∉ fp4
  s3_1 : i3 ∉ fp1
  s3_2 : i3 ∉ fp2
  s3_4 : i3 ∉ fp4
  s4_1 : i4 ∉ fp1
  s4_2 : i4 ∉ fp2
  s4_3 : i4 ∉ fp3
section
variable {prog : Program} {w : World} {A : Around} {E : Value → Shared → Prop} {s : Shared} {z TI TO i1 i2 i3 i4 : Addr} {fp1 fp2 fp3 fp4 : List Addr} {n1 n2 n3 n4 i : Nat} {P1 P2 P3 P4 : Nat → Value → Prop} {St1 St2 St3 St4 : Nat → Heap → Prop} {a1 a2 a3 a4 : Value}
theorem Zp4.zi1 (D : Zp4 z TI TO i1 i2 i3 i4 fp1 fp2 fp3 fp4) : z ≠ i1 ∧ TO ≠ i1 := ⟨fun e => D.f.1 (e ▸ D.m.1), fun e => D.g.1 (e ▸ D.m.1)⟩
theorem Zp4.zi2 (D : Zp4 z TI TO i1 i2 i3 i4 fp1 fp2 fp3 fp4) : z ≠ i2 ∧ TO ≠ i2 := ⟨fun e => D.f.2.1 (e ▸ D.m.2.1), fun e => D.g.2.1 (e ▸ D.m.2.1)⟩
end
end PySem
namespace DN
open PySem PySem.Spec PyProof.Rows L2
end DN
namespace Ty
open PySem PySem.Spec PyProof.Rows L2 DN
def F__law_alike (c__law_alike : List PyData → Option PyData) : En → Option Fl := (sSeq (sIf (fT (fIsi (fun d => isTup d || isLst d) (fVar 1))) (sSeq (sIf (kOr (kNot (fT (fIsi (fun d => isTup d || isLst d) (fVar 0)))) (fT (fNe (fIsi isLst (fVar 0)) (fIsi isLst (fVar 1))))) (sRet (fLit (.bool false))) sNil) (sSeq (sIf (fT (fNe (fLen (fVar 0)) (fLen (fVar 1)))) (sRet (fLit (.bool false))) sNil) (sRet (fEq (fLc (iRange1 (fLen (fVar 1))) (bName 2) (kNot (fT (fCall 2 c__law_alike (fCons (fIx (fVar 0) (fVar 2)) (fCons (fIx (fVar 1) (fVar 2)) fNil))))) (fVar 2) [2]) (fLst fNil))))) sNil) (sSeq (sIf (kOr (fT (fIsN (fVar 1) (fLit .none))) (fT (fIsi isStr (fVar 1)))) (sRet (fAnd (fEq (fVar 0) (fVar 1)) (fEq (fIsi isStr (fVar 0)) (fIsi isStr (fVar 1))))) sNil) (sRet (fAnd (fIsi isInt (fVar 0)) (fAnd (fEq (fIsi isBool (fVar 0)) (fIsi isBool (fVar 1))) (fEq (fVar 0) (fVar 1)))))))
def F__law_alike0 : En → Option Fl := (sSeq (sIf (fT (fIsi (fun d => isTup d || isLst d) (fVar 1))) sNever sNil) (sSeq (sIf (kOr (fT (fIsN (fVar 1) (fLit .none))) (fT (fIsi isStr (fVar 1)))) (sRet (fAnd (fEq (fVar 0) (fVar 1)) (fEq (fIsi isStr (fVar 0)) (fIsi isStr (fVar 1))))) sNil) (sRet (fAnd (fIsi isInt (fVar 0)) (fAnd (fEq (fIsi isBool (fVar 0)) (fIsi isBool (fVar 1))) (fEq (fVar 0) (fVar 1)))))))
def S__law_alike : Nat → List PyData → Option PyData
  | 0 => runD 3 F__law_alike0
  | n + 1 => runD 3 (F__law_alike (S__law_alike n))
def N__law_alike (rec : PyData → PyData → Option Bool) (found' : PyData) (due' : PyData) : Option Bool := (iteO (some (isTup (eA due') || isLst (eA due'))) (iteO (some ((!(isTup (eA found') || isLst (eA found'))) || (!decide ((isLst (eA found')) = (isLst (eA due')))))) (some false) (iteO ((lenA found').bind fun x10 => (lenA due').bind fun y11 => some (!decide (x10 = y11))) (some false) ((((lenA due').bind range1O).bind fun l => compL (fun i13 => (((ixA found' i13).bind fun a18 => (ixA due' i13).bind fun a19 => rec a18 a19).bind fun b20 => some (!b20))) (fun i13 => (some i13)) l).bind fun x21 => (some ([] : (List Int))).bind fun y22 => some (decide (x21 = y22))))) (iteO (some ((isNone due') || (isStr (eA due')))) (andO (eqO (eA found') (eA due')) (some (decide ((isStr (eA found')) = (isStr (eA due')))))) (andO (some (isInt (eA found'))) (andO (some (decide ((isBool (eA found')) = (isBool (eA due'))))) (eqO (eA found') (eA due'))))))
theorem t__law_alike {S : List PyData → Option PyData} {rec : PyData → PyData → Option Bool} (hrec : ∀ x y, S [eA x, eA y] = (rec x y).map eB) (found' : PyData) (due' : PyData) : runD 3 (F__law_alike S) [eA found', eA due'] = (N__law_alike rec found' due').map eB := d_run (r_seq_ifret (P := (some (isTup (eA due') || isLst (eA due')))) (A := (iteO (some ((!(isTup (eA found') || isLst (eA found'))) || (!decide ((isLst (eA found')) = (isLst (eA due')))))) (some false) (iteO ((lenA found').bind fun x10 => (lenA due').bind fun y11 => some (!decide (x10 = y11))) (some false) ((((lenA due').bind range1O).bind fun l => compL (fun i13 => (((ixA found' i13).bind fun a18 => (ixA due' i13).bind fun a19 => rec a18 a19).bind fun b20 => some (!b20))) (fun i13 => (some i13)) l).bind fun x21 => (some ([] : (List Int))).bind fun y22 => some (decide (x21 = y22)))))) (t_T (P := (some (isTup (eA due') || isLst (eA due')))) (t_isi (A := (some due')) (b := fun x1 => (isTup (eA x1) || isLst (eA x1))) (fun _ => rfl) (t_var (i := 1) (e := eA) (v := due') rfl))) (r_seq_ifret (P := (some ((!(isTup (eA found') || isLst (eA found'))) || (!decide ((isLst (eA found')) = (isLst (eA due'))))))) (A := (some false)) (t_korP (b := (!(isTup (eA found') || isLst (eA found')))) (c := (!decide ((isLst (eA found')) = (isLst (eA due'))))) (t_knot (P := (some (isTup (eA found') || isLst (eA found')))) (t_T (P := (some (isTup (eA found') || isLst (eA found')))) (t_isi (A := (some found')) (b := fun x2 => (isTup (eA x2) || isLst (eA x2))) (fun _ => rfl) (t_var (i := 0) (e := eA) (v := found') rfl)))) (t_T (P := (some (!decide ((isLst (eA found')) = (isLst (eA due')))))) (t_f2 (A := (some (isLst (eA found')))) (B := (some (isLst (eA due')))) (h := (fun x6 y7 => some (!decide (x6 = y7)))) (g_ne enc_B rfl) (t_isi (A := (some found')) (b := fun x4 => (isLst (eA x4))) (fun _ => rfl) (t_var (i := 0) (e := eA) (v := found') rfl)) (t_isi (A := (some due')) (b := fun x5 => (isLst (eA x5))) (fun _ => rfl) (t_var (i := 1) (e := eA) (v := due') rfl))))) (r_ret (A := (some false)) (t_bl (b := false))) (r_seq_ifret (P := ((lenA found').bind fun x10 => (lenA due').bind fun y11 => some (!decide (x10 = y11)))) (A := (some false)) (t_T (P := ((lenA found').bind fun x10 => (lenA due').bind fun y11 => some (!decide (x10 = y11)))) (t_f2 (A := (lenA found')) (B := (lenA due')) (h := (fun x10 y11 => some (!decide (x10 = y11)))) (g_ne enc_I rfl) (t_f1 (A := (some found')) (h := (fun x8 => (lenA x8))) g_lenA (t_var (i := 0) (e := eA) (v := found') rfl)) (t_f1 (A := (some due')) (h := (fun x9 => (lenA x9))) g_lenA (t_var (i := 1) (e := eA) (v := due') rfl)))) (r_ret (A := (some false)) (t_bl (b := false))) (r_ret (A := ((((lenA due').bind range1O).bind fun l => compL (fun i13 => (((ixA found' i13).bind fun a18 => (ixA due' i13).bind fun a19 => rec a18 a19).bind fun b20 => some (!b20))) (fun i13 => (some i13)) l).bind fun x21 => (some ([] : (List Int))).bind fun y22 => some (decide (x21 = y22)))) (t_f2 (A := (((lenA due').bind range1O).bind fun l => compL (fun i13 => (((ixA found' i13).bind fun a18 => (ixA due' i13).bind fun a19 => rec a18 a19).bind fun b20 => some (!b20))) (fun i13 => (some i13)) l)) (B := (some ([] : (List Int)))) (h := (fun x21 y22 => some (decide (x21 = y22)))) (g_eq (enc_L enc_I) rfl) (t_lc (L := ((lenA due').bind range1O)) (ea := eI) (eb := eI) (T := fun i13 => (((ixA found' i13).bind fun a18 => (ixA due' i13).bind fun a19 => rec a18 a19).bind fun b20 => some (!b20))) (Bf := fun i13 => (some i13)) (i_range1 (A := (lenA due')) (t_f1 (A := (some due')) (h := (fun x12 => (lenA x12))) g_lenA (t_var (i := 1) (e := eA) (v := due') rfl))) (fun i13 => ⟨[.dat (eA found'), .dat (eA due'), .dat (eI i13)], rfl, (t_knot (P := ((ixA found' i13).bind fun a18 => (ixA due' i13).bind fun a19 => rec a18 a19)) (t_T (P := ((ixA found' i13).bind fun a18 => (ixA due' i13).bind fun a19 => rec a18 a19)) (t_call2 (A := (ixA found' i13)) (B := (ixA due' i13)) hrec (t_f2 (A := (some found')) (B := (some i13)) (h := (fun x14 y15 => (ixA x14 y15))) g_ixA (t_var (i := 0) (e := eA) (v := found') rfl) (t_var (i := 2) (e := eI) (v := i13) rfl)) (t_f2 (A := (some due')) (B := (some i13)) (h := (fun x16 y17 => (ixA x16 y17))) g_ixA (t_var (i := 1) (e := eA) (v := due') rfl) (t_var (i := 2) (e := eI) (v := i13) rfl))))), (t_var (i := 2) (e := eI) (v := i13) rfl)⟩)) (t_lstL (L := some []) (t_nil (α := Int) (e := eI))))))) (r_seq_ifret (P := (some ((isNone due') || (isStr (eA due'))))) (A := (andO (eqO (eA found') (eA due')) (some (decide ((isStr (eA found')) = (isStr (eA due'))))))) (t_korP (b := (isNone due')) (c := (isStr (eA due'))) (t_T (P := (some (isNone due'))) (t_f2 (A := (some due')) (B := (some ())) (h := (fun x23 y24 => some (isNone x23))) g_isNA (t_var (i := 1) (e := eA) (v := due') rfl) t_non)) (t_T (P := (some (isStr (eA due')))) (t_isi (A := (some due')) (b := fun x25 => (isStr (eA x25))) (fun _ => rfl) (t_var (i := 1) (e := eA) (v := due') rfl)))) (r_ret (A := (andO (eqO (eA found') (eA due')) (some (decide ((isStr (eA found')) = (isStr (eA due'))))))) (t_and (P := (eqO (eA found') (eA due'))) (Q := (some (decide ((isStr (eA found')) = (isStr (eA due')))))) (t_f2 (A := (some found')) (B := (some due')) (h := (fun x26 y27 => (eqO (eA x26) (eA y27)))) g_eqA (t_var (i := 0) (e := eA) (v := found') rfl) (t_var (i := 1) (e := eA) (v := due') rfl)) (t_f2 (A := (some (isStr (eA found')))) (B := (some (isStr (eA due')))) (h := (fun x30 y31 => some (decide (x30 = y31)))) (g_eq enc_B rfl) (t_isi (A := (some found')) (b := fun x28 => (isStr (eA x28))) (fun _ => rfl) (t_var (i := 0) (e := eA) (v := found') rfl)) (t_isi (A := (some due')) (b := fun x29 => (isStr (eA x29))) (fun _ => rfl) (t_var (i := 1) (e := eA) (v := due') rfl))))) (r_ret (A := (andO (some (isInt (eA found'))) (andO (some (decide ((isBool (eA found')) = (isBool (eA due'))))) (eqO (eA found') (eA due'))))) (t_and (P := (some (isInt (eA found')))) (Q := (andO (some (decide ((isBool (eA found')) = (isBool (eA due'))))) (eqO (eA found') (eA due')))) (t_isi (A := (some found')) (b := fun x32 => (isInt (eA x32))) (fun _ => rfl) (t_var (i := 0) (e := eA) (v := found') rfl)) (t_and (P := (some (decide ((isBool (eA found')) = (isBool (eA due')))))) (Q := (eqO (eA found') (eA due'))) (t_f2 (A := (some (isBool (eA found')))) (B := (some (isBool (eA due')))) (h := (fun x35 y36 => some (decide (x35 = y36)))) (g_eq enc_B rfl) (t_isi (A := (some found')) (b := fun x33 => (isBool (eA x33))) (fun _ => rfl) (t_var (i := 0) (e := eA) (v := found') rfl)) (t_isi (A := (some due')) (b := fun x34 => (isBool (eA x34))) (fun _ => rfl) (t_var (i := 1) (e := eA) (v := due') rfl))) (t_f2 (A := (some found')) (B := (some due')) (h := (fun x37 y38 => (eqO (eA x37) (eA y38)))) g_eqA (t_var (i := 0) (e := eA) (v := found') rfl) (t_var (i := 1) (e := eA) (v := due') rfl)))))))
def N__law_alike0 (found' : PyData) (due' : PyData) : Option Bool := (iteO (some (isTup (eA due') || isLst (eA due'))) none (iteO (some ((isNone due') || (isStr (eA due')))) (andO (eqO (eA found') (eA due')) (some (decide ((isStr (eA found')) = (isStr (eA due')))))) (andO (some (isInt (eA found'))) (andO (some (decide ((isBool (eA found')) = (isBool (eA due'))))) (eqO (eA found') (eA due'))))))
theorem t__law_alike0 (found' : PyData) (due' : PyData) : runD 3 F__law_alike0 [eA found', eA due'] = (N__law_alike0 found' due').map eB := d_run (r_seq_ifret (P := (some (isTup (eA due') || isLst (eA due')))) (A := none) (t_T (P := (some (isTup (eA due') || isLst (eA due')))) (t_isi (A := (some due')) (b := fun x1 => (isTup (eA x1) || isLst (eA x1))) (fun _ => rfl) (t_var (i := 1) (e := eA) (v := due') rfl))) r_never (r_seq_ifret (P := (some ((isNone due') || (isStr (eA due'))))) (A := (andO (eqO (eA found') (eA due')) (some (decide ((isStr (eA found')) = (isStr (eA due'))))))) (t_korP (b := (isNone due')) (c := (isStr (eA due'))) (t_T (P := (some (isNone due'))) (t_f2 (A := (some due')) (B := (some ())) (h := (fun x2 y3 => some (isNone x2))) g_isNA (t_var (i := 1) (e := eA) (v := due') rfl) t_non)) (t_T (P := (some (isStr (eA due')))) (t_isi (A := (some due')) (b := fun x4 => (isStr (eA x4))) (fun _ => rfl) (t_var (i := 1) (e := eA) (v := due') rfl)))) (r_ret (A := (andO (eqO (eA found') (eA due')) (some (decide ((isStr (eA found')) = (isStr (eA due'))))))) (t_and (P := (eqO (eA found') (eA due'))) (Q := (some (decide ((isStr (eA found')) = (isStr (eA due')))))) (t_f2 (A := (some found')) (B := (some due')) (h := (fun x5 y6 => (eqO (eA x5) (eA y6)))) g_eqA (t_var (i := 0) (e := eA) (v := found') rfl) (t_var (i := 1) (e := eA) (v := due') rfl)) (t_f2 (A := (some (isStr (eA found')))) (B := (some (isStr (eA due')))) (h := (fun x9 y10 => some (decide (x9 = y10)))) (g_eq enc_B rfl) (t_isi (A := (some found')) (b := fun x7 => (isStr (eA x7))) (fun _ => rfl) (t_var (i := 0) (e := eA) (v := found') rfl)) (t_isi (A := (some due')) (b := fun x8 => (isStr (eA x8))) (fun _ => rfl) (t_var (i := 1) (e := eA) (v := due') rfl))))) (r_ret (A := (andO (some (isInt (eA found'))) (andO (some (decide ((isBool (eA found')) = (isBool (eA due'))))) (eqO (eA found') (eA due'))))) (t_and (P := (some (isInt (eA found')))) (Q := (andO (some (decide ((isBool (eA found')) = (isBool (eA due'))))) (eqO (eA found') (eA due')))) (t_isi (A := (some found')) (b := fun x11 => (isInt (eA x11))) (fun _ => rfl) (t_var (i := 0) (e := eA) (v := found') rfl)) (t_and (P := (some (decide ((isBool (eA found')) = (isBool (eA due')))))) (Q := (eqO (eA found') (eA due'))) (t_f2 (A := (some (isBool (eA found')))) (B := (some (isBool (eA due')))) (h := (fun x14 y15 => some (decide (x14 = y15)))) (g_eq enc_B rfl) (t_isi (A := (some found')) (b := fun x12 => (isBool (eA x12))) (fun _ => rfl) (t_var (i := 0) (e := eA) (v := found') rfl)) (t_isi (A := (some due')) (b := fun x13 => (isBool (eA x13))) (fun _ => rfl) (t_var (i := 1) (e := eA) (v := due') rfl))) (t_f2 (A := (some found')) (B := (some due')) (h := (fun x16 y17 => (eqO (eA x16) (eA y17)))) g_eqA (t_var (i := 0) (e := eA) (v := found') rfl) (t_var (i := 1) (e := eA) (v := due') rfl)))))))
def alikeR : Nat → PyData → PyData → Option Bool
  | 0 => N__law_alike0
  | n + 1 => N__law_alike (alikeR n)
theorem t_alike : ∀ (n : Nat) (x y : PyData), S__law_alike n [eA x, eA y] = (alikeR n x y).map eB
  | 0, x, y => t__law_alike0 x y
  | n + 1, x, y => t__law_alike (t_alike n) x y
theorem iteO_t {α : Type} (a b : Option α) : iteO (some true) a b = a := rfl
theorem iteO_f {α : Type} (a b : Option α) : iteO (some false) a b = b := rfl
theorem andO_t (a : Option Bool) : andO (some true) a = a := rfl
def Alk {α : Type} [DecidableEq α] (n : Nat) (e : α → PyData) : Prop := ∀ a b, alikeR n (e a) (e b) = some (decide (a = b))
theorem eqO_I (a b : Int) : eqO (.int a) (.int b) = some (decide (a = b)) := rfl
theorem alk_I : ∀ n, Alk n eI
  | 0 => fun a b => eqO_I a b
  | n + 1 => fun a b => eqO_I a b
theorem compO_filter {α : Type} {T : α → Option Bool} {t : α → Bool} : ∀ l : List α, (∀ x ∈ l, T x = some (t x)) → compO T (fun i => some i) l = some (l.filter t)
  | [], _ => rfl
  | x :: r, h => by
    rw [compO_cons, h x List.mem_cons_self, compO_filter r fun y hy => h y (List.mem_cons_of_mem _ hy)]
    cases e : t x with
    | true => simp [e]
    | false => simp [e]
theorem atI_nat {α : Type} {l : List α} {i : Nat} (h : i < l.length) : atI l (0 + (i : Int)) = some l[i] := by
  unfold atI
  rw [Int.zero_add, ixN_at h]
  exact List.getElem?_eq_getElem h
section
variable {α β γ δ : Type} [DecidableEq α] [DecidableEq β] [DecidableEq γ] [DecidableEq δ] {n : Nat} {ea : α → PyData} {eb : β → PyData} {ec : γ → PyData} {ed : δ → PyData}
theorem range_self (k : Nat) (h : k ≤ 1000000) : range1O (k : Int) = some ((List.range k).map fun i : Nat => (0 + (i : Int))) := by
  unfold range1O
  rw [if_pos (by omega), Int.toNat_natCast]
theorem alk_items {xs ys : List PyData} {p : Nat → Bool} (hl : xs.length = ys.length) (h64 : ys.length ≤ 1000000) (hp : ∀ i (h : i < ys.length), alikeR n (xs[i]'(by omega)) ys[i] = some (p i)) (mk : List PyData → PyData) (hmk : mk = .tuple ∨ mk = .list) :
    alikeR (n + 1) (mk xs) (mk ys) = some (decide (∀ i, i < ys.length → p i = true)) := by
  have key : ∀ (d1 d2 : PyData), items d1 = some xs → items d2 = some ys → (compL (fun i13 => (((ixA d1 i13).bind fun a18 => (ixA d2 i13).bind fun a19 => alikeR n a18 a19).bind fun b20 => some (!b20))) (fun i13 => (some i13)) ((List.range ys.length).map fun i : Nat => (0 + (i : Int)))).bind (fun x21 => (some ([] : (List Int))).bind fun y22 => some (decide (x21 = y22))) = some (decide (∀ i, i < ys.length → p i = true)) := by
    intro d1 d2 h1 h2
    unfold compL
    rw [if_pos (by rw [List.length_map, List.length_range]; exact h64)]
    rw [compO_filter (t := fun z : Int => !p z.toNat)]
    · simp only [Option.bind_some]
      congr 1
      rw [decide_eq_decide]
      rw [List.filter_eq_nil_iff]
      constructor
      · intro h i hi
        have := h (0 + (i : Int)) (List.mem_map.mpr ⟨i, List.mem_range.mpr hi, rfl⟩)
        simpa using this
      · intro h z hz
        obtain ⟨i, hi, rfl⟩ := List.mem_map.mp hz
        have := h i (List.mem_range.mp hi)
        simp [this]
    · intro z hz
      obtain ⟨i, hi, rfl⟩ := List.mem_map.mp hz
      have hi' := List.mem_range.mp hi
      unfold ixA
      rw [h1, h2]
      simp only [Option.bind_some]
      rw [atI_nat (l := xs) (by omega), atI_nat (l := ys) hi']
      simp only [Option.bind_some]
      rw [hp i hi']
      simp
  have hlen : (lenA (mk xs)).bind (fun x10 => (lenA (mk ys)).bind fun y11 => some (!decide (x10 = y11))) = some false := by
    rcases hmk with rfl | rfl <;> simp [lenA, hl]
  have hr : (lenA (mk ys)).bind range1O = some ((List.range ys.length).map fun i : Nat => (0 + (i : Int))) := by
    rcases hmk with rfl | rfl <;> exact range_self _ h64
  show N__law_alike (alikeR n) (mk xs) (mk ys) = _
  unfold N__law_alike
  rcases hmk with rfl | rfl
  · show iteO (some true) (iteO (some ((!true) || (!decide (false = false)))) (some false) (iteO _ (some false) _)) _ = _
    rw [iteO_t]
    show iteO (some false) _ _ = _
    rw [iteO_f]
    show iteO ((lenA (PyData.tuple xs)).bind (fun x10 => (lenA (PyData.tuple ys)).bind fun y11 => some (!decide (x10 = y11)))) _ _ = _
    rw [hlen, iteO_f]
    show (((lenA (PyData.tuple ys)).bind range1O).bind fun l => compL _ _ l).bind _ = _
    rw [hr]
    exact key (.tuple xs) (.tuple ys) rfl rfl
  · show iteO (some true) (iteO (some ((!true) || (!decide (true = true)))) (some false) (iteO _ (some false) _)) _ = _
    rw [iteO_t]
    show iteO (some false) _ _ = _
    rw [iteO_f]
    show iteO ((lenA (PyData.list xs)).bind (fun x10 => (lenA (PyData.list ys)).bind fun y11 => some (!decide (x10 = y11)))) _ _ = _
    rw [hlen, iteO_f]
    show (((lenA (PyData.list ys)).bind range1O).bind fun l => compL _ _ l).bind _ = _
    rw [hr]
    exact key (.list xs) (.list ys) rfl rfl
theorem alk_lens {xs ys : List PyData} (hl : xs.length ≠ ys.length) (mk : List PyData → PyData) (hmk : mk = .tuple ∨ mk = .list) : alikeR (n + 1) (mk xs) (mk ys) = some false := by
  have hlen : (lenA (mk xs)).bind (fun x10 => (lenA (mk ys)).bind fun y11 => some (!decide (x10 = y11))) = some true := by
    rcases hmk with rfl | rfl <;> (simp [lenA]; omega)
  show N__law_alike (alikeR n) (mk xs) (mk ys) = _
  unfold N__law_alike
  rcases hmk with rfl | rfl
  · show iteO (some true) (iteO (some false) (some false) (iteO ((lenA (PyData.tuple xs)).bind (fun x10 => (lenA (PyData.tuple ys)).bind fun y11 => some (!decide (x10 = y11)))) (some false) _)) _ = _
    rw [iteO_t, iteO_f, hlen, iteO_t]
  · show iteO (some true) (iteO (some false) (some false) (iteO ((lenA (PyData.list xs)).bind (fun x10 => (lenA (PyData.list ys)).bind fun y11 => some (!decide (x10 = y11)))) (some false) _)) _ = _
    rw [iteO_t, iteO_f, hlen, iteO_t]
theorem alk_seq (E : Alk n ea) (mk : List PyData → PyData) (hmk : mk = .tuple ∨ mk = .list) (l m : List α) (hm : m.length ≤ 1000000) : alikeR (n + 1) (mk (l.map ea)) (mk (m.map ea)) = some (decide (l = m)) := by
  by_cases hl : l.length = m.length
  · rw [alk_items (p := fun i => decide (l[i]? = m[i]?)) (by simpa using hl) (by simpa using hm) ?_ mk hmk]
    · congr 1
      rw [decide_eq_decide]
      constructor
      · intro h
        refine List.ext_getElem? fun i => ?_
        by_cases hi : i < m.length
        · exact of_decide_eq_true (h i (by simpa using hi))
        · rw [List.getElem?_eq_none (by omega), List.getElem?_eq_none (by omega)]
      · rintro rfl i _
        simp
    · intro i hi
      have hi' : i < m.length := by simpa using hi
      rw [List.getElem_map, List.getElem_map, E]
      congr 1
      rw [decide_eq_decide, List.getElem?_eq_getElem (by omega), List.getElem?_eq_getElem hi']
      simp
  · rw [alk_lens (by simpa using hl) mk hmk, decide_eq_false (fun z => hl (by rw [z]))]
theorem alk_R (E : Alk n ea) (l m : List α) (hm : m.length ≤ 1000000) : alikeR (n + 1) (eR ea l) (eR ea m) = some (decide (l = m)) := alk_seq E .tuple (.inl rfl) l m hm
theorem alk_2 (E : Alk n ea) (F : Alk n eb) : Alk (n + 1) (e2 ea eb) := fun p q => by
  refine (alk_items (n := n) (xs := [ea p.1, eb p.2]) (ys := [ea q.1, eb q.2]) (p := fun i => if i = 0 then decide (p.1 = q.1) else decide (p.2 = q.2)) rfl (by simp) (fun i hi => ?_) .tuple (.inl rfl)).trans ?_
  · match i, hi with
    | 0, _ => exact E p.1 q.1
    | 1, _ => exact F p.2 q.2
  · congr 1
    rw [decide_eq_decide]
    constructor
    · intro h
      have h0 := h 0 (by simp)
      have h1 := h 1 (by simp)
      simp at h0 h1
      exact Prod.ext h0 h1
    · rintro rfl i _
      split <;> simp
end
def alikeT {α β : Type} (n : Nat) (ea : α → PyData) (eb : β → PyData) (a : α) (b : β) : Option Bool := alikeR n (ea a) (eb b)
theorem t_alikeT {α β : Type} (n : Nat) (ea : α → PyData) (eb : β → PyData) (a : α) (b : β) : S__law_alike n [ea a, eb b] = (alikeT n ea eb a b).map eB := t_alike n (ea a) (eb b)
def F__law_dam : LF := (lSeq (lSet 2 (wDraw 1 cPick (wCons (wLst (wCons (wP 0 (fLit (.int 0))) (wCons (wP 0 (fLit (.int 1))) (wCons (wP 0 (fLit (.int 10))) (wCons (wDraw 1 cTaken (wCons (wP 0 (fLit (.int 60))) wNil)) (wCons (wP 0 (fLit (.int 1000))) wNil)))))) wNil))) (lSeq (lSet 3 (w1 gTuple (wLc (wRange1 (w2 gPlus (wP 0 (fLit (.int 1))) (wDraw 1 cTaken (wCons (wP 0 (fVar 1)) wNil)))) (bName 4) wYes (wDraw 0 cFlow wNil) [4]))) (lRetV (wTup (wCons (wP 0 (fVar 2)) (wCons (wDraw 1 cTaken (wCons (wP 0 (fPlus (fVar 2) (fLit (.int 1)))) wNil)) (wCons (wDraw 1 cPick (wCons (wLst (wCons (wP 0 (fLit (.int 0))) (wCons (wP 0 (fLit (.int 0))) (wCons (wP 0 (fLit (.int 0))) (wCons (wDraw 1 cTaken (wCons (wP 0 (fPlus (fVar 2) (fLit (.int 1)))) wNil)) wNil))))) wNil)) (wCons (wP 0 (fVar 3)) wNil))))))))
def W__law_dam (most' : Int) (K : (Int × Int × Int × (List Int)) → Prop) : Prop := (∀ r53 : Int, 0 ≤ r53 → r53 < 60 → (∀ r56 : Int, r56 ∈ [(0 : Int), (1 : Int), (10 : Int), r53, (1000 : Int)] → (0 < most' ∧ most' ≤ 1000000 ∧ ∀ r60 : Int, 0 ≤ r60 → r60 < most' → (-1000000 ≤ ((1 : Int) + r60) ∧ ((1 : Int) + r60) ≤ 1000000 ∧ ∀ l58 : List Int, All2 (fun (i63 : Int) (y : Int) => ∀ R : Int → Prop, ((∀ r64 : Int, 0 ≤ r64 → r64 ≤ 1000 → R r64)) → R y) (rangeI ((1 : Int) + r60)) l58 → (0 < (r56 + (1 : Int)) ∧ (r56 + (1 : Int)) ≤ 1000000 ∧ ∀ r69 : Int, 0 ≤ r69 → r69 < (r56 + (1 : Int)) → (0 < (r56 + (1 : Int)) ∧ (r56 + (1 : Int)) ≤ 1000000 ∧ ∀ r74 : Int, 0 ≤ r74 → r74 < (r56 + (1 : Int)) → (∀ r77 : Int, r77 ∈ [(0 : Int), (0 : Int), (0 : Int), r74] → K ((r56, r69, r77, l58)))))))))
theorem w__law_dam (most' : Int) (Qd : PyData → Prop) (H : W__law_dam most' (fun v => Qd ((e4 eI eI eI (eR eI)) v))) : runV 5 (F__law_dam) [eI most'] Qd := ⟨eI (0 : Int), fun rw => (t_int (i := 0)), ⟨eI (1 : Int), fun rw => (t_int (i := 1)), ⟨eI (10 : Int), fun rw => (t_int (i := 10)), ⟨eI (60 : Int), fun rw => (t_int (i := 60)), ⟨rfl, (60 : Int), rfl, (by decide), (by decide), fun r53 g54 g55 => ⟨eI (1000 : Int), fun rw => (t_int (i := 1000)), ⟨Nat.le_of_ble_eq_true rfl, rfl, List.map eI [(0 : Int), (1 : Int), (10 : Int), r53, (1000 : Int)], rfl, Nat.le_of_ble_eq_true rfl, Nat.le_of_ble_eq_true rfl, pick_of (fun r56 g57 => ⟨_, rfl, ⟨(noown1 (i := 4) rfl), ⟨eI (1 : Int), fun rw => (t_int (i := 1)), ⟨eI most', fun rw => (t_var (i := 1) (e := eI) (v := most') rfl), ⟨rfl, most', rfl, ((H r53 g54 g55) r56 g57).1, ((H r53 g54 g55) r56 g57).2.1, fun r60 g61 g62 => ⟨eI ((1 : Int) + r60), rfl, ⟨((1 : Int) + r60), rfl, (((H r53 g54 g55) r56 g57).2.2 r60 g61 g62).1, (((H r53 g54 g55) r56 g57).2.2 r60 g61 g62).2.1, rangeD_len (((H r53 g54 g55) r56 g57).2.2 r60 g61 g62).2.1, wlc_range (P := (fun (i63 : Int) (y : Int) => ∀ R : Int → Prop, ((∀ r64 : Int, 0 ≤ r64 → r64 ≤ 1000 → R r64)) → R y)) (eb := eI) (fun i63 => ⟨[.no, .dat (eI most'), .dat (eI r56), .no, .dat (eI i63)], rfl, fun Q hR => ⟨rfl, rfl, fun r64 g65 g66 => (hR r64 (fun R hh => (hh r64 g65 g66)))⟩⟩) (fun l58 g59 => ⟨(eR eI) l58, rfl, ⟨_, rfl, ⟨eI r56, fun rw => (t_var (i := 2) (e := eI) (v := r56) rfl), ⟨eI (r56 + (1 : Int)), fun rw => (t_f2 (A := (some r56)) (B := (some (1 : Int))) (h := (fun x67 y68 => some (x67 + y68))) g_add (t_var (i := 2) (e := eI) (v := r56) rfl) (t_int (i := 1))), ⟨rfl, (r56 + (1 : Int)), rfl, ((((H r53 g54 g55) r56 g57).2.2 r60 g61 g62).2.2 l58 g59).1, ((((H r53 g54 g55) r56 g57).2.2 r60 g61 g62).2.2 l58 g59).2.1, fun r69 g70 g71 => ⟨eI (0 : Int), fun rw => (t_int (i := 0)), ⟨eI (0 : Int), fun rw => (t_int (i := 0)), ⟨eI (0 : Int), fun rw => (t_int (i := 0)), ⟨eI (r56 + (1 : Int)), fun rw => (t_f2 (A := (some r56)) (B := (some (1 : Int))) (h := (fun x72 y73 => some (x72 + y73))) g_add (t_var (i := 2) (e := eI) (v := r56) rfl) (t_int (i := 1))), ⟨rfl, (r56 + (1 : Int)), rfl, (((((H r53 g54 g55) r56 g57).2.2 r60 g61 g62).2.2 l58 g59).2.2 r69 g70 g71).1, (((((H r53 g54 g55) r56 g57).2.2 r60 g61 g62).2.2 l58 g59).2.2 r69 g70 g71).2.1, fun r74 g75 g76 => ⟨Nat.le_of_ble_eq_true rfl, rfl, List.map eI [(0 : Int), (0 : Int), (0 : Int), r74], rfl, Nat.le_of_ble_eq_true rfl, Nat.le_of_ble_eq_true rfl, pick_of (fun r77 g78 => ⟨(eR eI) l58, fun rw => (t_var (i := 3) (e := (eR eI)) (v := l58) rfl), ⟨Nat.le_of_ble_eq_true rfl, ⟨_, rfl, (((((((H r53 g54 g55) r56 g57).2.2 r60 g61 g62).2.2 l58 g59).2.2 r69 g70 g71).2.2 r74 g75 g76) r77 g78)⟩⟩⟩)⟩⟩⟩⟩⟩⟩⟩⟩⟩⟩⟩)⟩⟩⟩⟩⟩⟩⟩)⟩⟩⟩⟩⟩⟩⟩
abbrev DamT : Type := Int × Int × Int × List Int
abbrev eDam : DamT → PyData := e4 eI eI eI (eR eI)
structure DamIn (m : Int) (d : DamT) : Prop where
  c0 : 0 ≤ d.1
  c1 : d.1 ≤ 1000
  s0 : 0 ≤ d.2.1
  s1 : d.2.1 ≤ d.1
  e0 : 0 ≤ d.2.2.1
  e1 : d.2.2.1 ≤ d.1
  fl : Flows d.2.2.2
  l0 : 0 < d.2.2.2.length
  l1 : (d.2.2.2.length : Int) ≤ m
def cDam : List PyData → (PyData → Prop) → Prop := fun ds Q => ∃ m : Int, ds = [.int m] ∧ 0 < m ∧ m ≤ 12 ∧ ∀ d : DamT, DamIn m d → Q (eDam d)
theorem rangeI_len (n : Int) : (rangeI n).length = n.toNat := by simp [rangeI]
theorem dam_in {m : Int} {K : DamT → Prop} (h0 : 0 < m) (h1 : m ≤ 12) (h : ∀ d, DamIn m d → K d) : W__law_dam m K := by
  intro t t0 t1 c hc
  have hc2 : 0 ≤ c ∧ c ≤ 1000 := by
    simp only [List.mem_cons, List.not_mem_nil, or_false] at hc
    rcases hc with rfl | rfl | rfl | rfl | rfl <;> omega
  refine ⟨h0, by omega, fun k k0 k1 => ⟨by omega, by omega, fun l hl => ⟨by omega, by omega, fun s s0 s1 => ⟨by omega, by omega, fun e e0 e1 x hx => h _ ?_⟩⟩⟩⟩
  have hx2 : 0 ≤ x ∧ x ≤ c := by
    simp only [List.mem_cons, List.not_mem_nil, or_false] at hx
    rcases hx with rfl | rfl | rfl | rfl <;> omega
  have hlen := hl.len
  rw [rangeI_len] at hlen
  have hfl : ∀ y ∈ l, 0 ≤ y ∧ y ≤ 1000 := hl.all (R := fun y => 0 ≤ y ∧ y ≤ 1000) fun a b hab => hab (fun y => 0 ≤ y ∧ y ≤ 1000) fun r r0 r1 => ⟨r0, r1⟩
  exact ⟨hc2.1, hc2.2, s0, by show s ≤ c; omega, hx2.1, hx2.2, hfl, by show 0 < l.length; omega, by show (l.length : Int) ≤ m; omega⟩
theorem dam_ok : ∀ ds Q, cDam ds Q → runV 5 F__law_dam ds Q := by
  rintro ds Q ⟨m, rfl, h0, h1, hq⟩
  exact w__law_dam m Q (dam_in h0 h1 hq)
section
variable {α β γ δ ε : Type} {en : En} {f g h k l : En → Option PyData} {ea : α → PyData} {eb : β → PyData} {ec : γ → PyData} {ed : δ → PyData} {ee : ε → PyData} {A : Option α} {B : Option β} {C : Option γ} {D : Option δ} {E : Option ε}
def e5 (a : α → PyData) (b : β → PyData) (c : γ → PyData) (d : δ → PyData) (e : ε → PyData) (p : α × β × γ × δ × ε) : PyData := .tuple [a p.1, b p.2.1, c p.2.2.1, d p.2.2.2.1, e p.2.2.2.2]
end
def F_sum_of_ratios (c_plus : List PyData → Option PyData) : En → Option Fl := (sSeq (sSet 1 (fTup (fCons (fLit (.int 0)) (fCons (fLit (.int 1)) fNil)))) (sSeq (sFor (iSeq (fVar 0)) (bName 2) (sSet 1 (fCall 2 c_plus (fCons (fVar 1) (fCons (fVar 2) fNil))))) (sRet (fVar 1))))
def S_sum_of_ratios := runD 3 (F_sum_of_ratios S_plus)
noncomputable def N_sum_of_ratios (ratios' : (List (Int × Int))) : Option (Int × Int) := ((some ((0 : Int), (1 : Int))).bind fun total_1 => ((foldO (fun (i4 : (Int × Int)) (s2 : ((Int × Int))) => ((N_plus s2 i4).bind fun total_5 => some total_5)) ratios' total_1).bind fun s6 => (some s6)))
theorem t_sum_of_ratios (ratios' : (List (Int × Int))) : S_sum_of_ratios [(eL (e2 eI eI)) ratios'] = (N_sum_of_ratios ratios').map (e2 eI eI) := d_run (r_seq_set (i := 1) (A := (some ((0 : Int), (1 : Int)))) (t_tup2 (A := (some (0 : Int))) (B := (some (1 : Int))) (t_int (i := 0)) (t_int (i := 1))) (lt_of rfl) (fun total_1 => (r_seq_nx (env := (fun (s : ((Int × Int))) (z : (Slot)) => [.dat ((eL (e2 eI eI)) ratios'), .dat ((e2 eI eI) s), z])) (n_for (env := (fun (s : ((Int × Int))) (z : (Slot)) => [.dat ((eL (e2 eI eI)) ratios'), .dat ((e2 eI eI) s), z])) (s := total_1) (z := (.no : Slot)) (L := (some ratios')) (ea := (e2 eI eI)) (Bd := (fun (i4 : (Int × Int)) (s2 : ((Int × Int))) => ((N_plus s2 i4).bind fun total_5 => some total_5))) rfl (i_seqL (A := (some ratios')) (e := (e2 eI eI)) (t_var (i := 0) (e := (eL (e2 eI eI))) (v := ratios') rfl)) (fun i4 s2 z3 => ⟨[.dat ((eL (e2 eI eI)) ratios'), .dat ((e2 eI eI) s2), .dat ((e2 eI eI) i4)], rfl, (n_set  (K := fun total_5 => total_5) (i := 1) (A := (N_plus s2 i4)) (t_call2 (A := (some s2)) (B := (some i4)) (N := N_plus) t_plus (t_var (i := 1) (e := (e2 eI eI)) (v := s2) rfl) (t_var (i := 2) (e := (e2 eI eI)) (v := i4) rfl)) (lt_of rfl) (fun total_5 => ⟨(.dat ((e2 eI eI) i4) : Slot), rfl⟩))⟩)) (fun s6 z7 => (r_ret (A := (some s6)) (t_var (i := 1) (e := (e2 eI eI)) (v := s6) rfl))))))
section
variable {α β : Type} {en : En} {f g : En → Option PyData} {ea : α → PyData} {eb : β → PyData}
theorem i_ez {A : Option (List α)} {B : Option (List β)} {s : List α → PyData} {t : List β → PyData} (h : ∀ x y, iZip (fun _ => some (s x)) (fun _ => some (t y)) [] = some (pairs (x.map ea) (y.map eb))) (pa : f en = A.map s) (pb : g en = B.map t) :
    iEZ f g en = (A.bind fun x => B.bind fun y => some (enumN 0 (x.zip y))).map (List.map (e2 eI (e2 ea eb))) := by
  unfold iEZ
  rw [i_zip h pa pb]
  cases A with
  | none => rfl
  | some x => cases B with
    | none => rfl
    | some y => exact congrArg some (enum_map (e2 ea eb) 0 (x.zip y))
end
end Ty
namespace DN
open PySem PySem.Spec PyProof.Rows L2
def bAll : List (PyData → En → Option En) → List PyData → En → Option En
  | [], [], en => some en
  | b :: bs, d :: ds, en => (b d en).bind fun e => bAll bs ds e
  | _, _, _ => none
def gDf (K : PySem.W.Frag) (Ts : TsT) (vs : List Nat) (bs : List (PyData → En → Option En)) : TGs := fun xs σ H Q => ∃ He O en ds en', Rep K Ts He O σ H en ∧ DpAll K (hide H O) xs ds ∧ bAll bs ds en = some en' ∧ ∀ σ', Rep K Ts He O σ' H en' → wipe σ' vs = wipe σ vs → Q σ' H
def bTupF (bs : List (PyData → En → Option En)) : PyData → En → Option En := fun d en => match d with
  | .tuple ds => bAll bs ds en
  | _ => none
theorem bAll_len : ∀ {bs : List (PyData → En → Option En)} {ds : List PyData} {en en' : En}, bAll bs ds en = some en' → ds.length = bs.length
  | [], [], _, _, _ => rfl
  | b :: bs, d :: ds, en, en', h => by
    obtain ⟨e1, _, h2⟩ := Option.bind_eq_some_iff.mp h
    rw [List.length_cons, List.length_cons, bAll_len h2]
  | [], _ :: _, _, _, h => by cases h
  | _ :: _, [], _, _, h => by cases h
section
variable {X : Cx} {Ts : TsT} {pos : Pos}
theorem dgf_nil {vs : List Nat} : PGs X [] (gDf X.K Ts vs []) := ⟨fun pins s σ H xs us Q I r ⟨He, O, en, ds, en', rp, q, hb, kk⟩ => by
  cases q with
  | nil =>
    cases hb
    exact pgs_nil.run pins s σ H _ us Q I r ⟨rfl, kk σ rp rfl⟩
  | cons _ _ => cases hb⟩
theorem dgf_cons {e : Expr} {es : List Expr} {vs : List Nat} {b : PyData → En → Option En} {bs : List (PyData → En → Option En)} (h1 : DG X Ts e vs b) (h2 : PGs X es (gDf X.K Ts vs bs)) (hs : (assignEach (e :: es) X.env).map (·.2) = assign e X.env :: (assignEach es X.env).map (·.2) := by rfl) : PGs X (e :: es) (gDf X.K Ts vs (b :: bs)) :=
  ⟨fun pins s σ H xs us Q I r ⟨He, O, en, ds, en', rp, q, hb, kk⟩ => by
    cases q with
    | nil => cases hb
    | cons qd qt =>
      obtain ⟨e1, hb1, hb2⟩ := Option.bind_eq_some_iff.mp hb
      exact (pgs_cons h1 h2 hs).run pins s σ H _ us Q I r ⟨_, _, rfl, He, O, en, _, e1, rp, qd, hb1, fun σ' r' w' => ⟨He, O, e1, _, en', r', qt, hb2, fun σ2 r2 w2 => kk σ2 r2 (w2.trans w')⟩⟩⟩
theorem dg_tupF {es : List Expr} {k : Nat} {vs : List Nat} {bs : List (PyData → En → Option En)} (hc : X.calm = true) (h : PGs X es (gDf X.K Ts vs bs)) (hn : (assignEach es X.env).length = bs.length := by rfl) (hst : (assignEach es X.env).findIdx? (·.1) = none := by rfl) : DG X Ts (.Tuple es k pos) vs (bTupF bs) :=
  PG.imp (pg_tup hc h hn hst) fun v σ H Q ⟨He, O, en, d, en', r, q, hb, kk⟩ => by
    cases d <;> try cases hb
    rename_i ds
    cases q with
    | tup s a =>
      exact ⟨_, _, rfl, sqT_mono (fun o n e => (hide_some e).2) s, by rw [DpAll.len a]; exact bAll_len hb, He, O, en, ds, en', r, a, hb, kk⟩
end
end DN
namespace Ty
open PySem PySem.Spec PyProof.Rows L2 DN
def F_parted (c_least_ratio c_minus : List PyData → Option PyData) : En → Option Fl := (sSeq (sOwn 2 (fLst fNil)) (sSeq (sOwn 3 (fLst fNil)) (sSeq (sSet 4 (fVar 1)) (sSeq (sFor (iSeq (fVar 0)) (bTup [5, 6]) (sSeq (sSet 7 (fCall 1 c_least_ratio (fCons (fLst (fCons (fVar 4) (fCons (fVar 6) fNil))) fNil))) (sSeq (sSet 4 (fCall 2 c_minus (fCons (fVar 4) (fCons (fVar 7) fNil)))) (sSeq (sIf (fT (fNe (fVar 7) (fTup (fCons (fLit (.int 0)) (fCons (fLit (.int 1)) fNil))))) (sApp 2 (fTup (fCons (fVar 5) (fCons (fVar 7) fNil)))) sNil) (sIf (fT (fNe (fVar 7) (fVar 6))) (sApp 3 (fTup (fCons (fVar 5) (fCons (fCall 2 c_minus (fCons (fVar 6) (fCons (fVar 7) fNil))) fNil)))) sNil))))) (sSeq (sRel 2) (sSeq (sRel 3) (sRet (fTup (fCons (fVar 2) (fCons (fVar 3) fNil))))))))))
def S_parted := runD 8 (F_parted S_least_ratio S_minus)
def F_waters_of_months (c_check_dam c_check_plan c_parted : List PyData → Option PyData) : En → Option Fl := (sSeq (sExpr (fCall 1 c_check_dam (fCons (fVar 0) fNil))) (sSeq (sExpr (fCall 2 c_check_plan (fCons (fVar 0) (fCons (fVar 1) fNil)))) (sSeq (sBind (bTup [2, 3, 2, 4]) (fVar 0)) (sSeq (sSet 5 (fLst (fCons (fTup (fCons (fNeg (fLit (.int 1))) (fCons (fTup (fCons (fVar 3) (fCons (fLit (.int 1)) fNil))) fNil))) fNil))) (sSeq (sOwn 6 (fLst fNil)) (sSeq (sFor (iEZ (fVar 4) (fVar 1)) (bTupF [(bName 7), (bTup [8, 9])]) (sSeq (sBind (bTup [10, 5]) (fCall 2 c_parted (fCons (fPlus (fVar 5) (fLst (fCons (fTup (fCons (fVar 7) (fCons (fTup (fCons (fVar 8) (fCons (fLit (.int 1)) fNil))) fNil))) fNil))) (fCons (fVar 9) fNil)))) (sApp 6 (fTup (fCons (fVar 10) (fCons (fVar 5) fNil)))))) (sSeq (sRel 6) (sRet (fVar 6)))))))))
def S_waters_of_months := runD 11 (F_waters_of_months S_check_dam S_check_plan S_parted)
def F_mean_age (c_sum_of_ratios c_times c_divided : List PyData → Option PyData) : En → Option Fl := (sSeq (sIf (fT (fEq (fVar 0) (fLst fNil))) (sRet (fTup (fCons (fLit (.int 0)) (fCons (fLit (.int 1)) fNil)))) sNil) (sSeq (sSet 2 (fCall 1 c_sum_of_ratios (fCons (fLc (iSeq (fVar 0)) (bTup [3, 4]) kYes (fCall 2 c_times (fCons (fTup (fCons (fSub (fVar 1) (fVar 3)) (fCons (fLit (.int 1)) fNil))) (fCons (fVar 4) fNil))) [3, 4]) fNil))) (sRet (fCall 2 c_divided (fCons (fVar 2) (fCons (fCall 1 c_sum_of_ratios (fCons (fLc (iSeq (fVar 0)) (bTup [5, 4]) kYes (fVar 4) [5, 4]) fNil)) fNil))))))
def S_mean_age := runD 6 (F_mean_age S_sum_of_ratios S_times S_divided)
def F_ages (c_waters_of_months c_mean_age : List PyData → Option PyData) : En → Option Fl := (sRet (fTuple (fLc (iEnumF (fCall 2 c_waters_of_months (fCons (fVar 0) (fCons (fVar 1) fNil)))) (bTupF [(bName 2), (bTup [3, 4])]) kYes (fCall 2 c_mean_age (fCons (fVar 3) (fCons (fVar 2) fNil))) [2, 3, 4])))
def S_ages := runD 5 (F_ages S_waters_of_months S_mean_age)
def F_oldest (c_waters_of_months : List PyData → Option PyData) : En → Option Fl := (sRet (fTuple (fLc (iEnumF (fCall 2 c_waters_of_months (fCons (fVar 0) (fCons (fVar 1) fNil)))) (bTupF [(bName 2), (bTup [3, 4])]) kYes (fIf (fT (fEq (fVar 4) (fLst fNil))) (fLit .none) (fSub (fVar 2) (fIx (fIx (fVar 4) (fLit (.int 0))) (fLit (.int 0))))) [2, 3, 4])))
def S_oldest := runD 5 (F_oldest S_waters_of_months)
noncomputable def N_parted (waters' : (List (Int × (Int × Int)))) (release' : (Int × Int)) : Option ((List (Int × (Int × Int))) × (List (Int × (Int × Int)))) := ((some []).bind fun released_1 => ((some []).bind fun kept_2 => ((some release').bind fun left_3 => ((foldO (fun (i6 : (Int × (Int × Int))) (s4 : ((Int × Int) × (List (Int × (Int × Int))) × (List (Int × (Int × Int))))) => ((N_least_ratio [s4.1, i6.2]).bind fun taken_7 => ((N_minus s4.1 taken_7).bind fun left_8 => ((iteO (some (!decide (taken_7 = ((0 : Int), (1 : Int))))) ((appO s4.2.1 (i6.1, taken_7)).bind fun released_11 => some released_11) (some s4.2.1)).bind fun s13 => (iteO (some (!decide (taken_7 = i6.2))) (((some i6.1).bind fun x17 => (N_minus i6.2 taken_7).bind fun x18 => some (x17, x18)).bind fun x20 => (appO s4.2.2 x20).bind fun kept_19 => some (left_8, s13, kept_19)) (some (left_8, s13, s4.2.2))))))) waters' (left_3, released_1, kept_2)).bind fun s21 => (some (s21.2.1, s21.2.2))))))
theorem t_parted (waters' : (List (Int × (Int × Int)))) (release' : (Int × Int)) : S_parted [(eL (e2 eI (e2 eI eI))) waters', (e2 eI eI) release'] = (N_parted waters' release').map (e2 (eL (e2 eI (e2 eI eI))) (eL (e2 eI (e2 eI eI)))) := d_run (r_seq_own (i := 2) (ea := (e2 eI (e2 eI eI))) (A := (some [])) (t_lstL (L := some []) (t_nil (α := (Int × (Int × Int))) (e := (e2 eI (e2 eI eI))))) (lt_of rfl) (fun released_1 => (r_seq_own (i := 3) (ea := (e2 eI (e2 eI eI))) (A := (some [])) (t_lstL (L := some []) (t_nil (α := (Int × (Int × Int))) (e := (e2 eI (e2 eI eI))))) (lt_of rfl) (fun kept_2 => (r_seq_set (i := 4) (A := (some release')) (t_var (i := 1) (e := (e2 eI eI)) (v := release') rfl) (lt_of rfl) (fun left_3 => (r_seq_nx (env := (fun (s : ((Int × Int) × (List (Int × (Int × Int))) × (List (Int × (Int × Int))))) (z : (Slot × Slot × Slot)) => [.dat ((eL (e2 eI (e2 eI eI))) waters'), .dat ((e2 eI eI) release'), .own (List.map (e2 eI (e2 eI eI)) s.2.1), .own (List.map (e2 eI (e2 eI eI)) s.2.2), .dat ((e2 eI eI) s.1), z.1, z.2.1, z.2.2])) (n_for (env := (fun (s : ((Int × Int) × (List (Int × (Int × Int))) × (List (Int × (Int × Int))))) (z : (Slot × Slot × Slot)) => [.dat ((eL (e2 eI (e2 eI eI))) waters'), .dat ((e2 eI eI) release'), .own (List.map (e2 eI (e2 eI eI)) s.2.1), .own (List.map (e2 eI (e2 eI eI)) s.2.2), .dat ((e2 eI eI) s.1), z.1, z.2.1, z.2.2])) (s := (left_3, released_1, kept_2)) (z := ((.no : Slot), (.no : Slot), (.no : Slot))) (L := (some waters')) (ea := (e2 eI (e2 eI eI))) (Bd := (fun (i6 : (Int × (Int × Int))) (s4 : ((Int × Int) × (List (Int × (Int × Int))) × (List (Int × (Int × Int))))) => ((N_least_ratio [s4.1, i6.2]).bind fun taken_7 => ((N_minus s4.1 taken_7).bind fun left_8 => ((iteO (some (!decide (taken_7 = ((0 : Int), (1 : Int))))) ((appO s4.2.1 (i6.1, taken_7)).bind fun released_11 => some released_11) (some s4.2.1)).bind fun s13 => (iteO (some (!decide (taken_7 = i6.2))) (((some i6.1).bind fun x17 => (N_minus i6.2 taken_7).bind fun x18 => some (x17, x18)).bind fun x20 => (appO s4.2.2 x20).bind fun kept_19 => some (left_8, s13, kept_19)) (some (left_8, s13, s4.2.2)))))))) rfl (i_seqL (A := (some waters')) (e := (e2 eI (e2 eI eI))) (t_var (i := 0) (e := (eL (e2 eI (e2 eI eI)))) (v := waters') rfl)) (fun i6 s4 z5 => ⟨[.dat ((eL (e2 eI (e2 eI eI))) waters'), .dat ((e2 eI eI) release'), .own (List.map (e2 eI (e2 eI eI)) s4.2.1), .own (List.map (e2 eI (e2 eI eI)) s4.2.2), .dat ((e2 eI eI) s4.1), .dat (eI i6.1), .dat ((e2 eI eI) i6.2), z5.2.2], rfl, (n_seq_set (i := 7) (A := (N_least_ratio [s4.1, i6.2])) (t_call1 (A := (some [s4.1, i6.2])) (N := N_least_ratio) t_least_ratio (t_lstL (L := (some [s4.1, i6.2])) (t_cons (A := (some s4.1)) (L := (some [i6.2])) (t_var (i := 4) (e := (e2 eI eI)) (v := s4.1) rfl) (t_cons (A := (some i6.2)) (L := (some [])) (t_var (i := 6) (e := (e2 eI eI)) (v := i6.2) rfl) (t_nil (α := (Int × Int)) (e := (e2 eI eI))))))) (lt_of rfl) (fun taken_7 => (n_seq_set (i := 4) (A := (N_minus s4.1 taken_7)) (t_call2 (A := (some s4.1)) (B := (some taken_7)) (N := N_minus) t_minus (t_var (i := 4) (e := (e2 eI eI)) (v := s4.1) rfl) (t_var (i := 7) (e := (e2 eI eI)) (v := taken_7) rfl)) (lt_of rfl) (fun left_8 => (n_seq (env2 := (fun (s : ((List (Int × (Int × Int))))) (z : Unit) => [.dat ((eL (e2 eI (e2 eI eI))) waters'), .dat ((e2 eI eI) release'), .own (List.map (e2 eI (e2 eI eI)) s), .own (List.map (e2 eI (e2 eI eI)) s4.2.2), .dat ((e2 eI eI) left_8), .dat (eI i6.1), .dat ((e2 eI eI) i6.2), .dat ((e2 eI eI) taken_7)])) (A := (iteO (some (!decide (taken_7 = ((0 : Int), (1 : Int))))) ((appO s4.2.1 (i6.1, taken_7)).bind fun released_11 => some released_11) (some s4.2.1))) (n_if (P := (some (!decide (taken_7 = ((0 : Int), (1 : Int)))))) (A := ((appO s4.2.1 (i6.1, taken_7)).bind fun released_11 => some released_11)) (B := (some s4.2.1)) (t_T (P := (some (!decide (taken_7 = ((0 : Int), (1 : Int)))))) (t_f2 (A := (some taken_7)) (B := (some ((0 : Int), (1 : Int)))) (h := (fun x9 y10 => some (!decide (x9 = y10)))) (g_ne (enc_2 enc_I enc_I) rfl) (t_var (i := 7) (e := (e2 eI eI)) (v := taken_7) rfl) (t_tup2 (A := (some (0 : Int))) (B := (some (1 : Int))) (t_int (i := 0)) (t_int (i := 1))))) (n_app (i := 2) (A := (some (i6.1, taken_7))) (v := s4.2.1) (K := fun released_11 => released_11) (t_tup2 (A := (some i6.1)) (B := (some taken_7)) (t_var (i := 5) (e := eI) (v := i6.1) rfl) (t_var (i := 7) (e := (e2 eI eI)) (v := taken_7) rfl)) rfl (fun released_11 => ⟨(), rfl⟩)) (n_nil (s := s4.2.1) (z := ()) rfl)) (fun s13 z14 => (n_if (P := (some (!decide (taken_7 = i6.2)))) (A := (((some i6.1).bind fun x17 => (N_minus i6.2 taken_7).bind fun x18 => some (x17, x18)).bind fun x20 => (appO s4.2.2 x20).bind fun kept_19 => some (left_8, s13, kept_19))) (B := (some (left_8, s13, s4.2.2))) (t_T (P := (some (!decide (taken_7 = i6.2)))) (t_f2 (A := (some taken_7)) (B := (some i6.2)) (h := (fun x15 y16 => some (!decide (x15 = y16)))) (g_ne (enc_2 enc_I enc_I) rfl) (t_var (i := 7) (e := (e2 eI eI)) (v := taken_7) rfl) (t_var (i := 6) (e := (e2 eI eI)) (v := i6.2) rfl))) (n_app (i := 3) (A := ((some i6.1).bind fun x17 => (N_minus i6.2 taken_7).bind fun x18 => some (x17, x18))) (v := s4.2.2) (K := fun kept_19 => (left_8, s13, kept_19)) (t_tup2 (A := (some i6.1)) (B := (N_minus i6.2 taken_7)) (t_var (i := 5) (e := eI) (v := i6.1) rfl) (t_call2 (A := (some i6.2)) (B := (some taken_7)) (N := N_minus) t_minus (t_var (i := 6) (e := (e2 eI eI)) (v := i6.2) rfl) (t_var (i := 7) (e := (e2 eI eI)) (v := taken_7) rfl))) rfl (fun kept_19 => ⟨((.dat (eI i6.1) : Slot), (.dat ((e2 eI eI) i6.2) : Slot), (.dat ((e2 eI eI) taken_7) : Slot)), rfl⟩)) (n_nil (s := (left_8, s13, s4.2.2)) (z := ((.dat (eI i6.1) : Slot), (.dat ((e2 eI eI) i6.2) : Slot), (.dat ((e2 eI eI) taken_7) : Slot))) rfl))))))))⟩)) (fun s21 z22 => (r_seq_rel (i := 2) (ea := (e2 eI (e2 eI eI))) (a := s21.2.1) rfl (r_seq_rel (i := 3) (ea := (e2 eI (e2 eI eI))) (a := s21.2.2) rfl (r_ret (A := (some (s21.2.1, s21.2.2))) (t_tup2 (A := (some s21.2.1)) (B := (some s21.2.2)) (t_var (i := 2) (e := (eL (e2 eI (e2 eI eI)))) (v := s21.2.1) rfl) (t_var (i := 3) (e := (eL (e2 eI (e2 eI eI)))) (v := s21.2.2) rfl)))))))))))))
noncomputable def N_waters_of_months (dam' : (Int × Int × Int × (List Int))) (plan' : (List (Int × Int))) : Option (List ((List (Int × (Int × Int))) × (List (Int × (Int × Int))))) := ((N_check_dam dam').bind fun _ => ((N_check_plan dam' plan').bind fun _ => ((some dam').bind fun p1 => ((some [((-(1 : Int)), (p1.2.1, (1 : Int)))]).bind fun kept_2 => ((some []).bind fun months_4 => ((foldO (fun (i9 : (Int × (Int × (Int × Int)))) (s7 : ((List (Int × (Int × Int))) × (List ((List (Int × (Int × Int))) × (List (Int × (Int × Int))))))) => (((catO s7.1 [(i9.1, (i9.2.1, (1 : Int)))]).bind fun a12 => (some i9.2.2).bind fun a13 => N_parted a12 a13).bind fun p14 => ((appO s7.2 p14).bind fun months_15 => some (p14.2, months_15)))) (enumN 0 (List.zip p1.2.2.2 plan')) (kept_2, months_4)).bind fun s17 => (some s17.2)))))))
theorem t_waters_of_months (dam' : (Int × Int × Int × (List Int))) (plan' : (List (Int × Int))) : S_waters_of_months [(e4 eI eI eI (eR eI)) dam', (eR (e2 eI eI)) plan'] = (N_waters_of_months dam' plan').map (eL (e2 (eL (e2 eI (e2 eI eI))) (eL (e2 eI (e2 eI eI))))) := d_run (r_seq_expr (A := (N_check_dam dam')) (t_call1 (A := (some dam')) (N := N_check_dam) t_check_dam (t_var (i := 0) (e := (e4 eI eI eI (eR eI))) (v := dam') rfl)) (r_seq_expr (A := (N_check_plan dam' plan')) (t_call2 (A := (some dam')) (B := (some plan')) (N := N_check_plan) t_check_plan (t_var (i := 0) (e := (e4 eI eI eI (eR eI))) (v := dam') rfl) (t_var (i := 1) (e := (eR (e2 eI eI))) (v := plan') rfl)) (r_seq_bind (A := (some dam')) (envb := fun p1 => [.dat ((e4 eI eI eI (eR eI)) dam'), .dat ((eR (e2 eI eI)) plan'), .dat (eI p1.2.2.1), .dat (eI p1.2.1), .dat ((eR eI) p1.2.2.2), .no, .no, .no, .no, .no, .no]) (t_var (i := 0) (e := (e4 eI eI eI (eR eI))) (v := dam') rfl) (fun _ => rfl) (fun p1 => (r_seq_set (i := 5) (A := (some [((-(1 : Int)), (p1.2.1, (1 : Int)))])) (t_lstL (L := (some [((-(1 : Int)), (p1.2.1, (1 : Int)))])) (t_cons (A := (some ((-(1 : Int)), (p1.2.1, (1 : Int))))) (L := (some [])) (t_tup2 (A := (some (-(1 : Int)))) (B := (some (p1.2.1, (1 : Int)))) (t_f1 (A := (some (1 : Int))) (h := (fun x3 => some (-x3))) g_neg (t_int (i := 1))) (t_tup2 (A := (some p1.2.1)) (B := (some (1 : Int))) (t_var (i := 3) (e := eI) (v := p1.2.1) rfl) (t_int (i := 1)))) (t_nil (α := (Int × (Int × Int))) (e := (e2 eI (e2 eI eI)))))) (lt_of rfl) (fun kept_2 => (r_seq_own (i := 6) (ea := (e2 (eL (e2 eI (e2 eI eI))) (eL (e2 eI (e2 eI eI))))) (A := (some [])) (t_lstL (L := some []) (t_nil (α := ((List (Int × (Int × Int))) × (List (Int × (Int × Int))))) (e := (e2 (eL (e2 eI (e2 eI eI))) (eL (e2 eI (e2 eI eI))))))) (lt_of rfl) (fun months_4 => (r_seq_nx (env := (fun (s : ((List (Int × (Int × Int))) × (List ((List (Int × (Int × Int))) × (List (Int × (Int × Int))))))) (z : (Slot × Slot × Slot × Slot)) => [.dat ((e4 eI eI eI (eR eI)) dam'), .dat ((eR (e2 eI eI)) plan'), .dat (eI p1.2.2.1), .dat (eI p1.2.1), .dat ((eR eI) p1.2.2.2), .dat ((eL (e2 eI (e2 eI eI))) s.1), .own (List.map (e2 (eL (e2 eI (e2 eI eI))) (eL (e2 eI (e2 eI eI)))) s.2), z.1, z.2.1, z.2.2.1, z.2.2.2])) (n_for (env := (fun (s : ((List (Int × (Int × Int))) × (List ((List (Int × (Int × Int))) × (List (Int × (Int × Int))))))) (z : (Slot × Slot × Slot × Slot)) => [.dat ((e4 eI eI eI (eR eI)) dam'), .dat ((eR (e2 eI eI)) plan'), .dat (eI p1.2.2.1), .dat (eI p1.2.1), .dat ((eR eI) p1.2.2.2), .dat ((eL (e2 eI (e2 eI eI))) s.1), .own (List.map (e2 (eL (e2 eI (e2 eI eI))) (eL (e2 eI (e2 eI eI)))) s.2), z.1, z.2.1, z.2.2.1, z.2.2.2])) (s := (kept_2, months_4)) (z := ((.no : Slot), (.no : Slot), (.no : Slot), (.no : Slot))) (L := (some (enumN 0 (List.zip p1.2.2.2 plan')))) (ea := (e2 eI (e2 eI (e2 eI eI)))) (Bd := (fun (i9 : (Int × (Int × (Int × Int)))) (s7 : ((List (Int × (Int × Int))) × (List ((List (Int × (Int × Int))) × (List (Int × (Int × Int))))))) => (((catO s7.1 [(i9.1, (i9.2.1, (1 : Int)))]).bind fun a12 => (some i9.2.2).bind fun a13 => N_parted a12 a13).bind fun p14 => ((appO s7.2 p14).bind fun months_15 => some (p14.2, months_15))))) rfl (i_ez (A := (some p1.2.2.2)) (B := (some plan')) (ea := eI) (eb := (e2 eI eI)) (fun _ _ => rfl) (t_var (i := 4) (e := (eR eI)) (v := p1.2.2.2) rfl) (t_var (i := 1) (e := (eR (e2 eI eI))) (v := plan') rfl)) (fun i9 s7 z8 => ⟨[.dat ((e4 eI eI eI (eR eI)) dam'), .dat ((eR (e2 eI eI)) plan'), .dat (eI p1.2.2.1), .dat (eI p1.2.1), .dat ((eR eI) p1.2.2.2), .dat ((eL (e2 eI (e2 eI eI))) s7.1), .own (List.map (e2 (eL (e2 eI (e2 eI eI))) (eL (e2 eI (e2 eI eI)))) s7.2), .dat (eI i9.1), .dat (eI i9.2.1), .dat ((e2 eI eI) i9.2.2), z8.2.2.2], rfl, (n_seq_bind (A := ((catO s7.1 [(i9.1, (i9.2.1, (1 : Int)))]).bind fun a12 => (some i9.2.2).bind fun a13 => N_parted a12 a13)) (envb := fun p14 => [.dat ((e4 eI eI eI (eR eI)) dam'), .dat ((eR (e2 eI eI)) plan'), .dat (eI p1.2.2.1), .dat (eI p1.2.1), .dat ((eR eI) p1.2.2.2), .dat ((eL (e2 eI (e2 eI eI))) p14.2), .own (List.map (e2 (eL (e2 eI (e2 eI eI))) (eL (e2 eI (e2 eI eI)))) s7.2), .dat (eI i9.1), .dat (eI i9.2.1), .dat ((e2 eI eI) i9.2.2), .dat ((eL (e2 eI (e2 eI eI))) p14.1)]) (t_call2 (A := (catO s7.1 [(i9.1, (i9.2.1, (1 : Int)))])) (B := (some i9.2.2)) (N := N_parted) t_parted (t_f2 (A := (some s7.1)) (B := (some [(i9.1, (i9.2.1, (1 : Int)))])) (h := (fun x10 y11 => (catO x10 y11))) g_addL (t_var (i := 5) (e := (eL (e2 eI (e2 eI eI)))) (v := s7.1) rfl) (t_lstL (L := (some [(i9.1, (i9.2.1, (1 : Int)))])) (t_cons (A := (some (i9.1, (i9.2.1, (1 : Int))))) (L := (some [])) (t_tup2 (A := (some i9.1)) (B := (some (i9.2.1, (1 : Int)))) (t_var (i := 7) (e := eI) (v := i9.1) rfl) (t_tup2 (A := (some i9.2.1)) (B := (some (1 : Int))) (t_var (i := 8) (e := eI) (v := i9.2.1) rfl) (t_int (i := 1)))) (t_nil (α := (Int × (Int × Int))) (e := (e2 eI (e2 eI eI))))))) (t_var (i := 9) (e := (e2 eI eI)) (v := i9.2.2) rfl)) (fun _ => rfl) (fun p14 => (n_app (i := 6) (A := (some p14)) (v := s7.2) (K := fun months_15 => (p14.2, months_15)) (t_tup2 (A := (some p14.1)) (B := (some p14.2)) (t_var (i := 10) (e := (eL (e2 eI (e2 eI eI)))) (v := p14.1) rfl) (t_var (i := 5) (e := (eL (e2 eI (e2 eI eI)))) (v := p14.2) rfl)) rfl (fun months_15 => ⟨((.dat (eI i9.1) : Slot), (.dat (eI i9.2.1) : Slot), (.dat ((e2 eI eI) i9.2.2) : Slot), (.dat ((eL (e2 eI (e2 eI eI))) p14.1) : Slot)), rfl⟩))))⟩)) (fun s17 z18 => (r_seq_rel (i := 6) (ea := (e2 (eL (e2 eI (e2 eI eI))) (eL (e2 eI (e2 eI eI))))) (a := s17.2) rfl (r_ret (A := (some s17.2)) (t_var (i := 6) (e := (eL (e2 (eL (e2 eI (e2 eI eI))) (eL (e2 eI (e2 eI eI)))))) (v := s17.2) rfl)))))))))))))
noncomputable def N_mean_age (released' : (List (Int × (Int × Int)))) (month' : Int) : Option (Int × Int) := (iteO (some (decide (released' = ([] : (List (Int × (Int × Int))))))) (some ((0 : Int), (1 : Int))) (((compL (fun (i4 : (Int × (Int × Int))) => (some true)) (fun (i4 : (Int × (Int × Int))) => (N_times ((month' - i4.1), (1 : Int)) i4.2)) released').bind fun a7 => N_sum_of_ratios a7).bind fun ages_together_3 => ((some ages_together_3).bind fun a10 => ((compL (fun (i8 : (Int × (Int × Int))) => (some true)) (fun (i8 : (Int × (Int × Int))) => (some i8.2)) released').bind fun a9 => N_sum_of_ratios a9).bind fun a11 => N_divided a10 a11)))
theorem t_mean_age (released' : (List (Int × (Int × Int)))) (month' : Int) : S_mean_age [(eL (e2 eI (e2 eI eI))) released', eI month'] = (N_mean_age released' month').map (e2 eI eI) := d_run (r_seq_ifret (P := (some (decide (released' = ([] : (List (Int × (Int × Int)))))))) (A := (some ((0 : Int), (1 : Int)))) (t_T (P := (some (decide (released' = ([] : (List (Int × (Int × Int)))))))) (t_f2 (A := (some released')) (B := (some ([] : (List (Int × (Int × Int)))))) (h := (fun x1 y2 => some (decide (x1 = y2)))) (g_eq (enc_L (enc_2 enc_I (enc_2 enc_I enc_I))) rfl) (t_var (i := 0) (e := (eL (e2 eI (e2 eI eI)))) (v := released') rfl) (t_lstL (L := some []) (t_nil (α := (Int × (Int × Int))) (e := (e2 eI (e2 eI eI))))))) (r_ret (A := (some ((0 : Int), (1 : Int)))) (t_tup2 (A := (some (0 : Int))) (B := (some (1 : Int))) (t_int (i := 0)) (t_int (i := 1)))) (r_seq_set (i := 2) (A := ((compL (fun (i4 : (Int × (Int × Int))) => (some true)) (fun (i4 : (Int × (Int × Int))) => (N_times ((month' - i4.1), (1 : Int)) i4.2)) released').bind fun a7 => N_sum_of_ratios a7)) (t_call1 (A := (compL (fun (i4 : (Int × (Int × Int))) => (some true)) (fun (i4 : (Int × (Int × Int))) => (N_times ((month' - i4.1), (1 : Int)) i4.2)) released')) (N := N_sum_of_ratios) t_sum_of_ratios (t_lc (L := (some released')) (ea := (e2 eI (e2 eI eI))) (eb := (e2 eI eI)) (T := fun (i4 : (Int × (Int × Int))) => (some true)) (Bf := fun (i4 : (Int × (Int × Int))) => (N_times ((month' - i4.1), (1 : Int)) i4.2)) (i_seqL (A := (some released')) (e := (e2 eI (e2 eI eI))) (t_var (i := 0) (e := (eL (e2 eI (e2 eI eI)))) (v := released') rfl)) (fun i4 => ⟨[.dat ((eL (e2 eI (e2 eI eI))) released'), .dat (eI month'), .no, .dat (eI i4.1), .dat ((e2 eI eI) i4.2), .no], rfl, t_yes, (t_call2 (A := (some ((month' - i4.1), (1 : Int)))) (B := (some i4.2)) (N := N_times) t_times (t_tup2 (A := (some (month' - i4.1))) (B := (some (1 : Int))) (t_f2 (A := (some month')) (B := (some i4.1)) (h := (fun x5 y6 => some (x5 - y6))) g_sub (t_var (i := 1) (e := eI) (v := month') rfl) (t_var (i := 3) (e := eI) (v := i4.1) rfl)) (t_int (i := 1))) (t_var (i := 4) (e := (e2 eI eI)) (v := i4.2) rfl))⟩))) (lt_of rfl) (fun ages_together_3 => (r_ret (A := ((some ages_together_3).bind fun a10 => ((compL (fun (i8 : (Int × (Int × Int))) => (some true)) (fun (i8 : (Int × (Int × Int))) => (some i8.2)) released').bind fun a9 => N_sum_of_ratios a9).bind fun a11 => N_divided a10 a11)) (t_call2 (A := (some ages_together_3)) (B := ((compL (fun (i8 : (Int × (Int × Int))) => (some true)) (fun (i8 : (Int × (Int × Int))) => (some i8.2)) released').bind fun a9 => N_sum_of_ratios a9)) (N := N_divided) t_divided (t_var (i := 2) (e := (e2 eI eI)) (v := ages_together_3) rfl) (t_call1 (A := (compL (fun (i8 : (Int × (Int × Int))) => (some true)) (fun (i8 : (Int × (Int × Int))) => (some i8.2)) released')) (N := N_sum_of_ratios) t_sum_of_ratios (t_lc (L := (some released')) (ea := (e2 eI (e2 eI eI))) (eb := (e2 eI eI)) (T := fun (i8 : (Int × (Int × Int))) => (some true)) (Bf := fun (i8 : (Int × (Int × Int))) => (some i8.2)) (i_seqL (A := (some released')) (e := (e2 eI (e2 eI eI))) (t_var (i := 0) (e := (eL (e2 eI (e2 eI eI)))) (v := released') rfl)) (fun i8 => ⟨[.dat ((eL (e2 eI (e2 eI eI))) released'), .dat (eI month'), .dat ((e2 eI eI) ages_together_3), .no, .dat ((e2 eI eI) i8.2), .dat (eI i8.1)], rfl, t_yes, (t_var (i := 4) (e := (e2 eI eI)) (v := i8.2) rfl)⟩))))))))
noncomputable def N_ages (dam' : (Int × Int × Int × (List Int))) (plan' : (List (Int × Int))) : Option (List (Int × Int)) := ((((N_waters_of_months dam' plan').bind fun x1 => some (enumN 0 x1)).bind fun l => compL (fun (i2 : (Int × ((List (Int × (Int × Int))) × (List (Int × (Int × Int)))))) => (some true)) (fun (i2 : (Int × ((List (Int × (Int × Int))) × (List (Int × (Int × Int)))))) => (N_mean_age i2.2.1 i2.1)) l).bind (fun x3 => some x3))
theorem t_ages (dam' : (Int × Int × Int × (List Int))) (plan' : (List (Int × Int))) : S_ages [(e4 eI eI eI (eR eI)) dam', (eR (e2 eI eI)) plan'] = (N_ages dam' plan').map (eR (e2 eI eI)) := d_run (r_ret (A := ((((N_waters_of_months dam' plan').bind fun x1 => some (enumN 0 x1)).bind fun l => compL (fun (i2 : (Int × ((List (Int × (Int × Int))) × (List (Int × (Int × Int)))))) => (some true)) (fun (i2 : (Int × ((List (Int × (Int × Int))) × (List (Int × (Int × Int)))))) => (N_mean_age i2.2.1 i2.1)) l).bind (fun x3 => some x3))) (t_f1 (A := (((N_waters_of_months dam' plan').bind fun x1 => some (enumN 0 x1)).bind fun l => compL (fun (i2 : (Int × ((List (Int × (Int × Int))) × (List (Int × (Int × Int)))))) => (some true)) (fun (i2 : (Int × ((List (Int × (Int × Int))) × (List (Int × (Int × Int)))))) => (N_mean_age i2.2.1 i2.1)) l)) (h := (fun x3 => some x3)) g_tupL (t_lc (L := ((N_waters_of_months dam' plan').bind fun x1 => some (enumN 0 x1))) (ea := (e2 eI (e2 (eL (e2 eI (e2 eI eI))) (eL (e2 eI (e2 eI eI)))))) (eb := (e2 eI eI)) (T := fun (i2 : (Int × ((List (Int × (Int × Int))) × (List (Int × (Int × Int)))))) => (some true)) (Bf := fun (i2 : (Int × ((List (Int × (Int × Int))) × (List (Int × (Int × Int)))))) => (N_mean_age i2.2.1 i2.1)) (i_enumL (A := (N_waters_of_months dam' plan')) (e := (e2 (eL (e2 eI (e2 eI eI))) (eL (e2 eI (e2 eI eI))))) (t_call2 (A := (some dam')) (B := (some plan')) (N := N_waters_of_months) t_waters_of_months (t_var (i := 0) (e := (e4 eI eI eI (eR eI))) (v := dam') rfl) (t_var (i := 1) (e := (eR (e2 eI eI))) (v := plan') rfl))) (fun i2 => ⟨[.dat ((e4 eI eI eI (eR eI)) dam'), .dat ((eR (e2 eI eI)) plan'), .dat (eI i2.1), .dat ((eL (e2 eI (e2 eI eI))) i2.2.1), .dat ((eL (e2 eI (e2 eI eI))) i2.2.2)], rfl, t_yes, (t_call2 (A := (some i2.2.1)) (B := (some i2.1)) (N := N_mean_age) t_mean_age (t_var (i := 3) (e := (eL (e2 eI (e2 eI eI)))) (v := i2.2.1) rfl) (t_var (i := 2) (e := eI) (v := i2.1) rfl))⟩))))
noncomputable def N_oldest (dam' : (Int × Int × Int × (List Int))) (plan' : (List (Int × Int))) : Option (List (Option Int)) := ((((N_waters_of_months dam' plan').bind fun x1 => some (enumN 0 x1)).bind fun l => compL (fun (i2 : (Int × ((List (Int × (Int × Int))) × (List (Int × (Int × Int)))))) => (some true)) (fun (i2 : (Int × ((List (Int × (Int × Int))) × (List (Int × (Int × Int)))))) => (iteO (some (decide (i2.2.2 = ([] : (List (Int × (Int × Int))))))) (some none) (((some i2.1).bind fun x8 => ((atI i2.2.2 (0 : Int)).bind fun x7 => some x7.1).bind fun y9 => some (x8 - y9)).bind fun x10 => some (some x10)))) l).bind (fun x11 => some x11))
theorem t_oldest (dam' : (Int × Int × Int × (List Int))) (plan' : (List (Int × Int))) : S_oldest [(e4 eI eI eI (eR eI)) dam', (eR (e2 eI eI)) plan'] = (N_oldest dam' plan').map (eR (eO eI)) := d_run (r_ret (A := ((((N_waters_of_months dam' plan').bind fun x1 => some (enumN 0 x1)).bind fun l => compL (fun (i2 : (Int × ((List (Int × (Int × Int))) × (List (Int × (Int × Int)))))) => (some true)) (fun (i2 : (Int × ((List (Int × (Int × Int))) × (List (Int × (Int × Int)))))) => (iteO (some (decide (i2.2.2 = ([] : (List (Int × (Int × Int))))))) (some none) (((some i2.1).bind fun x8 => ((atI i2.2.2 (0 : Int)).bind fun x7 => some x7.1).bind fun y9 => some (x8 - y9)).bind fun x10 => some (some x10)))) l).bind (fun x11 => some x11))) (t_f1 (A := (((N_waters_of_months dam' plan').bind fun x1 => some (enumN 0 x1)).bind fun l => compL (fun (i2 : (Int × ((List (Int × (Int × Int))) × (List (Int × (Int × Int)))))) => (some true)) (fun (i2 : (Int × ((List (Int × (Int × Int))) × (List (Int × (Int × Int)))))) => (iteO (some (decide (i2.2.2 = ([] : (List (Int × (Int × Int))))))) (some none) (((some i2.1).bind fun x8 => ((atI i2.2.2 (0 : Int)).bind fun x7 => some x7.1).bind fun y9 => some (x8 - y9)).bind fun x10 => some (some x10)))) l)) (h := (fun x11 => some x11)) g_tupL (t_lc (L := ((N_waters_of_months dam' plan').bind fun x1 => some (enumN 0 x1))) (ea := (e2 eI (e2 (eL (e2 eI (e2 eI eI))) (eL (e2 eI (e2 eI eI)))))) (eb := (eO eI)) (T := fun (i2 : (Int × ((List (Int × (Int × Int))) × (List (Int × (Int × Int)))))) => (some true)) (Bf := fun (i2 : (Int × ((List (Int × (Int × Int))) × (List (Int × (Int × Int)))))) => (iteO (some (decide (i2.2.2 = ([] : (List (Int × (Int × Int))))))) (some none) (((some i2.1).bind fun x8 => ((atI i2.2.2 (0 : Int)).bind fun x7 => some x7.1).bind fun y9 => some (x8 - y9)).bind fun x10 => some (some x10)))) (i_enumL (A := (N_waters_of_months dam' plan')) (e := (e2 (eL (e2 eI (e2 eI eI))) (eL (e2 eI (e2 eI eI))))) (t_call2 (A := (some dam')) (B := (some plan')) (N := N_waters_of_months) t_waters_of_months (t_var (i := 0) (e := (e4 eI eI eI (eR eI))) (v := dam') rfl) (t_var (i := 1) (e := (eR (e2 eI eI))) (v := plan') rfl))) (fun i2 => ⟨[.dat ((e4 eI eI eI (eR eI)) dam'), .dat ((eR (e2 eI eI)) plan'), .dat (eI i2.1), .dat ((eL (e2 eI (e2 eI eI))) i2.2.1), .dat ((eL (e2 eI (e2 eI eI))) i2.2.2)], rfl, t_yes, (t_if (P := (some (decide (i2.2.2 = ([] : (List (Int × (Int × Int)))))))) (A := (some none)) (B := (((some i2.1).bind fun x8 => ((atI i2.2.2 (0 : Int)).bind fun x7 => some x7.1).bind fun y9 => some (x8 - y9)).bind fun x10 => some (some x10))) (t_T (P := (some (decide (i2.2.2 = ([] : (List (Int × (Int × Int)))))))) (t_f2 (A := (some i2.2.2)) (B := (some ([] : (List (Int × (Int × Int)))))) (h := (fun x3 y4 => some (decide (x3 = y4)))) (g_eq (enc_L (enc_2 enc_I (enc_2 enc_I enc_I))) rfl) (t_var (i := 4) (e := (eL (e2 eI (e2 eI eI)))) (v := i2.2.2) rfl) (t_lstL (L := some []) (t_nil (α := (Int × (Int × Int))) (e := (e2 eI (e2 eI eI))))))) (t_none (A := (some ())) (e := eI) t_non) (t_some (A := ((some i2.1).bind fun x8 => ((atI i2.2.2 (0 : Int)).bind fun x7 => some x7.1).bind fun y9 => some (x8 - y9))) (t_f2 (A := (some i2.1)) (B := ((atI i2.2.2 (0 : Int)).bind fun x7 => some x7.1)) (h := (fun x8 y9 => some (x8 - y9))) g_sub (t_var (i := 2) (e := eI) (v := i2.1) rfl) (t_ixc (A := (atI i2.2.2 (0 : Int))) (k := 0) (pr := fun x7 => x7.1) (eb := eI) (fun _ => rfl) (t_f2 (A := (some i2.2.2)) (B := (some (0 : Int))) (h := (fun x5 y6 => (atI x5 y6))) g_ixL (t_var (i := 4) (e := (eL (e2 eI (e2 eI eI)))) (v := i2.2.2) rfl) (t_int (i := 0)))))))⟩))))
def F__law_draw (c__law_plus c__law_by c__law_levels : List PyData → Option PyData) : LF := (lSeq (lParO 0 2 3 (wP 0 (fTup (fCons (fIx (fVar 1) (fLit (.int 1))) (fCons (fLit (.int 1)) fNil)))) (fLst fNil)) (lSeq (lFor (wIt 0 (iRange1 (fLen (fIx (fVar 1) (fLit (.int 3)))))) (bName 4) (lSeq (lSet 5 (wP 0 (fCall 2 c__law_plus (fCons (fVar 2) (fCons (fTup (fCons (fIx (fIx (fVar 1) (fLit (.int 3))) (fVar 4)) (fCons (fLit (.int 1)) fNil))) fNil))))) (lSeq (lSet 6 (wP 0 (fCall 2 c__law_plus (fCons (fVar 5) (fCons (fTup (fCons (fSub (fLit (.int 0)) (fIx (fVar 1) (fLit (.int 0)))) (fCons (fLit (.int 1)) fNil))) fNil))))) (lSeq (lSet 6 (wP 0 (fIf (fT (fGt (fIx (fVar 6) (fLit (.int 0))) (fLit (.int 0)))) (fVar 6) (fTup (fCons (fLit (.int 0)) (fCons (fLit (.int 1)) fNil)))))) (lSeq (lSet 7 (wIf (wT 0 (fT (fLt (fPlus (fVar 4) (fLit (.int 1))) (fLen (fIx (fVar 1) (fLit (.int 3))))))) (wDraw 1 cPick (wCons (wP 0 (fLst (fCons (fTup (fCons (fLit (.int 0)) (fCons (fLit (.int 1)) fNil))) (fCons (fTup (fCons (fLit (.int 1)) (fCons (fLit (.int 1)) fNil))) (fCons (fTup (fCons (fLit (.int 1)) (fCons (fLit (.int 2)) fNil))) (fCons (fTup (fCons (fLit (.int 1)) (fCons (fLit (.int 4)) fNil))) fNil)))))) wNil)) (wP 0 (fTup (fCons (fLit (.int 0)) (fCons (fLit (.int 1)) fNil)))))) (lSeq (lApp 3 (wP 0 (fCall 2 c__law_plus (fCons (fVar 6) (fCons (fCall 2 c__law_by (fCons (fVar 7) (fCons (fCall 2 c__law_plus (fCons (fVar 5) (fCons (fTup (fCons (fSub (fLit (.int 0)) (fIx (fVar 6) (fLit (.int 0)))) (fCons (fIx (fVar 6) (fLit (.int 1))) fNil))) fNil))) fNil))) fNil))))) (lSet 2 (wP 0 (fCall 2 c__law_plus (fCons (fVar 5) (fCons (fTup (fCons (fSub (fLit (.int 0)) (fIx (fIx (fOwn 3) (fNeg (fLit (.int 1)))) (fLit (.int 0)))) (fCons (fIx (fIx (fOwn 3) (fNeg (fLit (.int 1)))) (fLit (.int 1))) fNil))) fNil))))))))))) (lRetV (wP 0 (fIf (fT (fNotN (fCall 2 c__law_levels (fCons (fVar 1) (fCons (fTuple (fOwn 3)) fNil))) (fLit .none))) (fTuple (fOwn 3)) (fLit .none))))))
def W__law_draw (dam' : (Int × Int × Int × (List Int))) (K : (Option (List (Int × Int))) → Prop) : Prop := (∃ v298 : List Int, (range1O ((dam'.2.2.2).length : Int)) = some v298 ∧ wfor (fun (i212 : Int) (s210 : ((Int × Int) × (List (Int × Int)))) (K : ((Int × Int) × (List (Int × Int))) → Prop) => (∃ v220 : (Int × Int), ((some s210.1).bind fun a218 => ((atI dam'.2.2.2 i212).bind fun x216 => (some (1 : Int)).bind fun x217 => some (x216, x217)).bind fun a219 => N__law_plus a218 a219) = some v220 ∧ (∃ v225 : (Int × Int), (N__law_plus v220 (((0 : Int) - dam'.1), (1 : Int))) = some v225 ∧ (∃ b240 : Bool, (some (decide ((i212 + (1 : Int)) < ((dam'.2.2.2).length : Int)))) = some b240 ∧ (b240 = true → (∀ r244 : (Int × Int), r244 ∈ [((0 : Int), (1 : Int)), ((1 : Int), (1 : Int)), ((1 : Int), (2 : Int)), ((1 : Int), (4 : Int))] → (∃ v254 : (Int × Int), ((some (cond (decide ((0 : Int) < v225.1)) v225 ((0 : Int), (1 : Int)))).bind fun a252 => ((some r244).bind fun a250 => (N__law_plus v220 (((0 : Int) - (cond (decide ((0 : Int) < v225.1)) v225 ((0 : Int), (1 : Int))).1), (cond (decide ((0 : Int) < v225.1)) v225 ((0 : Int), (1 : Int))).2)).bind fun a251 => N__law_by a250 a251).bind fun a253 => N__law_plus a252 a253) = some v254 ∧ (s210.2.length ≤ 1000000 ∧ (∃ v270 : (Int × Int), ((some v220).bind fun a268 => (((some (0 : Int)).bind fun x260 => ((atI (s210.2 ++ [v254]) (-(1 : Int))).bind fun x259 => some x259.1).bind fun y261 => some (x260 - y261)).bind fun x266 => ((atI (s210.2 ++ [v254]) (-(1 : Int))).bind fun x265 => some x265.2).bind fun x267 => some (x266, x267)).bind fun a269 => N__law_plus a268 a269) = some v270 ∧ K (v270, (s210.2 ++ [v254]))))))) ∧ (b240 = false → (∃ v280 : (Int × Int), ((some (cond (decide ((0 : Int) < v225.1)) v225 ((0 : Int), (1 : Int)))).bind fun a278 => ((some ((0 : Int), (1 : Int))).bind fun a276 => (N__law_plus v220 (((0 : Int) - (cond (decide ((0 : Int) < v225.1)) v225 ((0 : Int), (1 : Int))).1), (cond (decide ((0 : Int) < v225.1)) v225 ((0 : Int), (1 : Int))).2)).bind fun a277 => N__law_by a276 a277).bind fun a279 => N__law_plus a278 a279) = some v280 ∧ (s210.2.length ≤ 1000000 ∧ (∃ v296 : (Int × Int), ((some v220).bind fun a294 => (((some (0 : Int)).bind fun x286 => ((atI (s210.2 ++ [v280]) (-(1 : Int))).bind fun x285 => some x285.1).bind fun y287 => some (x286 - y287)).bind fun x292 => ((atI (s210.2 ++ [v280]) (-(1 : Int))).bind fun x291 => some x291.2).bind fun x293 => some (x292, x293)).bind fun a295 => N__law_plus a294 a295) = some v296 ∧ K (v296, (s210.2 ++ [v280])))))))))) v298 ((dam'.2.1, (1 : Int)), ([] : (List (Int × Int)))) (fun s300 => (∃ v308 : (Option (List (Int × Int))), (iteO ((N__law_levels dam' s300.2).bind fun x304 => (some ()).bind fun y305 => some x304.isSome) (some (some s300.2)) (some none)) = some v308 ∧ K (v308))))
theorem w__law_draw (dam' : (Int × Int × Int × (List Int))) (K : (Option (List (Int × Int))) → Prop) (Qd : PyData → Prop) (hK : ∀ v, K v → Qd ((eO (eR (e2 eI eI))) v)) (H : W__law_draw dam' K) : runV 8 (F__law_draw S__law_plus S__law_by S__law_levels) [(e4 eI eI eI (eR eI)) dam'] Qd := ⟨(e2 eI eI) (dam'.2.1, (1 : Int)), fun rw => (t_tup2 (A := (some dam'.2.1)) (B := (some (1 : Int))) (t_ixc (A := (some dam')) (k := 1) (pr := fun x207 => x207.2.1) (eb := eI) (fun _ => rfl) (t_var (i := 1) (e := (e4 eI eI eI (eR eI))) (v := dam') rfl)) (t_int (i := 1))), ⟨List.map (e2 eI eI) ([] : (List (Int × Int))), fun rw => (t_lstL (L := some []) (t_nil (α := (Int × Int)) (e := (e2 eI eI)))), lt_of rfl, lt_of rfl, (Exists.elim H fun v298 h299 => ⟨List.map eI v298, fun rw => Eq.trans (i_range1 (A := (some ((dam'.2.2.2).length : Int))) (t_f1 (A := (some dam'.2.2.2)) (h := (fun x209 => some ((x209).length : Int))) g_lenR (t_ixc (A := (some dam')) (k := 3) (pr := fun x208 => x208.2.2.2) (eb := (eR eI)) (fun _ => rfl) (t_var (i := 1) (e := (e4 eI eI eI (eR eI))) (v := dam') rfl)))) (congrArg (Option.map (List.map eI)) h299.1), lfor_of (env := (fun (s : ((Int × Int) × (List (Int × Int)))) (z : (Slot × Slot × Slot × Slot)) => [.no, .dat ((e4 eI eI eI (eR eI)) dam'), .dat ((e2 eI eI) s.1), .own (List.map (e2 eI eI) s.2), z.1, z.2.1, z.2.2.1, z.2.2.2])) (Bd := (fun (i212 : Int) (s210 : ((Int × Int) × (List (Int × Int)))) (K : ((Int × Int) × (List (Int × Int))) → Prop) => (∃ v220 : (Int × Int), ((some s210.1).bind fun a218 => ((atI dam'.2.2.2 i212).bind fun x216 => (some (1 : Int)).bind fun x217 => some (x216, x217)).bind fun a219 => N__law_plus a218 a219) = some v220 ∧ (∃ v225 : (Int × Int), (N__law_plus v220 (((0 : Int) - dam'.1), (1 : Int))) = some v225 ∧ (∃ b240 : Bool, (some (decide ((i212 + (1 : Int)) < ((dam'.2.2.2).length : Int)))) = some b240 ∧ (b240 = true → (∀ r244 : (Int × Int), r244 ∈ [((0 : Int), (1 : Int)), ((1 : Int), (1 : Int)), ((1 : Int), (2 : Int)), ((1 : Int), (4 : Int))] → (∃ v254 : (Int × Int), ((some (cond (decide ((0 : Int) < v225.1)) v225 ((0 : Int), (1 : Int)))).bind fun a252 => ((some r244).bind fun a250 => (N__law_plus v220 (((0 : Int) - (cond (decide ((0 : Int) < v225.1)) v225 ((0 : Int), (1 : Int))).1), (cond (decide ((0 : Int) < v225.1)) v225 ((0 : Int), (1 : Int))).2)).bind fun a251 => N__law_by a250 a251).bind fun a253 => N__law_plus a252 a253) = some v254 ∧ (s210.2.length ≤ 1000000 ∧ (∃ v270 : (Int × Int), ((some v220).bind fun a268 => (((some (0 : Int)).bind fun x260 => ((atI (s210.2 ++ [v254]) (-(1 : Int))).bind fun x259 => some x259.1).bind fun y261 => some (x260 - y261)).bind fun x266 => ((atI (s210.2 ++ [v254]) (-(1 : Int))).bind fun x265 => some x265.2).bind fun x267 => some (x266, x267)).bind fun a269 => N__law_plus a268 a269) = some v270 ∧ K (v270, (s210.2 ++ [v254]))))))) ∧ (b240 = false → (∃ v280 : (Int × Int), ((some (cond (decide ((0 : Int) < v225.1)) v225 ((0 : Int), (1 : Int)))).bind fun a278 => ((some ((0 : Int), (1 : Int))).bind fun a276 => (N__law_plus v220 (((0 : Int) - (cond (decide ((0 : Int) < v225.1)) v225 ((0 : Int), (1 : Int))).1), (cond (decide ((0 : Int) < v225.1)) v225 ((0 : Int), (1 : Int))).2)).bind fun a277 => N__law_by a276 a277).bind fun a279 => N__law_plus a278 a279) = some v280 ∧ (s210.2.length ≤ 1000000 ∧ (∃ v296 : (Int × Int), ((some v220).bind fun a294 => (((some (0 : Int)).bind fun x286 => ((atI (s210.2 ++ [v280]) (-(1 : Int))).bind fun x285 => some x285.1).bind fun y287 => some (x286 - y287)).bind fun x292 => ((atI (s210.2 ++ [v280]) (-(1 : Int))).bind fun x291 => some x291.2).bind fun x293 => some (x292, x293)).bind fun a295 => N__law_plus a294 a295) = some v296 ∧ K (v296, (s210.2 ++ [v280]))))))))))) (fun i212 s210 z211 Q K hK hB => ⟨[.no, .dat ((e4 eI eI eI (eR eI)) dam'), .dat ((e2 eI eI) s210.1), .own (List.map (e2 eI eI) s210.2), .dat (eI i212), z211.2.1, z211.2.2.1, z211.2.2.2], rfl, (Exists.elim hB fun v220 h221 => ⟨(e2 eI eI) v220, fun rw => Eq.trans (t_call2 (A := (some s210.1)) (B := ((atI dam'.2.2.2 i212).bind fun x216 => (some (1 : Int)).bind fun x217 => some (x216, x217))) t__law_plus (t_var (i := 2) (e := (e2 eI eI)) (v := s210.1) rfl) (t_tup2 (A := (atI dam'.2.2.2 i212)) (B := (some (1 : Int))) (t_f2 (A := (some dam'.2.2.2)) (B := (some i212)) (h := (fun x214 y215 => (atI x214 y215))) g_ixR (t_ixc (A := (some dam')) (k := 3) (pr := fun x213 => x213.2.2.2) (eb := (eR eI)) (fun _ => rfl) (t_var (i := 1) (e := (e4 eI eI eI (eR eI))) (v := dam') rfl)) (t_var (i := 4) (e := eI) (v := i212) rfl)) (t_int (i := 1)))) (congrArg (Option.map (e2 eI eI)) h221.1), ⟨_, rfl, (Exists.elim h221.2 fun v225 h226 => ⟨(e2 eI eI) v225, fun rw => Eq.trans (t_call2 (A := (some v220)) (B := (some (((0 : Int) - dam'.1), (1 : Int)))) t__law_plus (t_var (i := 5) (e := (e2 eI eI)) (v := v220) rfl) (t_tup2 (A := (some ((0 : Int) - dam'.1))) (B := (some (1 : Int))) (t_f2 (A := (some (0 : Int))) (B := (some dam'.1)) (h := (fun x223 y224 => some (x223 - y224))) g_sub (t_int (i := 0)) (t_ixc (A := (some dam')) (k := 0) (pr := fun x222 => x222.1) (eb := eI) (fun _ => rfl) (t_var (i := 1) (e := (e4 eI eI eI (eR eI))) (v := dam') rfl))) (t_int (i := 1)))) (congrArg (Option.map (e2 eI eI)) h226.1), ⟨_, rfl, ⟨(e2 eI eI) (cond (decide ((0 : Int) < v225.1)) v225 ((0 : Int), (1 : Int))), fun rw => (t_ifP (b := (decide ((0 : Int) < v225.1))) (x := v225) (y := ((0 : Int), (1 : Int))) (t_T (P := (some (decide ((0 : Int) < v225.1)))) (t_f2 (A := (some v225.1)) (B := (some (0 : Int))) (h := (fun x230 y231 => some (decide (y231 < x230)))) g_gt (t_ixc (A := (some v225)) (k := 0) (pr := fun x227 => x227.1) (eb := eI) (fun _ => rfl) (t_var (i := 6) (e := (e2 eI eI)) (v := v225) rfl)) (t_int (i := 0)))) (t_var (i := 6) (e := (e2 eI eI)) (v := v225) rfl) (t_tup2 (A := (some (0 : Int))) (B := (some (1 : Int))) (t_int (i := 0)) (t_int (i := 1)))), ⟨_, rfl, (Exists.elim h226.2 fun b240 h241 => ⟨b240, fun rw => Eq.trans (t_T (P := (some (decide ((i212 + (1 : Int)) < ((dam'.2.2.2).length : Int))))) (t_f2 (A := (some (i212 + (1 : Int)))) (B := (some ((dam'.2.2.2).length : Int))) (h := (fun x238 y239 => some (decide (x238 < y239)))) g_lt (t_f2 (A := (some i212)) (B := (some (1 : Int))) (h := (fun x232 y233 => some (x232 + y233))) g_add (t_var (i := 4) (e := eI) (v := i212) rfl) (t_int (i := 1))) (t_f1 (A := (some dam'.2.2.2)) (h := (fun x235 => some ((x235).length : Int))) g_lenR (t_ixc (A := (some dam')) (k := 3) (pr := fun x234 => x234.2.2.2) (eb := (eR eI)) (fun _ => rfl) (t_var (i := 1) (e := (e4 eI eI eI (eR eI))) (v := dam') rfl))))) h241.1, if_of (fun e242 => ⟨eL (e2 eI eI) [((0 : Int), (1 : Int)), ((1 : Int), (1 : Int)), ((1 : Int), (2 : Int)), ((1 : Int), (4 : Int))], fun rw => (t_lstL (L := (some [((0 : Int), (1 : Int)), ((1 : Int), (1 : Int)), ((1 : Int), (2 : Int)), ((1 : Int), (4 : Int))])) (t_cons (A := (some ((0 : Int), (1 : Int)))) (L := (some [((1 : Int), (1 : Int)), ((1 : Int), (2 : Int)), ((1 : Int), (4 : Int))])) (t_tup2 (A := (some (0 : Int))) (B := (some (1 : Int))) (t_int (i := 0)) (t_int (i := 1))) (t_cons (A := (some ((1 : Int), (1 : Int)))) (L := (some [((1 : Int), (2 : Int)), ((1 : Int), (4 : Int))])) (t_tup2 (A := (some (1 : Int))) (B := (some (1 : Int))) (t_int (i := 1)) (t_int (i := 1))) (t_cons (A := (some ((1 : Int), (2 : Int)))) (L := (some [((1 : Int), (4 : Int))])) (t_tup2 (A := (some (1 : Int))) (B := (some (2 : Int))) (t_int (i := 1)) (t_int (i := 2))) (t_cons (A := (some ((1 : Int), (4 : Int)))) (L := (some [])) (t_tup2 (A := (some (1 : Int))) (B := (some (4 : Int))) (t_int (i := 1)) (t_int (i := 4))) (t_nil (α := (Int × Int)) (e := (e2 eI eI)))))))), rfl, List.map (e2 eI eI) [((0 : Int), (1 : Int)), ((1 : Int), (1 : Int)), ((1 : Int), (2 : Int)), ((1 : Int), (4 : Int))], rfl, Nat.le_of_ble_eq_true rfl, Nat.le_of_ble_eq_true rfl, pick_of (fun r244 g245 => ⟨_, rfl, (Exists.elim ((h241.2.1 e242) r244 g245) fun v254 h255 => (w_app (e := (e2 eI eI)) (v := s210.2) (x := v254) rfl h255.2.1 (fun rw => Eq.trans (t_call2 (A := (some (cond (decide ((0 : Int) < v225.1)) v225 ((0 : Int), (1 : Int))))) (B := ((some r244).bind fun a250 => (N__law_plus v220 (((0 : Int) - (cond (decide ((0 : Int) < v225.1)) v225 ((0 : Int), (1 : Int))).1), (cond (decide ((0 : Int) < v225.1)) v225 ((0 : Int), (1 : Int))).2)).bind fun a251 => N__law_by a250 a251)) t__law_plus (t_var (i := 6) (e := (e2 eI eI)) (v := (cond (decide ((0 : Int) < v225.1)) v225 ((0 : Int), (1 : Int)))) rfl) (t_call2 (A := (some r244)) (B := (N__law_plus v220 (((0 : Int) - (cond (decide ((0 : Int) < v225.1)) v225 ((0 : Int), (1 : Int))).1), (cond (decide ((0 : Int) < v225.1)) v225 ((0 : Int), (1 : Int))).2))) t__law_by (t_var (i := 7) (e := (e2 eI eI)) (v := r244) rfl) (t_call2 (A := (some v220)) (B := (some (((0 : Int) - (cond (decide ((0 : Int) < v225.1)) v225 ((0 : Int), (1 : Int))).1), (cond (decide ((0 : Int) < v225.1)) v225 ((0 : Int), (1 : Int))).2))) t__law_plus (t_var (i := 5) (e := (e2 eI eI)) (v := v220) rfl) (t_tup2 (A := (some ((0 : Int) - (cond (decide ((0 : Int) < v225.1)) v225 ((0 : Int), (1 : Int))).1))) (B := (some (cond (decide ((0 : Int) < v225.1)) v225 ((0 : Int), (1 : Int))).2)) (t_f2 (A := (some (0 : Int))) (B := (some (cond (decide ((0 : Int) < v225.1)) v225 ((0 : Int), (1 : Int))).1)) (h := (fun x247 y248 => some (x247 - y248))) g_sub (t_int (i := 0)) (t_ixc (A := (some (cond (decide ((0 : Int) < v225.1)) v225 ((0 : Int), (1 : Int))))) (k := 0) (pr := fun x246 => x246.1) (eb := eI) (fun _ => rfl) (t_var (i := 6) (e := (e2 eI eI)) (v := (cond (decide ((0 : Int) < v225.1)) v225 ((0 : Int), (1 : Int)))) rfl))) (t_ixc (A := (some (cond (decide ((0 : Int) < v225.1)) v225 ((0 : Int), (1 : Int))))) (k := 1) (pr := fun x249 => x249.2) (eb := eI) (fun _ => rfl) (t_var (i := 6) (e := (e2 eI eI)) (v := (cond (decide ((0 : Int) < v225.1)) v225 ((0 : Int), (1 : Int)))) rfl)))))) (congrArg (Option.map (e2 eI eI)) h255.1)) (Exists.elim h255.2.2 fun v270 h271 => ⟨(e2 eI eI) v270, fun rw => Eq.trans (t_call2 (A := (some v220)) (B := (((some (0 : Int)).bind fun x260 => ((atI (s210.2 ++ [v254]) (-(1 : Int))).bind fun x259 => some x259.1).bind fun y261 => some (x260 - y261)).bind fun x266 => ((atI (s210.2 ++ [v254]) (-(1 : Int))).bind fun x265 => some x265.2).bind fun x267 => some (x266, x267))) t__law_plus (t_var (i := 5) (e := (e2 eI eI)) (v := v220) rfl) (t_tup2 (A := ((some (0 : Int)).bind fun x260 => ((atI (s210.2 ++ [v254]) (-(1 : Int))).bind fun x259 => some x259.1).bind fun y261 => some (x260 - y261))) (B := ((atI (s210.2 ++ [v254]) (-(1 : Int))).bind fun x265 => some x265.2)) (t_f2 (A := (some (0 : Int))) (B := ((atI (s210.2 ++ [v254]) (-(1 : Int))).bind fun x259 => some x259.1)) (h := (fun x260 y261 => some (x260 - y261))) g_sub (t_int (i := 0)) (t_ixc (A := (atI (s210.2 ++ [v254]) (-(1 : Int)))) (k := 0) (pr := fun x259 => x259.1) (eb := eI) (fun _ => rfl) (t_f2 (A := (some (s210.2 ++ [v254]))) (B := (some (-(1 : Int)))) (h := (fun x257 y258 => (atI x257 y258))) g_ixL (t_own (i := 3) (e := (e2 eI eI)) (v := (s210.2 ++ [v254])) rfl) (t_f1 (A := (some (1 : Int))) (h := (fun x256 => some (-x256))) g_neg (t_int (i := 1)))))) (t_ixc (A := (atI (s210.2 ++ [v254]) (-(1 : Int)))) (k := 1) (pr := fun x265 => x265.2) (eb := eI) (fun _ => rfl) (t_f2 (A := (some (s210.2 ++ [v254]))) (B := (some (-(1 : Int)))) (h := (fun x263 y264 => (atI x263 y264))) g_ixL (t_own (i := 3) (e := (e2 eI eI)) (v := (s210.2 ++ [v254])) rfl) (t_f1 (A := (some (1 : Int))) (h := (fun x262 => some (-x262))) g_neg (t_int (i := 1))))))) (congrArg (Option.map (e2 eI eI)) h271.1), ⟨_, rfl, (hK (v270, (s210.2 ++ [v254])) h271.2 ((.dat (eI i212) : Slot), (.dat ((e2 eI eI) v220) : Slot), (.dat ((e2 eI eI) (cond (decide ((0 : Int) < v225.1)) v225 ((0 : Int), (1 : Int)))) : Slot), (.dat ((e2 eI eI) r244) : Slot)))⟩⟩)))⟩)⟩) (fun e243 => ⟨(e2 eI eI) ((0 : Int), (1 : Int)), fun rw => (t_tup2 (A := (some (0 : Int))) (B := (some (1 : Int))) (t_int (i := 0)) (t_int (i := 1))), ⟨_, rfl, (Exists.elim (h241.2.2 e243) fun v280 h281 => (w_app (e := (e2 eI eI)) (v := s210.2) (x := v280) rfl h281.2.1 (fun rw => Eq.trans (t_call2 (A := (some (cond (decide ((0 : Int) < v225.1)) v225 ((0 : Int), (1 : Int))))) (B := ((some ((0 : Int), (1 : Int))).bind fun a276 => (N__law_plus v220 (((0 : Int) - (cond (decide ((0 : Int) < v225.1)) v225 ((0 : Int), (1 : Int))).1), (cond (decide ((0 : Int) < v225.1)) v225 ((0 : Int), (1 : Int))).2)).bind fun a277 => N__law_by a276 a277)) t__law_plus (t_var (i := 6) (e := (e2 eI eI)) (v := (cond (decide ((0 : Int) < v225.1)) v225 ((0 : Int), (1 : Int)))) rfl) (t_call2 (A := (some ((0 : Int), (1 : Int)))) (B := (N__law_plus v220 (((0 : Int) - (cond (decide ((0 : Int) < v225.1)) v225 ((0 : Int), (1 : Int))).1), (cond (decide ((0 : Int) < v225.1)) v225 ((0 : Int), (1 : Int))).2))) t__law_by (t_var (i := 7) (e := (e2 eI eI)) (v := ((0 : Int), (1 : Int))) rfl) (t_call2 (A := (some v220)) (B := (some (((0 : Int) - (cond (decide ((0 : Int) < v225.1)) v225 ((0 : Int), (1 : Int))).1), (cond (decide ((0 : Int) < v225.1)) v225 ((0 : Int), (1 : Int))).2))) t__law_plus (t_var (i := 5) (e := (e2 eI eI)) (v := v220) rfl) (t_tup2 (A := (some ((0 : Int) - (cond (decide ((0 : Int) < v225.1)) v225 ((0 : Int), (1 : Int))).1))) (B := (some (cond (decide ((0 : Int) < v225.1)) v225 ((0 : Int), (1 : Int))).2)) (t_f2 (A := (some (0 : Int))) (B := (some (cond (decide ((0 : Int) < v225.1)) v225 ((0 : Int), (1 : Int))).1)) (h := (fun x273 y274 => some (x273 - y274))) g_sub (t_int (i := 0)) (t_ixc (A := (some (cond (decide ((0 : Int) < v225.1)) v225 ((0 : Int), (1 : Int))))) (k := 0) (pr := fun x272 => x272.1) (eb := eI) (fun _ => rfl) (t_var (i := 6) (e := (e2 eI eI)) (v := (cond (decide ((0 : Int) < v225.1)) v225 ((0 : Int), (1 : Int)))) rfl))) (t_ixc (A := (some (cond (decide ((0 : Int) < v225.1)) v225 ((0 : Int), (1 : Int))))) (k := 1) (pr := fun x275 => x275.2) (eb := eI) (fun _ => rfl) (t_var (i := 6) (e := (e2 eI eI)) (v := (cond (decide ((0 : Int) < v225.1)) v225 ((0 : Int), (1 : Int)))) rfl)))))) (congrArg (Option.map (e2 eI eI)) h281.1)) (Exists.elim h281.2.2 fun v296 h297 => ⟨(e2 eI eI) v296, fun rw => Eq.trans (t_call2 (A := (some v220)) (B := (((some (0 : Int)).bind fun x286 => ((atI (s210.2 ++ [v280]) (-(1 : Int))).bind fun x285 => some x285.1).bind fun y287 => some (x286 - y287)).bind fun x292 => ((atI (s210.2 ++ [v280]) (-(1 : Int))).bind fun x291 => some x291.2).bind fun x293 => some (x292, x293))) t__law_plus (t_var (i := 5) (e := (e2 eI eI)) (v := v220) rfl) (t_tup2 (A := ((some (0 : Int)).bind fun x286 => ((atI (s210.2 ++ [v280]) (-(1 : Int))).bind fun x285 => some x285.1).bind fun y287 => some (x286 - y287))) (B := ((atI (s210.2 ++ [v280]) (-(1 : Int))).bind fun x291 => some x291.2)) (t_f2 (A := (some (0 : Int))) (B := ((atI (s210.2 ++ [v280]) (-(1 : Int))).bind fun x285 => some x285.1)) (h := (fun x286 y287 => some (x286 - y287))) g_sub (t_int (i := 0)) (t_ixc (A := (atI (s210.2 ++ [v280]) (-(1 : Int)))) (k := 0) (pr := fun x285 => x285.1) (eb := eI) (fun _ => rfl) (t_f2 (A := (some (s210.2 ++ [v280]))) (B := (some (-(1 : Int)))) (h := (fun x283 y284 => (atI x283 y284))) g_ixL (t_own (i := 3) (e := (e2 eI eI)) (v := (s210.2 ++ [v280])) rfl) (t_f1 (A := (some (1 : Int))) (h := (fun x282 => some (-x282))) g_neg (t_int (i := 1)))))) (t_ixc (A := (atI (s210.2 ++ [v280]) (-(1 : Int)))) (k := 1) (pr := fun x291 => x291.2) (eb := eI) (fun _ => rfl) (t_f2 (A := (some (s210.2 ++ [v280]))) (B := (some (-(1 : Int)))) (h := (fun x289 y290 => (atI x289 y290))) g_ixL (t_own (i := 3) (e := (e2 eI eI)) (v := (s210.2 ++ [v280])) rfl) (t_f1 (A := (some (1 : Int))) (h := (fun x288 => some (-x288))) g_neg (t_int (i := 1))))))) (congrArg (Option.map (e2 eI eI)) h297.1), ⟨_, rfl, (hK (v296, (s210.2 ++ [v280])) h297.2 ((.dat (eI i212) : Slot), (.dat ((e2 eI eI) v220) : Slot), (.dat ((e2 eI eI) (cond (decide ((0 : Int) < v225.1)) v225 ((0 : Int), (1 : Int)))) : Slot), (.dat ((e2 eI eI) ((0 : Int), (1 : Int))) : Slot)))⟩⟩)))⟩⟩)⟩)⟩⟩⟩⟩)⟩⟩)⟩) v298 ((dam'.2.1, (1 : Int)), ([] : (List (Int × Int)))) ((.no : Slot), (.no : Slot), (.no : Slot), (.no : Slot)) _ (fun s300 => (∃ v308 : (Option (List (Int × Int))), (iteO ((N__law_levels dam' s300.2).bind fun x304 => (some ()).bind fun y305 => some x304.isSome) (some (some s300.2)) (some none)) = some v308 ∧ K (v308))) (fun s300 k302 z301 => (Exists.elim k302 fun v308 h309 => ⟨(eO (eR (e2 eI eI))) v308, fun rw => Eq.trans (t_if (P := ((N__law_levels dam' s300.2).bind fun x304 => (some ()).bind fun y305 => some x304.isSome)) (A := (some (some s300.2))) (B := (some none)) (t_T (P := ((N__law_levels dam' s300.2).bind fun x304 => (some ()).bind fun y305 => some x304.isSome)) (t_f2 (A := (N__law_levels dam' s300.2)) (B := (some ())) (h := (fun x304 y305 => some x304.isSome)) (g_notN (fun _ => rfl)) (t_call2 (A := (some dam')) (B := (some s300.2)) t__law_levels (t_var (i := 1) (e := (e4 eI eI eI (eR eI))) (v := dam') rfl) (t_f1 (A := (some s300.2)) (h := (fun x303 => some x303)) g_tupL (t_own (i := 3) (e := (e2 eI eI)) (v := s300.2) rfl))) t_non)) (t_some (A := (some s300.2)) (t_f1 (A := (some s300.2)) (h := (fun x306 => some x306)) g_tupL (t_own (i := 3) (e := (e2 eI eI)) (v := s300.2) rfl))) (t_none (A := (some ())) (e := (eR (e2 eI eI))) t_non)) (congrArg (Option.map (eO (eR (e2 eI eI)))) h309.1), ⟨_, rfl, hK _ h309.2⟩⟩)) h299.2⟩)⟩⟩
abbrev Q2 : Type := Int × Int
def val (q : Q2) : Rat := (q.1 : Rat) / (q.2 : Rat)
structure Sz (n : Nat) (q : Q2) : Prop where
  pos : 0 < q.2
  top : q.1.natAbs < 2 ^ n
  bot : q.2.natAbs < 2 ^ n
  low : Nat.gcd q.1.natAbs q.2.natAbs = 1
theorem Sz.mono {n m : Nat} {q : Q2} (h : Sz n q) (hm : n ≤ m) : Sz m q :=
  ⟨h.pos, Nat.lt_of_lt_of_le h.top (Nat.pow_le_pow_right (by decide) hm), Nat.lt_of_lt_of_le h.bot (Nat.pow_le_pow_right (by decide) hm), h.low⟩
def rt (a b : Int) : Q2 := (a / (Nat.gcd a.natAbs b.natAbs : Nat), b / (Nat.gcd a.natAbs b.natAbs : Nat))
theorem cast_pos {b : Int} (h : 0 < b) : (0 : Rat) < (b : Rat) := by
  have := Rat.intCast_lt_intCast (a := 0) (b := b)
  simpa using this.mpr h
theorem cast_ne {b : Int} (h : 0 < b) : (b : Rat) ≠ 0 := fun e => by
  have := cast_pos h
  rw [e] at this
  exact absurd this (by decide)
theorem gcd_pos {a b : Int} (hb : 0 < b) : 0 < Nat.gcd a.natAbs b.natAbs := Nat.gcd_pos_of_pos_right _ (by omega)
theorem rt_parts (a b : Int) (hb : 0 < b) : ∃ g : Int, 0 < g ∧ a = g * (rt a b).1 ∧ b = g * (rt a b).2 ∧ g = (Nat.gcd a.natAbs b.natAbs : Nat) := by
  have hg := gcd_pos (a := a) hb
  have d1 : ((Nat.gcd a.natAbs b.natAbs : Nat) : Int) ∣ a := Int.ofNat_dvd_left.mpr (Nat.gcd_dvd_left _ _)
  have d2 : ((Nat.gcd a.natAbs b.natAbs : Nat) : Int) ∣ b := Int.ofNat_dvd_left.mpr (Nat.gcd_dvd_right _ _)
  exact ⟨_, by omega, (Int.mul_ediv_cancel' d1).symm, (Int.mul_ediv_cancel' d2).symm, rfl⟩
theorem rt_pos {a b : Int} (hb : 0 < b) : 0 < (rt a b).2 := by
  obtain ⟨g, hg, _, h2, _⟩ := rt_parts a b hb
  by_cases h : 0 < (rt a b).2
  · exact h
  · have := Int.mul_le_mul_of_nonneg_left (show (rt a b).2 ≤ 0 by omega) (Int.le_of_lt hg)
    rw [Int.mul_zero] at this
    omega
theorem rt_val {a b : Int} (hb : 0 < b) : val (rt a b) = (a : Rat) / b := by
  obtain ⟨g, hg, h1, h2, _⟩ := rt_parts a b hb
  have hp := cast_ne (rt_pos (a := a) hb)
  have hg' := cast_ne hg
  have e1 : (a : Rat) = (g : Rat) * ((rt a b).1 : Rat) := by rw [← Rat.intCast_mul, ← h1]
  have e2 : (b : Rat) = (g : Rat) * ((rt a b).2 : Rat) := by rw [← Rat.intCast_mul, ← h2]
  unfold val
  rw [e1, e2]
  grind
theorem rt_low {a b : Int} (hb : 0 < b) : Nat.gcd (rt a b).1.natAbs (rt a b).2.natAbs = 1 := by
  obtain ⟨g, hg, h1, h2, h3⟩ := rt_parts a b hb
  have e1 : a.natAbs = g.natAbs * (rt a b).1.natAbs := by rw [← Int.natAbs_mul, ← h1]
  have e2 : b.natAbs = g.natAbs * (rt a b).2.natAbs := by rw [← Int.natAbs_mul, ← h2]
  have e3 : g.natAbs = Nat.gcd a.natAbs b.natAbs := by rw [h3]; simp
  have : Nat.gcd a.natAbs b.natAbs = g.natAbs * Nat.gcd (rt a b).1.natAbs (rt a b).2.natAbs := by
    rw [← Nat.gcd_mul_left, ← e1, ← e2]
  rw [← e3] at this
  have hgn : 0 < g.natAbs := by omega
  exact Nat.eq_of_mul_eq_mul_left hgn (by omega)
theorem rt_small {a b : Int} (hb : 0 < b) : (rt a b).1.natAbs ≤ a.natAbs ∧ (rt a b).2.natAbs ≤ b.natAbs := by
  obtain ⟨g, hg, h1, h2, h3⟩ := rt_parts a b hb
  have e1 : a.natAbs = g.natAbs * (rt a b).1.natAbs := by rw [← Int.natAbs_mul, ← h1]
  have e2 : b.natAbs = g.natAbs * (rt a b).2.natAbs := by rw [← Int.natAbs_mul, ← h2]
  have hgn : 1 ≤ g.natAbs := by omega
  constructor
  · rw [e1]; exact Nat.le_mul_of_pos_left _ hgn
  · rw [e2]; exact Nat.le_mul_of_pos_left _ hgn
theorem rt_sz {a b : Int} {n : Nat} (hb : 0 < b) (h1 : a.natAbs < 2 ^ n) (h2 : b.natAbs < 2 ^ n) : Sz n (rt a b) :=
  ⟨rt_pos hb, Nat.lt_of_le_of_lt (rt_small hb).1 h1, Nat.lt_of_le_of_lt (rt_small hb).2 h2, rt_low hb⟩
theorem low_unique {p q : Q2} (hp : 0 < p.2) (hq : 0 < q.2) (gp : Nat.gcd p.1.natAbs p.2.natAbs = 1) (gq : Nat.gcd q.1.natAbs q.2.natAbs = 1) (h : p.1 * q.2 = q.1 * p.2) : p = q := by
  have d1 : p.2.natAbs ∣ q.2.natAbs := by
    have : p.2.natAbs ∣ p.1.natAbs * q.2.natAbs := by
      rw [← Int.natAbs_mul, h, Int.natAbs_mul]
      exact Nat.dvd_mul_left _ _
    exact (Nat.Coprime.dvd_of_dvd_mul_left (show Nat.Coprime p.2.natAbs p.1.natAbs by rw [Nat.Coprime, Nat.gcd_comm]; exact gp) this)
  have d2 : q.2.natAbs ∣ p.2.natAbs := by
    have : q.2.natAbs ∣ q.1.natAbs * p.2.natAbs := by
      rw [← Int.natAbs_mul, ← h, Int.natAbs_mul]
      exact Nat.dvd_mul_left _ _
    exact (Nat.Coprime.dvd_of_dvd_mul_left (show Nat.Coprime q.2.natAbs q.1.natAbs by rw [Nat.Coprime, Nat.gcd_comm]; exact gq) this)
  have e : p.2 = q.2 := by
    have := Nat.dvd_antisymm d1 d2
    omega
  refine Prod.ext ?_ e
  rw [e] at h
  exact Int.eq_of_mul_eq_mul_right (by omega) h
theorem val_inj {n m : Nat} {p q : Q2} (hp : Sz n p) (hq : Sz m q) (h : val p = val q) : p = q := by
  refine low_unique hp.pos hq.pos hp.low hq.low ?_
  have a := cast_ne hp.pos
  have b := cast_ne hq.pos
  unfold val at h
  have : ((p.1 * q.2 : Int) : Rat) = ((q.1 * p.2 : Int) : Rat) := by
    rw [Rat.intCast_mul, Rat.intCast_mul]
    grind
  exact Rat.intCast_inj.mp this
theorem val_lt {p q : Q2} (hp : 0 < p.2) (hq : 0 < q.2) : val p < val q ↔ p.1 * q.2 < q.1 * p.2 := by
  have a := cast_pos hp
  have b := cast_pos hq
  unfold val
  rw [Rat.div_lt_iff a, ← Rat.intCast_lt_intCast, Rat.intCast_mul, Rat.intCast_mul]
  have e : (q.1 : Rat) / q.2 * p.2 = (q.1 * p.2 : Rat) / q.2 := by
    have := cast_ne hq
    grind
  rw [e, Rat.lt_div_iff b]
theorem sz_int {i : Int} {n : Nat} (h : i.natAbs < 2 ^ n) (hn : 0 < n) : Sz n (i, 1) := ⟨by show (0:Int) < 1; decide, h, by
  show 1 < 2 ^ n
  exact Nat.one_lt_two_pow (by omega), by simp⟩
theorem val_int (i : Int) : val (i, 1) = (i : Rat) := by
  unfold val
  show (i : Rat) / ((1 : Int) : Rat) = i
  have : ((1 : Int) : Rat) = 1 := rfl
  rw [this]
  grind
theorem log2_lt {a : Int} {k : Nat} (h : a.natAbs < 2 ^ k) (hk : 0 < k) : a.natAbs.log2 < k := by
  by_cases h0 : a.natAbs = 0
  · rw [h0]; simpa using hk
  · exact (Nat.log2_lt h0).mpr h
theorem mul_bits {a b : Int} {n m : Nat} (ha : a.natAbs < 2 ^ n) (hb : b.natAbs < 2 ^ m) : (a * b).natAbs < 2 ^ (n + m) := by
  rw [Int.natAbs_mul, Nat.pow_add]
  exact Nat.mul_lt_mul'' ha hb
theorem mul_ok {x y : Int} {n m : Nat} (hx : x.natAbs < 2 ^ n) (hy : y.natAbs < 2 ^ m) (h : n + m ≤ 900000) : mulO x y = some (x * y) := by
  have h1 := log2_lt (k := n + 1) (Nat.lt_of_lt_of_le hx (Nat.pow_le_pow_right (by decide) (by omega))) (by omega)
  have h2 := log2_lt (k := m + 1) (Nat.lt_of_lt_of_le hy (Nat.pow_le_pow_right (by decide) (by omega))) (by omega)
  unfold mulO cMul
  rw [if_pos (decide_eq_true (by omega))]
theorem div_ok {x y : Int} {m : Nat} (h0 : 0 < y) (hy : y.natAbs < 2 ^ m) (h : m ≤ 8990) : divO x y = some (x / y) := by
  have h2 := log2_lt (k := m + 1) (Nat.lt_of_lt_of_le hy (Nat.pow_le_pow_right (by decide) (by omega))) (by omega)
  unfold divO cDiv
  rw [if_pos (decide_eq_true ⟨h0, by omega⟩)]
theorem gcd_bits {a b : Int} {n : Nat} (hb : 0 < b) (h : b.natAbs < 2 ^ n) : ((Nat.gcd a.natAbs b.natAbs : Nat) : Int).natAbs < 2 ^ n := by
  rw [Int.natAbs_natCast]
  exact Nat.lt_of_le_of_lt (Nat.le_of_dvd (by omega) (Nat.gcd_dvd_right _ _)) h
theorem ratio_ok {a b : Int} {n : Nat} (hb : 0 < b) (h : b.natAbs < 2 ^ n) (hn : n ≤ 8990) : N_ratio a b = some (rt a b) := by
  have hg := gcd_pos (a := a) hb
  unfold N_ratio
  rw [Option.bind_some, div_ok (by omega) (gcd_bits hb h) hn, div_ok (by omega) (gcd_bits hb h) hn]
  rfl
theorem gcd_step (a b : Nat) : Nat.gcd a b = Nat.gcd b (a % b) := by
  rw [Nat.gcd_comm a b, Nat.gcd_rec b a, Nat.gcd_comm]
theorem euc_go {T : Int × Int → Option Bool} {Bd : Int × Int → Option (Int × Int)} (hT : ∀ s, T s = some (!decide (s.2 = 0))) (hB : ∀ i j : Nat, 0 < j → Bd ((i : Int), (j : Int)) = some ((j : Int), ((i % j : Nat) : Int))) :
    ∀ (k i j n : Nat), j < 2 ^ k → 2 * k + 1 ≤ n → whileO T Bd n ((i : Int), (j : Int)) = some (((Nat.gcd i j : Nat) : Int), 0) := by
  have stop : ∀ (i n : Nat), 1 ≤ n → whileO T Bd n ((i : Int), ((0 : Nat) : Int)) = some (((Nat.gcd i 0 : Nat) : Int), 0) := by
    intro i n hn
    obtain ⟨n, rfl⟩ : ∃ m, n = m + 1 := ⟨n - 1, by omega⟩
    unfold whileO
    rw [hT]
    simp
  have step : ∀ (i j n : Nat), 0 < j → whileO T Bd (n + 1) ((i : Int), (j : Int)) = whileO T Bd n ((j : Int), ((i % j : Nat) : Int)) := by
    intro i j n hj
    have ew : whileO T Bd (n + 1) ((i : Int), (j : Int)) = (T ((i : Int), (j : Int))).bind fun k => match k with
      | true => (Bd ((i : Int), (j : Int))).bind (whileO T Bd n)
      | false => some ((i : Int), (j : Int)) := rfl
    rw [ew, hT, hB i j hj]
    have : (!decide (((i : Int), (j : Int)).2 = 0)) = true := by simp; omega
    rw [this]
    rfl
  intro k
  induction k with
  | zero =>
    intro i j n hj hn
    have : j = 0 := by simp at hj; omega
    subst this
    exact stop i n (by omega)
  | succ k ih =>
    intro i j n hj hn
    by_cases h0 : j = 0
    · subst h0; exact stop i n (by omega)
    · obtain ⟨n, rfl⟩ : ∃ m, n = m + 1 := ⟨n - 1, by omega⟩
      rw [step i j n (by omega)]
      by_cases h1 : i % j = 0
      · rw [h1, stop j n (by omega)]
        rw [gcd_step i j, h1]
      · obtain ⟨n, rfl⟩ : ∃ m, n = m + 1 := ⟨n - 1, by omega⟩
        rw [step j (i % j) n (by omega)]
        have hr : i % j < j := Nat.mod_lt _ (by omega)
        have hs : j % (i % j) < 2 ^ k := by
          have h2 : j % (i % j) < i % j := Nat.mod_lt _ (by omega)
          have h3 : j % (i % j) + (i % j) ≤ j := by
            have := Nat.div_add_mod j (i % j)
            have h4 : 1 ≤ j / (i % j) := (Nat.le_div_iff_mul_le (by omega)).mpr (by omega)
            have h5 := Nat.mul_le_mul_left (i % j) h4
            omega
          rw [Nat.pow_succ] at hj
          omega
        rw [ih (i % j) (j % (i % j)) n hs (by omega)]
        rw [gcd_step i j, gcd_step j (i % j)]
theorem abs1_eq (a : Int) : abs1 a = (a.natAbs : Int) := by
  unfold abs1
  split <;> omega
theorem law_ratio_ok {a b : Int} {n : Nat} (hb : 0 < b) (h : b.natAbs < 2 ^ n) (hn : n ≤ 8990) : N__law_ratio a b = some (rt a b) := by
  unfold N__law_ratio
  rw [Option.bind_some, Option.bind_some, abs1_eq, abs1_eq]
  have e := euc_go (T := fun s5 : Int × Int => (some (!decide (s5.2 = (0 : Int))))) (Bd := fun s5 : Int × Int => ((some s5.2).bind fun one_12 => (modO s5.1 s5.2).bind fun other_13 => some (one_12, other_13))) (fun s => rfl) (fun i j hj => by
    unfold modO cMod
    rw [if_pos (decide_eq_true (by show ((j : Nat) : Int) ≠ 0; omega))]
    show some (((j : Nat) : Int), ((i : Nat) : Int).fmod ((j : Nat) : Int)) = _
    rw [Int.fmod_eq_emod_of_nonneg _ (by omega)]
    rfl) n a.natAbs b.natAbs FUEL h (by unfold FUEL; omega)
  have e2 : ∀ (f : Int × Int → Option (Int × Int)), ((whileO (fun s5 : Int × Int => (some (!decide (s5.2 = (0 : Int))))) (fun s5 : Int × Int => ((some s5.2).bind fun one_12 => (modO s5.1 s5.2).bind fun other_13 => some (one_12, other_13))) FUEL ((a.natAbs : Int), (b.natAbs : Int))).bind f) = f (((Nat.gcd a.natAbs b.natAbs : Nat) : Int), 0) := fun f => by rw [e]; rfl
  refine (e2 _).trans ?_
  have hg := gcd_pos (a := a) hb
  rw [decide_eq_true hb]
  show (divO a _).bind _ = _
  rw [div_ok (by omega) (gcd_bits hb h) hn, div_ok (by omega) (gcd_bits hb h) hn]
  rfl
theorem cross_bits {p q : Q2} {n m : Nat} (hp : Sz n p) (hq : Sz m q) : (p.1 * q.2 + q.1 * p.2).natAbs < 2 ^ (n + m + 1) ∧ (p.2 * q.2).natAbs < 2 ^ (n + m) ∧ 0 < p.2 * q.2 := by
  refine ⟨?_, mul_bits hp.bot hq.bot, Int.mul_pos hp.pos hq.pos⟩
  have h1 := mul_bits hp.top hq.bot
  have h2 := mul_bits hq.top hp.bot
  rw [Nat.add_comm m n] at h2
  have h3 := Int.natAbs_add_le (p.1 * q.2) (q.1 * p.2)
  rw [Nat.pow_succ]
  omega
theorem pow_up {a : Int} {n m : Nat} (h : a.natAbs < 2 ^ n) (hm : n ≤ m) : a.natAbs < 2 ^ m := Nat.lt_of_lt_of_le h (Nat.pow_le_pow_right (by decide) hm)
theorem plus_val {p q : Q2} (hp : 0 < p.2) (hq : 0 < q.2) : ((p.1 * q.2 + q.1 * p.2 : Int) : Rat) / ((p.2 * q.2 : Int) : Rat) = val p + val q := by
  have a := cast_ne hp
  have b := cast_ne hq
  unfold val
  rw [Rat.intCast_add, Rat.intCast_mul, Rat.intCast_mul, Rat.intCast_mul]
  grind
theorem law_plus_ok {p q : Q2} {n m : Nat} (hp : Sz n p) (hq : Sz m q) (h : n + m + 1 ≤ 8990) : ∃ r, N__law_plus p q = some r ∧ val r = val p + val q ∧ Sz (n + m + 1) r := by
  obtain ⟨h1, h2, h3⟩ := cross_bits hp hq
  refine ⟨rt (p.1 * q.2 + q.1 * p.2) (p.2 * q.2), ?_, (rt_val h3).trans (plus_val hp.pos hq.pos), rt_sz h3 h1 (pow_up h2 (by omega))⟩
  unfold N__law_plus
  rw [mul_ok hp.top hq.bot (by omega), mul_ok hq.top hp.bot (by omega), mul_ok hp.bot hq.bot (by omega)]
  exact law_ratio_ok h3 h2 (by omega)
theorem law_by_ok {p q : Q2} {n m : Nat} (hp : Sz n p) (hq : Sz m q) (h : n + m ≤ 8990) : ∃ r, N__law_by p q = some r ∧ val r = val p * val q ∧ Sz (n + m) r := by
  have h1 := mul_bits hp.top hq.top
  have h2 := mul_bits hp.bot hq.bot
  have h3 : 0 < p.2 * q.2 := Int.mul_pos hp.pos hq.pos
  refine ⟨rt (p.1 * q.1) (p.2 * q.2), ?_, ?_, rt_sz h3 h1 h2⟩
  · unfold N__law_by
    rw [mul_ok hp.top hq.top (by omega), mul_ok hp.bot hq.bot (by omega)]
    exact law_ratio_ok h3 h2 (by omega)
  · rw [rt_val h3]
    have a := cast_ne hp.pos
    have b := cast_ne hq.pos
    unfold val
    rw [Rat.intCast_mul, Rat.intCast_mul]
    grind
theorem law_less_ok {p q : Q2} {n m : Nat} (hp : Sz n p) (hq : Sz m q) (h : n + m ≤ 900000) : N__law_less p q = some (decide (val p < val q)) := by
  unfold N__law_less
  rw [mul_ok hp.top hq.bot (by omega), mul_ok hq.top hp.bot (by omega)]
  simp only [Option.bind_some]
  rw [decide_eq_decide.mpr (val_lt hp.pos hq.pos)]
theorem is_less_ok {p q : Q2} {n m : Nat} (hp : Sz n p) (hq : Sz m q) (h : n + m ≤ 900000) : N_is_less p q = some (decide (val p < val q)) := by
  unfold N_is_less
  rw [mul_ok hp.top hq.bot (by omega), mul_ok hq.top hp.bot (by omega)]
  simp only [Option.bind_some]
  rw [decide_eq_decide.mpr (val_lt hp.pos hq.pos)]
theorem law_is_ratio_ok {p : Q2} {n : Nat} (hp : Sz n p) (hn : n ≤ 8990) : N__law_is_ratio p = some true := by
  unfold N__law_is_ratio
  have e : compL (fun i7 : Int => (some ((!true) || false))) (fun i7 => (some i7)) [p.1, p.2] = some [] := by
    unfold compL
    rw [if_pos (by simp)]
    rfl
  show iteO (some false) _ (iteO (some (!decide ((2 : Int) = 2))) _ (iteO ((compL _ _ [p.1, p.2]).bind _) _ _)) = _
  rw [iteO_f]
  show iteO (some false) _ (iteO ((compL _ _ [p.1, p.2]).bind _) _ _) = _
  rw [iteO_f, e]
  show iteO (some false) _ (andO (some (decide (0 < p.2))) ((N__law_ratio p.1 p.2).bind _)) = _
  rw [iteO_f, decide_eq_true hp.pos, andO_t, law_ratio_ok hp.pos hp.bot hn, Option.bind_some]
  have e2 : rt p.1 p.2 = p := by
    unfold rt
    rw [hp.low]
    simp
  rw [e2]
  simp
section
variable {α β γ σ : Type}
theorem compO_all {B : α → Option β} {g : α → β} : ∀ l : List α, (∀ x ∈ l, B x = some (g x)) → compO (fun _ => some true) B l = some (l.map g)
  | [], _ => rfl
  | x :: r, h => by
    rw [compO_cons, Option.bind_some, h x List.mem_cons_self]
    show ((compO (fun _ => some true) B r).bind fun ys => some (g x :: ys)) = _
    rw [compO_all r fun y hy => h y (List.mem_cons_of_mem _ hy)]
    rfl
theorem compL_all {B : α → Option β} {g : α → β} {l : List α} (hl : l.length ≤ 1000000) (h : ∀ x ∈ l, B x = some (g x)) : compL (fun _ => some true) B l = some (l.map g) := by
  unfold compL
  rw [if_pos hl, compO_all l h]
theorem compL_filter {T : α → Option Bool} {t : α → Bool} {l : List α} (hl : l.length ≤ 1000000) (h : ∀ x ∈ l, T x = some (t x)) : compL T (fun i => some i) l = some (l.filter t) := by
  unfold compL
  rw [if_pos hl, compO_filter l h]
theorem foldO_ind {Bd : α → σ → Option σ} {P : List α → σ → Prop} : ∀ (l : List α) (s : σ), P l s → (∀ x r s, P (x :: r) s → (∀ y ∈ x :: r, y ∈ l) → ∃ s', Bd x s = some s' ∧ P r s') → ∃ s', foldO Bd l s = some s' ∧ P [] s'
  | [], s, h, _ => ⟨s, rfl, h⟩
  | x :: r, s, h, H => by
    obtain ⟨s', h1, h2⟩ := H x r s h fun y hy => hy
    obtain ⟨s2, h3, h4⟩ := foldO_ind r s' h2 fun y q t hp hq => H y q t hp fun z hz => List.mem_cons_of_mem _ (hq z hz)
    refine ⟨s2, ?_, h4⟩
    show (Bd x s).bind (foldO Bd r) = _
    rw [h1]
    exact h3
theorem allO_true {B : α → Option Bool} : ∀ l : List α, (∀ x ∈ l, B x = some true) → allO true B l = some true
  | [], _ => rfl
  | x :: r, h => by
    rw [allO_cons, h x List.mem_cons_self, Option.bind_some, if_pos rfl]
    exact allO_true r fun y hy => h y (List.mem_cons_of_mem _ hy)
end
theorem range1_nat {n : Nat} (h : n ≤ 1000000) : range1O (n : Int) = some ((List.range n).map fun i : Nat => (0 + (i : Int))) := range_self n h
theorem between_ok {i lo hi : Int} : N_is_between i lo hi = some (decide (lo ≤ i) && decide (i ≤ hi)) := by
  unfold N_is_between N_is_whole
  rfl
theorem row_ok {l : List Int} {lo hi : Int} (h : ∀ x ∈ l, lo ≤ x ∧ x ≤ hi) : N_is_row_between l lo hi = some true := by
  unfold N_is_row_between
  rw [andO_t, allO_true l fun x hx => by rw [between_ok, decide_eq_true (h x hx).1, decide_eq_true (h x hx).2]; rfl]
theorem inflows_ok {l : List Int} (h : Flows l) (h0 : 0 < l.length) (h1 : l.length ≤ 12) : N_is_inflows l = some true := by
  unfold N_is_inflows
  rw [row_ok h, andO_t, decide_eq_true (by omega), decide_eq_true (by omega)]
  rfl
theorem DamIn.len {m : Int} {d : DamT} (h : DamIn m d) (hm : m ≤ 12) : d.2.2.2.length ≤ 12 := by
  have := h.l1
  omega
theorem check_dam_ok {m : Int} {d : DamT} (h : DamIn m d) (hm : m ≤ 12) : N_check_dam d = some () := by
  unfold N_check_dam N_is_dam
  rw [Option.bind_some, between_ok, between_ok, between_ok, inflows_ok h.fl h.l0 (h.len hm), decide_eq_true h.c0, decide_eq_true h.c1, decide_eq_true h.s0, decide_eq_true h.s1, decide_eq_true h.e0, decide_eq_true h.e1]
  rfl
theorem least_ratio_ok {n : Nat} {l : List Q2} (hn : n ≤ 4000) (h0 : l ≠ []) (h : ∀ p ∈ l, Sz n p) : ∃ q, N_least_ratio l = some q ∧ q ∈ l ∧ ∀ p ∈ l, val q ≤ val p := by
  cases l with
  | nil => exact absurd rfl h0
  | cons a r =>
    have ha : atI (a :: r) (0 : Int) = some a := atI_nat (l := a :: r) (i := 0) (by simp)
    obtain ⟨q, h1, h2, h3, _⟩ := foldO_ind (Bd := fun i6 s4 => (iteO (N_is_less i6 s4) ((some i6).bind fun least_7 => some least_7) (some s4))) (P := fun rest s => s ∈ a :: r ∧ (∀ p ∈ a :: r, p ∈ rest ∨ val s ≤ val p) ∧ ∀ p ∈ rest, p ∈ a :: r) (a :: r) a ⟨List.mem_cons_self, fun p hp => .inl hp, fun p hp => hp⟩ (fun x rest s ⟨h1, h2, h3⟩ _ => by
      have hx := h x (h3 x List.mem_cons_self)
      have hs := h s h1
      show ∃ s', iteO (N_is_less x s) ((some x).bind fun least_7 => some least_7) (some s) = some s' ∧ _
      rw [is_less_ok hx hs (by omega)]
      by_cases hl : val x < val s
      · rw [decide_eq_true hl]
        refine ⟨x, rfl, h3 x List.mem_cons_self, fun p hp => ?_, fun p hp => h3 p (List.mem_cons_of_mem _ hp)⟩
        rcases h2 p hp with e | e
        · rcases List.mem_cons.mp e with e | e
          · exact .inr (by rw [e]; exact Rat.le_refl)
          · exact .inl e
        · exact .inr (by grind)
      · rw [decide_eq_false hl]
        refine ⟨s, rfl, h1, fun p hp => ?_, fun p hp => h3 p (List.mem_cons_of_mem _ hp)⟩
        rcases h2 p hp with e | e
        · rcases List.mem_cons.mp e with e | e
          · exact .inr (by rw [e]; grind)
          · exact .inl e
        · exact .inr e)
    refine ⟨q, ?_, h2, fun p hp => (h3 p hp).elim (fun z => nomatch z) id⟩
    unfold N_least_ratio
    rw [ha, Option.bind_some, h1]
    rfl
theorem neg_sz {n : Nat} {q : Q2} (h : Sz n q) : Sz n (0 - q.1, q.2) ∧ val (0 - q.1, q.2) = - val q := by
  refine ⟨⟨h.pos, by show (0 - q.1).natAbs < _; have := h.top; omega, h.bot, ?_⟩, ?_⟩
  · show Nat.gcd (0 - q.1).natAbs q.2.natAbs = 1
    have : (0 - q.1).natAbs = q.1.natAbs := by omega
    rw [this]
    exact h.low
  · unfold val
    show ((0 - q.1 : Int) : Rat) / (q.2 : Rat) = _
    rw [Rat.intCast_sub]
    have : ((0 : Int) : Rat) = 0 := rfl
    rw [this]
    grind
theorem val_neg_iff {n : Nat} {q : Q2} (h : Sz n q) : q.1 < 0 ↔ val q < 0 := by
  have := val_lt (p := q) (q := (0, 1)) h.pos (by show (0 : Int) < 1; decide)
  rw [val_int] at this
  have z : ((0 : Int) : Rat) = 0 := rfl
  rw [z] at this
  rw [this]
  simp
theorem range_suffix {α : Type} (f : Nat → α) (j n : Nat) : (List.range' j (n + 1)).map f = f j :: (List.range' (j + 1) n).map f := by
  rw [List.range'_succ, List.map_cons]
theorem foldO_cons {α σ : Type} (Bd : α → σ → Option σ) (x : α) (r : List α) (s : σ) : foldO Bd (x :: r) s = (Bd x s).bind (foldO Bd r) := rfl
theorem filter_none {α : Type} {t : α → Bool} {l : List α} (h : ∀ x ∈ l, t x = false) : l.filter t = [] := by
  rw [List.filter_eq_nil_iff]
  intro x hx
  rw [h x hx]
  decide
theorem compL_none {α : Type} {T : α → Option Bool} {l : List α} (hl : l.length ≤ 1000000) (h : ∀ x ∈ l, T x = some false) : compL T (fun i => some i) l = some [] := by
  rw [compL_filter (t := fun _ => false) hl h, filter_none fun _ _ => rfl]
structure Is (n : Nat) (p : Q2) (v : Rat) : Prop where
  sz : Sz n p
  eq : val p = v
theorem Is.uniq {n m : Nat} {p q : Q2} {v : Rat} (a : Is n p v) (b : Is m q v) : p = q := val_inj a.sz b.sz (a.eq.trans b.eq.symm)
theorem Is.mono {n m : Nat} {p : Q2} {v : Rat} (a : Is n p v) (h : n ≤ m) : Is m p v := ⟨a.sz.mono h, a.eq⟩
theorem is_int {i : Int} {n : Nat} (h : i.natAbs < 2 ^ n) (hn : 0 < n) : Is n (i, 1) (i : Rat) := ⟨sz_int h hn, val_int i⟩
theorem is_neg {n : Nat} {p : Q2} {v : Rat} (a : Is n p v) : Is n (0 - p.1, p.2) (-v) := ⟨(neg_sz a.sz).1, by rw [(neg_sz a.sz).2, a.eq]⟩
section
variable {n m : Nat} {p q : Q2} {a b : Rat}
theorem lplus (hp : Is n p a) (hq : Is m q b) (h : n + m + 1 ≤ 8990) : ∃ r, N__law_plus p q = some r ∧ Is (n + m + 1) r (a + b) := by
  obtain ⟨r, h1, h2, h3⟩ := law_plus_ok hp.sz hq.sz h
  exact ⟨r, h1, h3, by rw [h2, hp.eq, hq.eq]⟩
theorem lby (hp : Is n p a) (hq : Is m q b) (h : n + m ≤ 8990) : ∃ r, N__law_by p q = some r ∧ Is (n + m) r (a * b) := by
  obtain ⟨r, h1, h2, h3⟩ := law_by_ok hp.sz hq.sz h
  exact ⟨r, h1, h3, by rw [h2, hp.eq, hq.eq]⟩
theorem lless (hp : Is n p a) (hq : Is m q b) (h : n + m ≤ 900000) : N__law_less p q = some (decide (a < b)) := by rw [law_less_ok hp.sz hq.sz h, hp.eq, hq.eq]
theorem pless (hp : Is n p a) (hq : Is m q b) (h : n + m ≤ 900000) : N_is_less p q = some (decide (a < b)) := by rw [is_less_ok hp.sz hq.sz h, hp.eq, hq.eq]
theorem pplus (hp : Is n p a) (hq : Is m q b) (h : n + m + 1 ≤ 8990) : ∃ r, N_plus p q = some r ∧ Is (n + m + 1) r (a + b) := by
  obtain ⟨h1, h2, h3⟩ := cross_bits hp.sz hq.sz
  refine ⟨rt (p.1 * q.2 + q.1 * p.2) (p.2 * q.2), ?_, rt_sz h3 h1 (pow_up h2 (by omega)), by rw [rt_val h3, plus_val hp.sz.pos hq.sz.pos, hp.eq, hq.eq]⟩
  unfold N_plus
  rw [mul_ok hp.sz.top hq.sz.bot (by omega), mul_ok hq.sz.top hp.sz.bot (by omega), mul_ok hp.sz.bot hq.sz.bot (by omega)]
  exact ratio_ok h3 h2 (by omega)
theorem pminus (hp : Is n p a) (hq : Is m q b) (h : n + m + 1 ≤ 8990) : ∃ r, N_minus p q = some r ∧ Is (n + m + 1) r (a - b) := by
  have hq' := is_neg hq
  obtain ⟨h1, h2, h3⟩ := cross_bits hp.sz hq'.sz
  have e : p.1 * q.2 + (0 - q.1) * p.2 = p.1 * q.2 - q.1 * p.2 := by rw [Int.zero_sub, Int.neg_mul]; omega
  have hv := plus_val hp.sz.pos hq'.sz.pos
  show ∃ r, N_minus p q = some r ∧ _
  rw [hp.eq, hq'.eq] at hv
  simp only at hv h1 h2 h3
  rw [e] at hv h1
  refine ⟨rt (p.1 * q.2 - q.1 * p.2) (p.2 * q.2), ?_, rt_sz h3 h1 (pow_up h2 (by omega)), by rw [rt_val h3, hv]; grind⟩
  unfold N_minus
  rw [mul_ok hp.sz.top hq.sz.bot (by omega), mul_ok hq.sz.top hp.sz.bot (by omega), mul_ok hp.sz.bot hq.sz.bot (by omega)]
  exact ratio_ok h3 h2 (by omega)
theorem ptimes (hp : Is n p a) (hq : Is m q b) (h : n + m ≤ 8990) : ∃ r, N_times p q = some r ∧ Is (n + m) r (a * b) := by
  have h1 := mul_bits hp.sz.top hq.sz.top
  have h2 := mul_bits hp.sz.bot hq.sz.bot
  have h3 : 0 < p.2 * q.2 := Int.mul_pos hp.sz.pos hq.sz.pos
  refine ⟨rt (p.1 * q.1) (p.2 * q.2), ?_, rt_sz h3 h1 h2, ?_⟩
  · unfold N_times
    rw [mul_ok hp.sz.top hq.sz.top (by omega), mul_ok hp.sz.bot hq.sz.bot (by omega)]
    exact ratio_ok h3 h2 (by omega)
  · rw [rt_val h3, ← hp.eq, ← hq.eq]
    have a := cast_ne hp.sz.pos
    have b := cast_ne hq.sz.pos
    unfold val
    rw [Rat.intCast_mul, Rat.intCast_mul]
    grind
theorem val_pos_iff (hp : 0 < p.2) : 0 < val p ↔ 0 < p.1 := by
  have h := val_lt (p := (0, 1)) (q := p) (by decide) hp
  have e : val (0, 1) = 0 := by rw [val_int]; rfl
  rw [e] at h
  simp only [Int.zero_mul, Int.mul_one] at h
  exact h
theorem pdivided (hp : Is n p a) (hq : Is m q b) (hb : 0 < b) (h : n + m ≤ 8990) : ∃ r, N_divided p q = some r ∧ Is (n + m) r (a / b) := by
  have hq1 : 0 < q.1 := (val_pos_iff hq.sz.pos).mp (by rw [hq.eq]; exact hb)
  have h1 := mul_bits hp.sz.top hq.sz.bot
  have h2 := mul_bits hp.sz.bot hq.sz.top
  have h3 : 0 < p.2 * q.1 := Int.mul_pos hp.sz.pos hq1
  refine ⟨rt (p.1 * q.2) (p.2 * q.1), ?_, rt_sz h3 h1 h2, ?_⟩
  · unfold N_divided
    rw [mul_ok hp.sz.top hq.sz.bot (by omega), mul_ok hp.sz.bot hq.sz.top (by omega), Option.bind_some, Option.bind_some, decide_eq_true h3]
    exact ratio_ok h3 h2 (by omega)
  · rw [rt_val h3, ← hp.eq, ← hq.eq]
    have a := cast_ne hp.sz.pos
    have b := cast_ne hq.sz.pos
    have c := cast_ne hq1
    unfold val
    rw [Rat.intCast_mul, Rat.intCast_mul]
    grind
theorem is_ratio_ok (hp : Sz n p) : N_is_ratio p = some true := by
  unfold N_is_ratio
  show (andO (N_is_whole p.1) (andO (N_is_whole p.2) (some ((decide ((0 : Int) < p.2)) && (decide (((Nat.gcd (p.1).natAbs (p.2).natAbs : Nat) : Int) = (1 : Int))))))) = _
  rw [decide_eq_true hp.pos, decide_eq_true (by have := hp.low; omega)]
  rfl
end
def G (s : Rat) : Rat → List Rat → Rat
  | v, [] => v
  | v, z :: r => G s (v * s + z) r
theorem foldJ_cons {α β σ : Type} (Bd : α → σ → Option (β ⊕ σ)) (x : α) (r : List α) (s : σ) : foldJ Bd (x :: r) s = (Bd x s).bind fun y => match y with
    | .inl v => some (.inl v)
    | .inr s' => foldJ Bd r s' := rfl
def Dy (k : Nat) (v : Rat) : Prop := ∃ i : Int, v * ((4 ^ k : Int) : Rat) = (i : Rat)
theorem pow4_pos (k : Nat) : (0 : Int) < 4 ^ k := Int.pow_pos (by decide)
theorem Dy.int (k : Nat) (i : Int) : Dy k (i : Rat) := ⟨i * 4 ^ k, by rw [Rat.intCast_mul]⟩
theorem Dy.add {k : Nat} {a b : Rat} (ha : Dy k a) (hb : Dy k b) : Dy k (a + b) := by
  obtain ⟨i, hi⟩ := ha
  obtain ⟨j, hj⟩ := hb
  exact ⟨i + j, by rw [Rat.add_mul, hi, hj, Rat.intCast_add]⟩
theorem Dy.neg {k : Nat} {a : Rat} (ha : Dy k a) : Dy k (-a) := by
  obtain ⟨i, hi⟩ := ha
  exact ⟨-i, by rw [Rat.neg_mul, hi, Rat.intCast_neg]⟩
theorem Dy.sub {k : Nat} {a b : Rat} (ha : Dy k a) (hb : Dy k b) : Dy k (a - b) := by
  rw [Rat.sub_eq_add_neg]; exact ha.add hb.neg
theorem four_eq : ((4 : Int) : Rat) = 4 := rfl
theorem Dy.up {k : Nat} {a : Rat} (ha : Dy k a) : Dy (k + 1) a := by
  obtain ⟨i, hi⟩ := ha
  exact ⟨i * 4, by rw [Int.pow_succ, Rat.intCast_mul, ← Rat.mul_assoc, hi, Rat.intCast_mul]⟩
theorem Dy.quarter {k : Nat} {a : Rat} (j : Int) (ha : Dy k a) : Dy (k + 1) ((j : Rat) / 4 * a) := by
  obtain ⟨i, hi⟩ := ha
  refine ⟨j * i, ?_⟩
  rw [Int.pow_succ, Rat.intCast_mul, Rat.intCast_mul, ← hi, four_eq]
  grind
theorem dy_is {k n : Nat} {p : Q2} {v : Rat} (h : Is n p v) (hd : Dy k v) (hk : k ≤ 12) (h0 : -4000 ≤ v) (h1 : v ≤ 4000) : Is 40 p v := by
  obtain ⟨i, hi⟩ := hd
  have hp := pow4_pos k
  have hc : (0 : Rat) < ((4 ^ k : Int) : Rat) := cast_pos hp
  have b4 : (4 : Int) ^ k ≤ 4 ^ 12 := by
    have : (4 : Nat) ^ k ≤ 4 ^ 12 := Nat.pow_le_pow_right (by decide) hk
    exact_mod_cast this
  have i1 : i ≤ 4000 * 4 ^ k := by
    have : (i : Rat) ≤ ((4000 * 4 ^ k : Int) : Rat) := by
      rw [← hi, Rat.intCast_mul]
      exact Rat.mul_le_mul_of_nonneg_right h1 (Rat.le_of_lt hc)
    exact Rat.intCast_le_intCast.mp this
  have i0 : -4000 * 4 ^ k ≤ i := by
    have : ((-4000 * 4 ^ k : Int) : Rat) ≤ (i : Rat) := by
      rw [← hi, Rat.intCast_mul]
      exact Rat.mul_le_mul_of_nonneg_right h0 (Rat.le_of_lt hc)
    exact Rat.intCast_le_intCast.mp this
  have e12 : (4 : Int) ^ 12 = 16777216 := by decide
  have s1 : i.natAbs < 2 ^ 40 := by
    have : (2 : Nat) ^ 40 = 1099511627776 := by decide
    omega
  have s2 : ((4 : Int) ^ k).natAbs < 2 ^ 40 := by
    have : (2 : Nat) ^ 40 = 1099511627776 := by decide
    omega
  have hr : Is 40 (rt i (4 ^ k)) v := ⟨rt_sz hp s1 s2, by rw [rt_val hp, ← hi]; rw [Rat.mul_div_cancel (Rat.ne_of_gt hc)]⟩
  rw [h.uniq hr]
  exact hr
def IsL (n : Nat) : List Q2 → List Rat → Prop
  | [], [] => True
  | q :: qs, v :: vs => Is n q v ∧ IsL n qs vs
  | _, _ => False
theorem IsL.len {n : Nat} : ∀ {qs : List Q2} {vs : List Rat}, IsL n qs vs → qs.length = vs.length
  | [], [], _ => rfl
  | q :: qs, v :: vs, h => by rw [List.length_cons, List.length_cons, IsL.len h.2]
  | [], _ :: _, h => h.elim
  | _ :: _, [], h => h.elim
theorem IsL.snoc {n : Nat} {q : Q2} {v : Rat} (hq : Is n q v) : ∀ {qs : List Q2} {vs : List Rat}, IsL n qs vs → IsL n (qs ++ [q]) (vs ++ [v])
  | [], [], _ => ⟨hq, trivial⟩
  | _ :: _, _ :: _, h => ⟨h.1, IsL.snoc hq h.2⟩
  | [], _ :: _, h => h.elim
  | _ :: _, [], h => h.elim
theorem IsL.uniq {n m : Nat} : ∀ {qs ps : List Q2} {vs : List Rat}, IsL n qs vs → IsL m ps vs → qs = ps
  | [], [], [], _, _ => rfl
  | _ :: _, _ :: _, _ :: _, h, k => by rw [h.1.uniq k.1, IsL.uniq h.2 k.2]
  | [], _ :: _, [], _, k => k.elim
  | _ :: _, _, [], h, _ => h.elim
  | [], _, _ :: _, h, _ => h.elim
  | _ :: _, [], _ :: _, _, k => k.elim
theorem IsL.get {n : Nat} : ∀ {qs : List Q2} {vs : List Rat} {i : Nat}, IsL n qs vs → (h : i < qs.length) → ∃ v, vs[i]? = some v ∧ Is n qs[i] v
  | q :: qs, v :: vs, 0, h, _ => ⟨v, rfl, h.1⟩
  | q :: qs, v :: vs, i + 1, h, hi => IsL.get (i := i) h.2 (by simpa using hi)
  | [], _, _, _, hi => absurd hi (Nat.not_lt_zero _)
  | _ :: _, [], _, h, _ => h.elim
theorem IsL.mono {n m : Nat} (hm : n ≤ m) : ∀ {qs : List Q2} {vs : List Rat}, IsL n qs vs → IsL m qs vs
  | [], [], _ => trivial
  | _ :: _, _ :: _, h => ⟨h.1.mono hm, IsL.mono hm h.2⟩
  | [], _ :: _, h => h.elim
  | _ :: _, [], h => h.elim
theorem IsL.drop {n : Nat} : ∀ {qs : List Q2} {vs : List Rat} (j : Nat), IsL n qs vs → IsL n (qs.drop j) (vs.drop j)
  | _, _, 0, h => h
  | [], [], _ + 1, _ => trivial
  | _ :: _, _ :: _, j + 1, h => IsL.drop j h.2
  | [], _ :: _, _, h => h.elim
  | _ :: _, [], _, h => h.elim
def Lvl (C : Rat) : Nat → Rat → List Int → List Rat → Prop
  | _, _, [], [] => True
  | k, h, x :: xs, p :: ps => 0 ≤ p ∧ Dy (k + 1) p ∧ 0 ≤ h + (x : Rat) - p ∧ h + (x : Rat) - p ≤ C ∧ Lvl C (k + 1) (h + (x : Rat) - p) xs ps
  | _, _, _, _ => False
def fin : Rat → List Int → List Rat → Rat
  | h, x :: xs, p :: ps => fin (h + (x : Rat) - p) xs ps
  | h, _, _ => h
def lvs : Rat → List Int → List Rat → List Rat
  | h, x :: xs, p :: ps => (h + (x : Rat) - p) :: lvs (h + (x : Rat) - p) xs ps
  | _, _, _ => []
theorem Lvl.len {C : Rat} : ∀ {xs : List Int} {ps : List Rat} {k : Nat} {h : Rat}, Lvl C k h xs ps → ps.length = xs.length
  | [], [], _, _, _ => rfl
  | _ :: _, _ :: _, _, _, h => by rw [List.length_cons, List.length_cons, Lvl.len h.2.2.2.2]
  | [], _ :: _, _, _, h => h.elim
  | _ :: _, [], _, _, h => h.elim
theorem Lvl.snoc {C : Rat} {x : Int} {p : Rat} : ∀ {xs : List Int} {ps : List Rat} {k : Nat} {h : Rat}, Lvl C k h xs ps → 0 ≤ p → Dy (k + xs.length + 1) p → 0 ≤ fin h xs ps + (x : Rat) - p → fin h xs ps + (x : Rat) - p ≤ C → Lvl C k h (xs ++ [x]) (ps ++ [p]) ∧ fin h (xs ++ [x]) (ps ++ [p]) = fin h xs ps + (x : Rat) - p
  | [], [], k, h, _, h0, h1, h2, h3 => ⟨⟨h0, h1, h2, h3, trivial⟩, rfl⟩
  | y :: xs, q :: ps, k, h, l, h0, h1, h2, h3 => by
    obtain ⟨a, b⟩ := Lvl.snoc (x := x) (p := p) l.2.2.2.2 h0 (by rw [List.length_cons] at h1; rw [show k + 1 + xs.length + 1 = k + (xs.length + 1) + 1 by omega]; exact h1) h2 h3
    exact ⟨⟨l.1, l.2.1, l.2.2.1, l.2.2.2.1, a⟩, b⟩
  | [], _ :: _, _, _, h, _, _, _, _ => h.elim
  | _ :: _, [], _, _, h, _, _, _, _ => h.elim
def PlanOf (d : DamT) (l : List Q2) : Prop := ∃ ps, IsL 40 l ps ∧ Lvl (d.1 : Rat) 0 (d.2.1 : Rat) d.2.2.2 ps ∧ (d.2.2.1 : Rat) ≤ fin (d.2.1 : Rat) d.2.2.2 ps
theorem atI_last {α : Type} (l : List α) (x : α) : atI (l ++ [x]) (-(1 : Int)) = some x := by
  unfold atI ixN
  simp
  rw [if_pos (by omega)]
  show (l ++ [x])[(-1 + ((l.length : Int) + 1)).toNat]? = some x
  rw [show (-1 + ((l.length : Int) + 1)).toNat = l.length by omega]
  simp
theorem app_ok {α : Type} {l : List α} {x : α} (h : l.length ≤ 1000000) : appO l x = some (l ++ [x]) := if_pos h
theorem wfor_ind {α σ : Type} {Bd : α → σ → (σ → Prop) → Prop} {K : σ → Prop} (P : List α → σ → Prop) (hs : ∀ x r s, P (x :: r) s → ∀ K' : σ → Prop, (∀ s', P r s' → K' s') → Bd x s K') (hk : ∀ s, P [] s → K s) : ∀ l s, P l s → wfor Bd l s K
  | [], s, h => hk s h
  | x :: r, s, h => hs x r s h _ fun s' h' => wfor_ind P hs hk r s' h'
theorem is_int10 {i : Int} (h : -1001 ≤ i ∧ i ≤ 1001) : Is 10 (i, (1 : Int)) (i : Rat) := is_int (by omega) (by decide)
theorem pos_iff {n : Nat} {p : Q2} {v : Rat} (h : Is n p v) : 0 < p.1 ↔ 0 < v := by
  rw [← h.eq]
  exact (val_pos_iff h.sz.1).symm
theorem neg_iff' {n : Nat} {p : Q2} {v : Rat} (h : Is n p v) : p.1 < 0 ↔ v < 0 := by
  rw [val_neg_iff h.sz, h.eq]
theorem foldJ_idx {β σ : Type} {Bd : Int → σ → Option (β ⊕ σ)} (Inv : Nat → σ → Prop) {n : Nat} (hs : ∀ j s, j < n → Inv j s → ∃ s', Bd (0 + (j : Int)) s = some (.inr s') ∧ Inv (j + 1) s') (s : σ) (h : Inv 0 s) : ∃ s', foldJ Bd ((List.range n).map fun i : Nat => (0 + (i : Int))) s = some (.inr s') ∧ Inv n s' := by
  have go : ∀ m j s, j + m = n → Inv j s → ∃ s', foldJ Bd ((List.range' j m).map fun i : Nat => (0 + (i : Int))) s = some (.inr s') ∧ Inv n s' := by
    intro m
    induction m with
    | zero => intro j s e h; exact ⟨s, rfl, by rw [← e]; exact h⟩
    | succ m ih =>
      intro j s e h
      obtain ⟨s1, h1, h2⟩ := hs j s (by omega) h
      obtain ⟨s2, h3, h4⟩ := ih (j + 1) s1 (by omega) h2
      exact ⟨s2, by rw [range_suffix, foldJ_cons, h1]; exact h3, h4⟩
  rw [List.range_eq_range']
  exact go n 0 s (by omega) h
theorem range_idx {n : Nat} (h : n ≤ 1000000) : range1O (n : Int) = some ((List.range n).map fun i : Nat => (0 + (i : Int))) := range1_nat h
theorem turn_law {k : Nat} {q p : Q2} {h v C : Rat} {x : Int} (hq : Is 40 q h) (hd : Dy k h) (hx : 0 ≤ x ∧ x ≤ 1000) (hp : Is 40 p v) (hv : Dy (k + 1) v) (h0 : 0 ≤ h + (x : Rat) - v) (h1 : h + (x : Rat) - v ≤ C) (hC : C ≤ 1000) (hk : k + 1 ≤ 12) :
    ∃ t r, N__law_plus (x, (1 : Int)) ((0 : Int) - p.1, p.2) = some t ∧ N__law_plus q t = some r ∧ Is 40 r (h + (x : Rat) - v) := by
  obtain ⟨t, t1, t2⟩ := lplus (is_int10 (i := x) (by omega)) (is_neg hp) (by decide)
  obtain ⟨r, r1, r2⟩ := lplus hq t2 (by decide)
  refine ⟨t, r, t1, r1, ?_⟩
  have e : h + ((x : Rat) + -v) = h + (x : Rat) - v := by grind
  rw [e] at r2
  exact dy_is r2 ((hd.up.add (Dy.int _ x)).sub hv) hk (by grind) (by grind)
theorem lvl_cons {C : Rat} {k : Nat} {h : Rat} {xs : List Int} {ps : List Rat} {j : Nat} (hj : j < xs.length) (l : Lvl C k h (xs.drop j) (ps.drop j)) : ∃ v, ps[j]? = some v ∧ xs.drop j = xs[j] :: xs.drop (j + 1) ∧ ps.drop j = v :: ps.drop (j + 1) := by
  have e1 : xs.drop j = xs[j] :: xs.drop (j + 1) := List.drop_eq_getElem_cons hj
  have hl := l.len
  rw [List.length_drop, List.length_drop] at hl
  have hj2 : j < ps.length := by omega
  exact ⟨ps[j], List.getElem?_eq_getElem hj2, e1, List.drop_eq_getElem_cons hj2⟩
theorem rangeJ_use {β γ σ : Type} {Bd : Int → σ → Option (β ⊕ σ)} {K : σ → Option β} {R : Option β} {n : Nat} {m : Int} {s : σ} (hm : m = (n : Int)) (hn : n ≤ 1000000) (Inv : Nat → σ → Prop) (hs : ∀ j s, j < n → Inv j s → ∃ s', Bd (0 + (j : Int)) s = some (.inr s') ∧ Inv (j + 1) s') (h0 : Inv 0 s) (hk : ∀ s', Inv n s' → K s' = R) :
    ((range1O m).bind fun l => foldJ Bd l s).bind (outJ K) = R := by
  obtain ⟨s', h1, h2⟩ := foldJ_idx Inv hs s h0
  rw [hm, range_idx hn]
  show (foldJ Bd ((List.range n).map fun i : Nat => (0 + (i : Int))) s).bind (outJ K) = R
  rw [h1]
  exact hk s' h2
theorem lvl_good {C : Rat} : ∀ (l : List Q2) (ps : List Rat) (xs : List Int) (k : Nat) (h : Rat), IsL 40 l ps → Lvl C k h xs ps → ∀ p ∈ l, ∃ v : Rat, Is 40 p v ∧ 0 ≤ v := by
  intro l
  induction l with
  | nil => intro _ _ _ _ _ _ p hp; cases hp
  | cons q l ih =>
    intro ps xs k h a b p hp
    cases ps with
    | nil => exact a.elim
    | cons v ps =>
      cases xs with
      | nil => exact b.elim
      | cons x xs =>
        rcases List.mem_cons.mp hp with e | e
        · rw [e]; exact ⟨v, a.1, b.1⟩
        · exact ih ps xs _ _ a.2 b.2.2.2.2 p e
structure DamR (d : DamT) : Prop where
  n12 : d.2.2.2.length ≤ 12
  c0 : (0 : Rat) ≤ (d.1 : Rat)
  c1 : (d.1 : Rat) ≤ 1000
  s0 : (0 : Rat) ≤ (d.2.1 : Rat)
  s1 : (d.2.1 : Rat) ≤ (d.1 : Rat)
  e0 : (0 : Rat) ≤ (d.2.2.1 : Rat)
  e1 : (d.2.2.1 : Rat) ≤ (d.1 : Rat)
theorem DamIn.rat {d : DamT} (h : DamIn 12 d) : DamR d := by
  have hl := h.l1
  have h1 := h.c0; have h2 := h.c1; have h3 := h.s0; have h4 := h.s1; have h5 := h.e0; have h6 := h.e1
  exact ⟨by omega, by exact_mod_cast h1, by exact_mod_cast h2, by exact_mod_cast h3, by exact_mod_cast h4, by exact_mod_cast h5, by exact_mod_cast h6⟩
theorem flow_get {xs : List Int} (h : Flows xs) {j : Nat} (hj : j < xs.length) : 0 ≤ xs[j] ∧ xs[j] ≤ 1000 := h _ (List.getElem_mem hj)
theorem law_levels_ok {d : DamT} (h : DamIn 12 d) {l : List Q2} {ps : List Rat} (hl : IsL 40 l ps) (hv : Lvl (d.1 : Rat) 0 (d.2.1 : Rat) d.2.2.2 ps) :
    ∃ hs, IsL 40 hs (lvs (d.2.1 : Rat) d.2.2.2 ps) ∧ N__law_levels d l = some (if (d.2.2.1 : Rat) ≤ fin (d.2.1 : Rat) d.2.2.2 ps then some hs else none) := by
  have R := h.rat
  have hn := R.n12
  have c1 := R.c1
  have hlen : l.length = d.2.2.2.length := hl.len.trans hv.len
  have test : compL (fun (i8 : Q2) => (orO ((N__law_is_ratio i8).bind fun b9 => some (!b9)) (some (decide (i8.1 < (0 : Int)))))) (fun i8 => (some i8)) l = some [] := compL_none (by omega) fun p hp => by
    obtain ⟨v, v1, v2⟩ := lvl_good l ps _ 0 _ hl hv p hp
    rw [law_is_ratio_ok v1.sz (by decide)]
    show some (decide (p.1 < 0)) = some false
    rw [decide_eq_false (by have := neg_iff' v1; grind)]
  have key : ∀ (hs : List Q2), IsL 40 hs (lvs (d.2.1 : Rat) d.2.2.2 ps) → N__law_levels d l = some (if (d.2.2.1 : Rat) ≤ fin (d.2.1 : Rat) d.2.2.2 ps then some hs else none) := by
    intro hs hhs
    unfold N__law_levels
    rw [test]
    have t2 : (orO (some (!true)) (orO (some (!decide ((l.length : Int) = (d.2.2.2.length : Int)))) ((some ([] : List Q2)).bind fun x15 => (some ([] : (List (Int × Int)))).bind fun y16 => some (!decide (x15 = y16))))) = some false := by
      rw [hlen]
      simp [orO, iteO]
    rw [t2]
    refine rangeJ_use (n := d.2.2.2.length) (γ := Unit) (by rw [hlen]) (by omega) (fun j s => ∃ (hh : Rat) (vs : List Rat), IsL 40 s.2 vs ∧ Is 40 s.1 hh ∧ Dy j hh ∧ Lvl (d.1 : Rat) j hh (d.2.2.2.drop j) (ps.drop j) ∧ vs ++ lvs hh (d.2.2.2.drop j) (ps.drop j) = lvs (d.2.1 : Rat) d.2.2.2 ps ∧ fin hh (d.2.2.2.drop j) (ps.drop j) = fin (d.2.1 : Rat) d.2.2.2 ps ∧ vs.length = j) ?_ ?_ ?_
    · rintro j ⟨q, acc⟩ hj ⟨hh, vs, a1, a2, a3, a4, a5, a6, a7⟩
      obtain ⟨v, e1, e2, e3⟩ := lvl_cons hj a4
      rw [e2, e3] at a4 a5 a6
      obtain ⟨b1, b2, b3, b4, b5⟩ := a4
      have hj2 : j < l.length := by omega
      obtain ⟨v', f1, f2⟩ := hl.get hj2
      rw [e1] at f1
      cases f1
      obtain ⟨t, r, t1, r1, r2⟩ := turn_law a2 a3 (flow_get h.fl hj) f2 b2 b3 b4 c1 (by omega)
      refine ⟨(r, acc ++ [r]), ?_, _, vs ++ [_], a1.snoc r2, r2, (a3.up.add (Dy.int _ _)).sub b2, b5, by rw [← a5, List.append_assoc]; rfl, a6, by rw [List.length_append, a7]; rfl⟩
      have acl : acc.length ≤ 1000000 := by have : acc.length = vs.length := a1.len; omega
      have less : N__law_less (d.1, (1 : Int)) r = some false := by
        rw [lless (is_int10 (by have := h.c0; have := h.c1; omega)) r2 (by decide), decide_eq_false (by grind)]
      have neg : decide (r.1 < (0 : Int)) = false := decide_eq_false (by have := neg_iff' r2; grind)
      simp only [atI_nat hj, atI_nat hj2, Option.bind_some, t1, r1, less, neg, orO, iteO, app_ok acl]
    · exact ⟨(d.2.1 : Rat), [], trivial, (is_int10 (by have := h.s0; have := h.s1; have := h.c1; omega)).mono (by decide), Dy.int _ _, hv, rfl, rfl, rfl⟩
    · rintro ⟨q, acc⟩ ⟨hh, vs, a1, a2, a3, a4, a5, a6, a7⟩
      have e1 : d.2.2.2.drop d.2.2.2.length = [] := List.drop_length
      rw [e1] at a5 a6
      have e2 : vs = lvs (d.2.1 : Rat) d.2.2.2 ps := by rw [← a5]; simp [lvs]
      have e3 : hh = fin (d.2.1 : Rat) d.2.2.2 ps := by rw [← a6]; simp [fin]
      subst e2 e3
      have e4 : acc = hs := a1.uniq hhs
      show iteO (N__law_less q (d.2.2.1, (1 : Int))) (some none) (some (some acc)) = _
      rw [lless a2 (is_int10 (i := d.2.2.1) (by have := h.e0; have := h.e1; have := h.c1; omega)) (by decide), e4]
      by_cases hc : fin (d.2.1 : Rat) d.2.2.2 ps < (d.2.2.1 : Rat)
      · rw [decide_eq_true hc, if_neg (by grind)]
        rfl
      · rw [decide_eq_false hc, if_pos (by grind)]
        rfl
  have ex : ∀ (xs : List Int) (l : List Q2) (ps : List Rat) (k : Nat) (q : Q2) (hh : Rat), Flows xs → IsL 40 l ps → Lvl (d.1 : Rat) k hh xs ps → Is 40 q hh → Dy k hh → k + xs.length ≤ 12 → ∃ hs, IsL 40 hs (lvs hh xs ps) := by
    intro xs
    induction xs with
    | nil => intro l ps k q hh _ _ _ _ _ _; exact ⟨[], by cases ps <;> exact trivial⟩
    | cons x xs ih =>
      intro l ps k q hh a b c e f g
      cases ps with
      | nil => exact c.elim
      | cons v ps =>
        cases l with
        | nil => exact b.elim
        | cons p l =>
          rw [List.length_cons] at g
          obtain ⟨t, r, t1, r1, r2⟩ := turn_law e f (a x List.mem_cons_self) b.1 c.2.1 c.2.2.1 c.2.2.2.1 c1 (by omega)
          obtain ⟨hs, h1⟩ := ih l ps (k + 1) r _ (fun y hy => a y (List.mem_cons_of_mem _ hy)) b.2 c.2.2.2.2 r2 ((f.up.add (Dy.int _ _)).sub c.2.1) (by omega)
          exact ⟨r :: hs, r2, h1⟩
  obtain ⟨hs, h1⟩ := ex d.2.2.2 l ps 0 (d.2.1, 1) _ h.fl hl hv ((is_int10 (by have := h.s0; have := h.s1; have := h.c1; omega)).mono (by decide)) (Dy.int _ _) (by omega)
  exact ⟨hs, h1, key hs h1⟩
def cDraw : List PyData → (PyData → Prop) → Prop := fun ds Q => ∃ d : DamT, ds = [eDam d] ∧ DamIn 12 d ∧ Q .none ∧ ∀ l, PlanOf d l → Q (eR (e2 eI eI) l)
theorem share_quarter {r : Q2} (hr : r ∈ [((0 : Int), (1 : Int)), ((1 : Int), (1 : Int)), ((1 : Int), (2 : Int)), ((1 : Int), (4 : Int))]) : ∃ j : Int, Is 3 r ((j : Rat) / 4) ∧ 0 ≤ j ∧ j ≤ 4 := by
  have sz : ∀ (a b : Int) (j : Int), 0 < b → a.natAbs < 2 ^ 3 → b.natAbs < 2 ^ 3 → Nat.gcd a.natAbs b.natAbs = 1 → (a : Rat) / (b : Rat) = (j : Rat) / 4 → Is 3 (a, b) ((j : Rat) / 4) := fun a b j h1 h2 h3 h4 h5 => ⟨⟨h1, h2, h3, h4⟩, h5⟩
  simp only [List.mem_cons, List.not_mem_nil, or_false] at hr
  rcases hr with rfl | rfl | rfl | rfl
  · exact ⟨0, sz 0 1 0 (by decide) (by decide) (by decide) (by decide) (by grind), by decide, by decide⟩
  · exact ⟨4, sz 1 1 4 (by decide) (by decide) (by decide) (by decide) (by grind), by decide, by decide⟩
  · exact ⟨2, sz 1 2 2 (by decide) (by decide) (by decide) (by decide) (by grind), by decide, by decide⟩
  · exact ⟨1, sz 1 4 1 (by decide) (by decide) (by decide) (by decide) (by grind), by decide, by decide⟩
theorem turn_draw {k : Nat} {q r : Q2} {h : Rat} {C x : Int} (hq : Is 40 q h) (hd : Dy k h) (h0 : 0 ≤ h) (h1 : h ≤ (C : Rat)) (hx : 0 ≤ x ∧ x ≤ 1000) (hC : 0 ≤ C ∧ C ≤ 1000) (hk : k + 1 ≤ 12) (hr : r ∈ [((0 : Int), (1 : Int)), ((1 : Int), (1 : Int)), ((1 : Int), (2 : Int)), ((1 : Int), (4 : Int))]) :
    ∃ w low t u p z v, N__law_plus q (x, (1 : Int)) = some w ∧ N__law_plus w (((0 : Int) - C), (1 : Int)) = some low ∧
      N__law_plus w ((0 : Int) - (cond (decide ((0 : Int) < low.1)) low ((0 : Int), (1 : Int))).1, (cond (decide ((0 : Int) < low.1)) low ((0 : Int), (1 : Int))).2) = some t ∧ N__law_by r t = some u ∧ N__law_plus (cond (decide ((0 : Int) < low.1)) low ((0 : Int), (1 : Int))) u = some p ∧
      N__law_plus w ((0 : Int) - p.1, p.2) = some z ∧ Is 40 p v ∧ 0 ≤ v ∧ Dy (k + 1) v ∧ 0 ≤ h + (x : Rat) - v ∧ h + (x : Rat) - v ≤ (C : Rat) ∧ Is 40 z (h + (x : Rat) - v) := by
  have rC0 : (0 : Rat) ≤ (C : Rat) := by exact_mod_cast hC.1
  have rC1 : (C : Rat) ≤ 1000 := by exact_mod_cast hC.2
  have rx0 : (0 : Rat) ≤ (x : Rat) := by exact_mod_cast hx.1
  have rx1 : (x : Rat) ≤ 1000 := by exact_mod_cast hx.2
  obtain ⟨j, s1, s2, s3⟩ := share_quarter hr
  have rj0 : (0 : Rat) ≤ (j : Rat) := by exact_mod_cast s2
  have rj1 : (j : Rat) ≤ 4 := by exact_mod_cast s3
  obtain ⟨w, w1, w2⟩ := lplus hq (is_int10 (i := x) (by omega)) (by decide)
  obtain ⟨low, l1, l2⟩ := lplus w2 (is_int10 (i := 0 - C) (by omega)) (by decide)
  have eC : ((0 - C : Int) : Rat) = -(C : Rat) := by rw [Rat.intCast_sub]; grind
  rw [eC] at l2
  have dw : Dy k (h + (x : Rat)) := hd.add (Dy.int _ x)
  obtain ⟨m, m1, m2, m3, m4, m5⟩ : ∃ m : Rat, Is 62 (cond (decide ((0 : Int) < low.1)) low ((0 : Int), (1 : Int))) m ∧ Dy k m ∧ 0 ≤ m ∧ m ≤ h + (x : Rat) ∧ h + (x : Rat) - m ≤ (C : Rat) := by
    have hp := pos_iff l2
    by_cases hc : (0 : Int) < low.1
    · rw [decide_eq_true hc]
      have := hp.mp hc
      exact ⟨_, l2.mono (by decide), dw.add (Dy.int k C).neg, by grind, by grind, by grind⟩
    · rw [decide_eq_false hc]
      have : ¬ 0 < h + (x : Rat) + -(C : Rat) := fun e => hc (hp.mpr e)
      exact ⟨((0 : Int) : Rat), (is_int10 (i := 0) (by decide)).mono (by decide), Dy.int _ _, by grind, by grind, by grind⟩
  obtain ⟨t, t1, t2⟩ := lplus w2 (is_neg m1) (by decide)
  obtain ⟨u, u1, u2⟩ := lby s1 t2 (by decide)
  obtain ⟨p, p1, p2⟩ := lplus m1 u2 (by decide)
  obtain ⟨z, z1, z2⟩ := lplus w2 (is_neg p2) (by decide)
  have room : 0 ≤ h + (x : Rat) + -m := by grind
  have q0 : 0 ≤ (j : Rat) / 4 * (h + (x : Rat) + -m) := Rat.mul_nonneg (by grind) room
  have q1 : (j : Rat) / 4 * (h + (x : Rat) + -m) ≤ 1 * (h + (x : Rat) + -m) := Rat.mul_le_mul_of_nonneg_right (by grind) room
  have dv : Dy (k + 1) (m + (j : Rat) / 4 * (h + (x : Rat) + -m)) := m2.up.add (Dy.quarter j (dw.add m2.neg))
  generalize hv : m + (j : Rat) / 4 * (h + (x : Rat) + -m) = v at *
  have v0 : 0 ≤ v := by grind
  have v1 : v ≤ h + (x : Rat) := by grind
  have v2 : h + (x : Rat) - v ≤ (C : Rat) := by grind
  have e : h + (x : Rat) + -v = h + (x : Rat) - v := by grind
  rw [e] at z2
  exact ⟨w, low, t, u, p, z, v, w1, l1, t1, u1, p1, z1, dy_is p2 dv hk (by grind) (by grind), v0, dv, by grind, v2, dy_is z2 (dw.up.sub dv) hk (by grind) (by grind)⟩
theorem draw_in {d : DamT} {K : Option (List Q2) → Prop} (h : DamIn 12 d) (h0 : K none) (h1 : ∀ l, PlanOf d l → K (some l)) : W__law_draw d K := by
  have R := h.rat
  have hn := R.n12
  have hC : 0 ≤ d.1 ∧ d.1 ≤ 1000 := ⟨h.c0, h.c1⟩
  refine ⟨_, range_idx (by omega), ?_⟩
  refine wfor_ind (fun l s => ∃ (j : Nat) (hh : Rat) (vs : List Rat), l = (List.range' j (d.2.2.2.length - j)).map (fun i : Nat => (0 + (i : Int))) ∧ j ≤ d.2.2.2.length ∧ IsL 40 s.2 vs ∧ Is 40 s.1 hh ∧ Dy j hh ∧ 0 ≤ hh ∧ hh ≤ (d.1 : Rat) ∧ Lvl (d.1 : Rat) 0 (d.2.1 : Rat) (d.2.2.2.take j) vs ∧ fin (d.2.1 : Rat) (d.2.2.2.take j) vs = hh) ?_ ?_ _ _ ?_
  · rintro x r ⟨q, acc⟩ ⟨j, hh, vs, a0, a1, a2, a3, a4, a5, a6, a7, a8⟩ K' hK'
    have hj : j < d.2.2.2.length := by
      by_cases e : j = d.2.2.2.length
      · rw [e, Nat.sub_self] at a0; cases a0
      · omega
    rw [show d.2.2.2.length - j = (d.2.2.2.length - (j + 1)) + 1 by omega, range_suffix] at a0
    injection a0 with a0 ar
    subst a0
    have lv : vs.length = j := by rw [a7.len, List.length_take]; omega
    have acl : acc.length ≤ 1000000 := by have : acc.length = vs.length := a2.len; omega
    have step : ∀ rr ∈ [((0 : Int), (1 : Int)), ((1 : Int), (1 : Int)), ((1 : Int), (2 : Int)), ((1 : Int), (4 : Int))], ∃ w low t u p z, N__law_plus q (d.2.2.2[j], (1 : Int)) = some w ∧ N__law_plus w (((0 : Int) - d.1), (1 : Int)) = some low ∧
      N__law_plus w ((0 : Int) - (cond (decide ((0 : Int) < low.1)) low ((0 : Int), (1 : Int))).1, (cond (decide ((0 : Int) < low.1)) low ((0 : Int), (1 : Int))).2) = some t ∧ N__law_by rr t = some u ∧ N__law_plus (cond (decide ((0 : Int) < low.1)) low ((0 : Int), (1 : Int))) u = some p ∧
      N__law_plus w ((0 : Int) - p.1, p.2) = some z ∧ K' (z, acc ++ [p]) := fun rr hr => by
      obtain ⟨w, low, t, u, p, z, v, b1, b2, b3, b4, b5, b6, b7, b8, b9, b10, b11, b12⟩ := turn_draw a3 a4 a5 a6 (flow_get h.fl hj) hC (by omega) hr
      refine ⟨w, low, t, u, p, z, b1, b2, b3, b4, b5, b6, hK' _ ⟨j + 1, _, vs ++ [v], ar, hj, a2.snoc b7, b12, (a4.up.add (Dy.int _ _)).sub b9, b10, b11, ?_⟩⟩
      have et : d.2.2.2.take (j + 1) = d.2.2.2.take j ++ [d.2.2.2[j]] := by rw [List.take_add_one, List.getElem?_eq_getElem hj]; rfl
      have sn := Lvl.snoc (x := d.2.2.2[j]) (p := v) a7 b8 (by rw [List.length_take, Nat.min_eq_left a1, Nat.zero_add]; exact b9) (by rw [a8]; exact b10) (by rw [a8]; exact b11)
      rw [et]
      exact ⟨sn.1, by rw [sn.2, a8]⟩
    have fin : ∀ rr ∈ [((0 : Int), (1 : Int)), ((1 : Int), (1 : Int)), ((1 : Int), (2 : Int)), ((1 : Int), (4 : Int))], ∀ w low : Q2, N__law_plus q (d.2.2.2[j], (1 : Int)) = some w → N__law_plus w (((0 : Int) - d.1), (1 : Int)) = some low → ∃ p, ((some (cond (decide ((0 : Int) < low.1)) low ((0 : Int), (1 : Int)))).bind fun a252 => ((some rr).bind fun a250 => (N__law_plus w (((0 : Int) - (cond (decide ((0 : Int) < low.1)) low ((0 : Int), (1 : Int))).1), (cond (decide ((0 : Int) < low.1)) low ((0 : Int), (1 : Int))).2)).bind fun a251 => N__law_by a250 a251).bind fun a253 => N__law_plus a252 a253) = some p ∧
        (acc.length ≤ 1000000 ∧ ∃ z, ((some w).bind fun a268 => (((some (0 : Int)).bind fun x260 => ((atI (acc ++ [p]) (-(1 : Int))).bind fun x259 => some x259.1).bind fun y261 => some (x260 - y261)).bind fun x266 => ((atI (acc ++ [p]) (-(1 : Int))).bind fun x265 => some x265.2).bind fun x267 => some (x266, x267)).bind fun a269 => N__law_plus a268 a269) = some z ∧ K' (z, acc ++ [p])) := fun rr hr w low hw hl => by
      obtain ⟨w', low', t, u, p, z, b1, b2, b3, b4, b5, b6, b7⟩ := step rr hr
      rw [hw] at b1
      cases b1
      rw [hl] at b2
      cases b2
      refine ⟨p, ?_, acl, z, ?_, b7⟩
      · simp only [Option.bind_some, b3, b4, b5]
      · simp only [atI_last, Option.bind_some, b6]
    obtain ⟨w, low, _, _, _, _, b1, b2, _⟩ := step ((0 : Int), (1 : Int)) (by simp)
    refine ⟨w, by simp only [atI_nat hj, Option.bind_some, b1], low, b2, _, rfl, fun _ rr hr => fin rr hr w low b1 b2, fun _ => fin _ (by simp) w low b1 b2⟩
  · rintro ⟨q, acc⟩ ⟨j, hh, vs, a0, a1, a2, a3, a4, a5, a6, a7, a8⟩
    have hj : j = d.2.2.2.length := by
      by_cases e : j = d.2.2.2.length
      · exact e
      · rw [show d.2.2.2.length - j = (d.2.2.2.length - (j + 1)) + 1 by omega, range_suffix] at a0
        cases a0
    subst hj
    rw [List.take_length] at a7 a8
    obtain ⟨hs, c1, c2⟩ := law_levels_ok h a2 a7
    show ∃ v308, (iteO ((N__law_levels d acc).bind fun x304 => (some ()).bind fun y305 => some x304.isSome) (some (some acc)) (some none)) = some v308 ∧ K v308
    rw [c2]
    by_cases hc : (d.2.2.1 : Rat) ≤ Ty.fin (d.2.1 : Rat) d.2.2.2 vs
    · rw [if_pos hc]
      exact ⟨_, rfl, h1 acc ⟨vs, a2, a7, hc⟩⟩
    · rw [if_neg hc]
      exact ⟨_, rfl, h0⟩
  · exact ⟨0, (d.2.1 : Rat), [], by rw [List.range_eq_range', Nat.sub_zero], Nat.zero_le _, trivial, (is_int10 (by have := h.s0; have := h.s1; have := h.c1; omega)).mono (by decide), Dy.int _ _, R.s0, R.s1, trivial, rfl⟩
theorem draw_ok : ∀ ds Q, cDraw ds Q → runV 8 (F__law_draw S__law_plus S__law_by S__law_levels) ds Q := by
  rintro ds Q ⟨d, rfl, h0, h1, h2⟩
  exact w__law_draw d (fun v => Q ((eO (eR (e2 eI eI))) v)) Q (fun v h => h) (draw_in h0 h1 fun l hl => h2 l hl)
section
variable {α β : Type} {ea : α → PyData} {eb : β → PyData} {k l : Nat}
def l2 (ea : α → PyData) (eb : β → PyData) (p : α × β) : PyData := .list [ea p.1, eb p.2]
theorem enc_l2 [DecidableEq α] [DecidableEq β] (E : Enc k ea) (F : Enc l eb) : Enc (max k l + 1) (l2 ea eb) := ⟨fun p => by simp only [l2, PyData.canLay0, PyData.canLayAll0, E.lay, F.lay, Bool.and_true], fun p => by
  simp only [l2, PyData.depth, PyData.depthAll]; have := E.dep p.1; have := F.dep p.2; omega, fun p q => by
  simp only [l2, PyData.eqv, PyData.eqvAll, E.eq, F.eq]
  obtain ⟨a, b⟩ := p
  obtain ⟨c, d⟩ := q
  by_cases h1 : a = c <;> by_cases h2 : b = d <;> simp [h1, h2]⟩
variable {en : En} {f g : En → Option PyData} {A : Option α} {B : Option β}
theorem t_lst2 (pa : f en = A.map ea) (pb : g en = B.map eb) : fLst (fCons f (fCons g fNil)) en = (A.bind fun x => B.bind fun y => some (x, y)).map (l2 ea eb) := by
  unfold fLst fCons fNil
  rw [pa, pb]
  cases A <;> cases B <;> rfl
end
end Ty
namespace DN
open PySem PySem.Spec PyProof.Rows L2
section
variable {α β γ ξ : Type} {f g h : En → Option PyData} {G : En → Option Fl} {en : En} {ea : α → PyData} {eb : β → PyData} {ec : γ → PyData} {er : ξ → PyData} {i j l : Nat}
theorem par3B_eq {A : Option (List α)} {B : Option (List β)} {C : Option (List γ)} (p : f en = A.map (eL ea)) (p2 : g en = B.map (eL eb)) (p3 : h en = C.map (eL ec)) (hi : i < en.length) (hj : j < en.length) (hl : l < en.length) : sPar3B i j l f g h en = A.bind fun x => B.bind fun y => C.bind fun z => some (.nx (((en.set i (.own (List.map ea x))).set j (.own (List.map eb y))).set l (.own (List.map ec z)))) := by
  unfold sPar3B
  rw [p, p2, p3]
  cases A with
  | none => cases B <;> cases C <;> rfl
  | some a => cases B with
    | none => cases C <;> rfl
    | some b => cases C with
      | none => rfl
      | some c =>
        show (if i < en.length ∧ j < en.length ∧ l < en.length then some (Fl.nx (((en.set i (.own (a.map ea))).set j (.own (b.map eb))).set l (.own (c.map ec)))) else none) = _
        rw [if_pos ⟨hi, hj, hl⟩]
        rfl
theorem r_seq_par3B {A : Option (List α)} {B : Option (List β)} {C : Option (List γ)} {K : List α → List β → List γ → Option ξ} (p : f en = A.map (eL ea)) (p2 : g en = B.map (eL eb)) (p3 : h en = C.map (eL ec)) (hi : i < en.length) (hj : j < en.length) (hl : l < en.length) (q : ∀ x y z, G (((en.set i (.own (List.map ea x))).set j (.own (List.map eb y))).set l (.own (List.map ec z))) = rtO er (K x y z)) : sSeq (sPar3B i j l f g h) G en = rtO er (A.bind fun x => B.bind fun y => C.bind fun z => K x y z) := by
  unfold sSeq
  rw [par3B_eq p p2 p3 hi hj hl]
  cases A with
  | none => rfl
  | some a => cases B with
    | none => rfl
    | some b => cases C with
      | none => rfl
      | some c => exact q a b c
end
end DN
namespace DN
open PySem PySem.Spec PyProof.Rows L2 Ty
section
variable {α β γ ξ σ ζ : Type} {en : En} {f g h : En → Option PyData} {F G : En → Option Fl} {ea : α → PyData} {eb : β → PyData} {ec : γ → PyData} {A : Option α} {B : Option β} {C : Option (List γ)} {i j l : Nat} {env : σ → ζ → En}
theorem j_seq_par3O {K : α → β → List γ → Option (ξ ⊕ σ)} {e : ξ → PyData} (p : f en = A.map ea) (p1 : g en = B.map eb) (p2 : h en = C.map (eL ec)) (hi : i < en.length) (hj : j < en.length) (hl : l < en.length) (q : ∀ x y z, JX (G (((en.set i (.dat (ea x))).set j (.dat (eb y))).set l (.own (List.map ec z)))) (K x y z) e env) : JX (sSeq (sPar3O i j l f g h) G en) (A.bind fun x => B.bind fun y => C.bind fun z => K x y z) e env := by
  unfold sSeq
  rw [par3O_eq p p1 p2 hi hj hl]
  cases A with
  | none => exact rfl
  | some a => cases B with
    | none => exact rfl
    | some b => cases C with
      | none => exact rfl
      | some c => exact q a b c
theorem j_seq_rel {a : List α} {K : Option (ξ ⊕ σ)} {e : ξ → PyData} (ho : en[i]? = some (.own (a.map ea))) (q : JX (G (en.set i (.dat (eL ea a)))) K e env) : JX (sSeq (sRel i) G en) K e env := by
  unfold sSeq sRel
  rw [ho]
  exact q
theorem n_own {A : Option (List α)} {K : List α → σ} (p : f en = A.map (eL ea)) (hi : i < en.length) (q : ∀ x : List α, ∃ z, en.set i (.own (x.map ea)) = env (K x) z) : NX (sOwn i f en) (A.bind fun x => some (K x)) env := by
  unfold sOwn
  rw [p]
  cases A with
  | none => exact rfl
  | some a =>
    obtain ⟨z, e⟩ := q a
    refine ⟨z, ?_⟩
    show (if i < en.length then some (Fl.nx (en.set i (.own (a.map ea)))) else none) = _
    rw [if_pos hi, e]
end
end DN
namespace L40
open PySem PySem.Spec PyProof.Rows L2 DN Ty
def F_row : En → Option PyData := (fLst (fCons (fVar 0) (fCons (fLit (.int 0)) (fCons (fLit (.int 4440)) (fCons (fLit (.int 0)) fNil)))))
def F_tail (c__law_less c__law_plus c__law_by c__law_alike c_ages c_oldest c__law_levels c__law_sum : List PyData → Option PyData) : En → Option Fl := (sSeq (sPar3B 4 5 6 (fLst (fCons (fLst (fCons (fLit (.int 1)) (fCons (fTup (fCons (fIx (fVar 2) (fLit (.int 1))) (fCons (fLit (.int 1)) fNil))) fNil))) fNil)) (fLst fNil) (fLst fNil)) (sSeq (sFor (iRange1 (fLen (fVar 3))) (bName 7) (sSeq (sApp 4 (fLst (fCons (fLit (.int 0)) (fCons (fTup (fCons (fIx (fIx (fVar 2) (fLit (.int 3))) (fVar 7)) (fCons (fLit (.int 1)) fNil))) fNil)))) (sSeq (sPar3O 8 9 10 (fIx (fVar 3) (fVar 7)) (fTup (fCons (fLit (.int 0)) (fCons (fLit (.int 1)) fNil))) (fLst fNil)) (sSeq (sRel 4) (sSeq (sFor (iSeq (fVar 4)) (bLst [11, 12]) (sSeq (sSet 13 (fIf (fT (fCall 2 c__law_less (fCons (fVar 8) (fCons (fVar 12) fNil)))) (fVar 8) (fVar 12))) (sSeq (sSet 9 (fCall 2 c__law_plus (fCons (fVar 9) (fCons (fCall 2 c__law_by (fCons (fTup (fCons (fVar 11) (fCons (fLit (.int 1)) fNil))) (fCons (fVar 13) fNil))) fNil)))) (sSeq (sSet 8 (fCall 2 c__law_plus (fCons (fVar 8) (fCons (fTup (fCons (fSub (fLit (.int 0)) (fIx (fVar 13) (fLit (.int 0)))) (fCons (fIx (fVar 13) (fLit (.int 1))) fNil))) fNil)))) (sApp 10 (fLst (fCons (fVar 11) (fCons (fCall 2 c__law_plus (fCons (fVar 12) (fCons (fTup (fCons (fSub (fLit (.int 0)) (fIx (fVar 13) (fLit (.int 0)))) (fCons (fIx (fVar 13) (fLit (.int 1))) fNil))) fNil))) fNil)))))))) (sSeq (sIf (fT (fNe (fVar 8) (fTup (fCons (fLit (.int 0)) (fCons (fLit (.int 1)) fNil))))) (sRet (fLit (.bool false))) sNil) (sSeq (sApp 5 (fIf (fT (fGt (fIx (fIx (fVar 3) (fVar 7)) (fLit (.int 0))) (fLit (.int 0)))) (fCall 2 c__law_by (fCons (fVar 9) (fCons (fTup (fCons (fIx (fIx (fVar 3) (fVar 7)) (fLit (.int 1))) (fCons (fIx (fIx (fVar 3) (fVar 7)) (fLit (.int 0))) fNil))) fNil))) (fTup (fCons (fLit (.int 0)) (fCons (fLit (.int 1)) fNil))))) (sSeq (sRel 10) (sSeq (sSet 14 (fLc (iSeq (fVar 10)) (bName 18) (fT (fGt (fIx (fIx (fVar 18) (fLit (.int 1))) (fLit (.int 0))) (fLit (.int 0)))) (fVar 18) [18])) (sSeq (sApp 6 (fIf (fT (fNe (fVar 14) (fLst fNil))) (fIx (fIx (fVar 14) (fLit (.int 0))) (fLit (.int 0))) (fLit .none))) (sOwn 4 (fLc (iSeq (fVar 14)) (bLst [11, 12]) kYes (fLst (fCons (fPlus (fVar 11) (fLit (.int 1))) (fCons (fVar 12) fNil))) [11, 12])))))))))))) (sSeq (sIf (kOr (kNot (fT (fCall 2 c__law_alike (fCons (fCall 2 c_ages (fCons (fVar 2) (fCons (fVar 3) fNil))) (fCons (fTuple (fOwn 5)) fNil))))) (kNot (fT (fCall 2 c__law_alike (fCons (fCall 2 c_oldest (fCons (fVar 2) (fCons (fVar 3) fNil))) (fCons (fTuple (fOwn 6)) fNil)))))) (sRet (fLit (.bool false))) sNil) (sSeq (sPar 15 16 (fPlus (fLst (fCons (fTup (fCons (fIx (fVar 2) (fLit (.int 1))) (fCons (fLit (.int 1)) fNil))) fNil)) (fCall 2 c__law_levels (fCons (fVar 2) (fCons (fVar 3) fNil)))) (fTup (fCons (fLit (.int 0)) (fCons (fLit (.int 1)) fNil)))) (sSeq (sFor (iRange1 (fLen (fVar 3))) (bName 7) (sSet 16 (fCall 2 c__law_plus (fCons (fVar 16) (fCons (fIx (fVar 15) (fVar 7)) fNil))))) (sSeq (sSet 17 (fCall 1 c__law_sum (fCons (fLc (iRange1 (fLen (fVar 3))) (bName 7) kYes (fCall 2 c__law_by (fCons (fIx (fOwn 5) (fVar 7)) (fCons (fIx (fVar 3) (fVar 7)) fNil))) [7]) fNil))) (sSeq (sRel 4) (sSeq (sSet 8 (fCall 1 c__law_sum (fCons (fLc (iSeq (fVar 4)) (bLst [11, 12]) kYes (fCall 2 c__law_by (fCons (fTup (fCons (fSub (fVar 11) (fLit (.int 1))) (fCons (fLit (.int 1)) fNil))) (fCons (fVar 12) fNil))) [11, 12]) fNil))) (sRet (fEq (fVar 16) (fCall 2 c__law_plus (fCons (fVar 17) (fCons (fVar 8) fNil)))))))))))))
def F_law (c__law_less c__law_plus c__law_by c__law_alike c_ages c_oldest c__law_levels c__law_sum : List PyData → Option PyData) : LF := (lSeq (lSet 2 (wDraw 1 cDam (wCons (wP 1 (fLit (.int 7))) wNil))) (lSeq (lSet 3 (wDraw 1 cDraw (wCons (wP 1 (fVar 2)) wNil))) (lSeq (lIf (wT 1 (fT (fIsN (fVar 3) (fLit .none)))) (lRetV (wP 1 (fLit (.bool true)))) lNil) (lEnd 1 (F_tail c__law_less c__law_plus c__law_by c__law_alike c_ages c_oldest c__law_levels c__law_sum)))))
noncomputable def N_tail (dam' : (Int × Int × Int × (List Int))) (plan' : (List (Int × Int))) : Option Bool := ((some [((1 : Int), (dam'.2.1, (1 : Int)))]).bind fun store_14 => (some ([] : (List (Int × Int)))).bind fun due_15 => (some ([] : (List (Option Int)))).bind fun old_16 => (bindJ ((range1O ((plan').length : Int)).bind fun l => foldJ (fun (i20 : Int) (s18 : ((List (Int × (Int × Int))) × (List (Int × Int)) × (List (Option Int)))) => ((((some (0 : Int)).bind fun x28 => ((atI dam'.2.2.2 i20).bind fun x26 => (some (1 : Int)).bind fun x27 => some (x26, x27)).bind fun y29 => some (x28, y29)).bind fun x31 => (appO s18.1 x31).bind fun store_30 => some store_30).bind fun s21 => ((atI plan' i20).bind fun rest_34 => (some ((0 : Int), (1 : Int))).bind fun whole_35 => (some ([] : (List (Int × (Int × Int))))).bind fun later_36 => ((foldO (fun (i41 : (Int × (Int × Int))) (s39 : ((Int × Int) × (Int × Int) × (List (Int × (Int × Int))))) => ((iteO (N__law_less s39.2.1 i41.2) (some s39.2.1) (some i41.2)).bind fun share_42 => (((some s39.1).bind fun a44 => (N__law_by (i41.1, (1 : Int)) share_42).bind fun a45 => N__law_plus a44 a45).bind fun whole_43 => ((N__law_plus s39.2.1 (((0 : Int) - share_42.1), share_42.2)).bind fun rest_46 => (((some i41.1).bind fun x55 => (N__law_plus i41.2 (((0 : Int) - share_42.1), share_42.2)).bind fun y56 => some (x55, y56)).bind fun x58 => (appO s39.2.2 x58).bind fun later_57 => some (whole_43, rest_46, later_57)))))) s21 (whole_35, rest_34, later_36)).bind fun s37 => (iteO (some (!decide (s37.2.1 = ((0 : Int), (1 : Int))))) ((some false).bind fun v107 => some (.inl v107)) (((iteO (((atI plan' i20).bind fun x65 => some x65.1).bind fun x68 => (some (0 : Int)).bind fun y69 => some (decide (y69 < x68))) ((some s37.1).bind fun a78 => (((atI plan' i20).bind fun x72 => some x72.2).bind fun x76 => ((atI plan' i20).bind fun x75 => some x75.1).bind fun x77 => some (x76, x77)).bind fun a79 => N__law_by a78 a79) (some ((0 : Int), (1 : Int)))).bind fun x81 => (appO s18.2.1 x81).bind fun due_80 => some due_80).bind fun s61 => ((compL (fun (i83 : (Int × (Int × Int))) => (some (decide ((0 : Int) < i83.2.1)))) (fun (i83 : (Int × (Int × Int))) => (some i83)) s37.2.2).bind fun left_82 => (((iteO (some (!decide (left_82 = ([] : (List (Int × (Int × Int))))))) (((atI left_82 (0 : Int)).bind fun x96 => some x96.1).bind fun x97 => some (some x97)) (some none)).bind fun x99 => (appO s18.2.2 x99).bind fun old_98 => some old_98).bind fun s90 => (((compL (fun (i101 : (Int × (Int × Int))) => (some true)) (fun (i101 : (Int × (Int × Int))) => (some ((i101.1 + (1 : Int)), i101.2))) left_82).bind fun store_100 => some (store_100, s61, s90)).bind fun s106 => some (.inr s106)))))))))) l (store_14, due_15, old_16)) (fun s108 => (iteO (orO (((N_ages dam' plan').bind fun a111 => (some s108.2.1).bind fun a112 => alikeT 3 (eR (e2 eI eI)) (eR (e2 eI eI)) a111 a112).bind fun b113 => some (!b113)) (((N_oldest dam' plan').bind fun a115 => (some s108.2.2).bind fun a116 => alikeT 3 (eR (eO eI)) (eR (eO eI)) a115 a116).bind fun b117 => some (!b117))) (some false) (((some [(dam'.2.1, (1 : Int))]).bind fun x120 => (N__law_levels dam' plan').bind fun y121 => (y121.bind fun x119 => catO x120 x119)).bind fun held_122 => (some ((0 : Int), (1 : Int))).bind fun before_123 => (((range1O ((plan').length : Int)).bind fun l => foldO (fun (i127 : Int) (s125 : ((Int × Int))) => (((some s125).bind fun a131 => (atI held_122 i127).bind fun a132 => N__law_plus a131 a132).bind fun before_128 => some before_128)) l before_123).bind fun s133 => ((((range1O ((plan').length : Int)).bind fun l => compL (fun (i137 : Int) => (some true)) (fun (i137 : Int) => ((atI s108.2.1 i137).bind fun a142 => (atI plan' i137).bind fun a143 => N__law_by a142 a143)) l).bind fun a144 => N__law_sum a144).bind fun spent_135 => (((compL (fun (i146 : (Int × (Int × Int))) => (some true)) (fun (i146 : (Int × (Int × Int))) => (N__law_by ((i146.1 - (1 : Int)), (1 : Int)) i146.2)) s108.1).bind fun a149 => N__law_sum a149).bind fun rest_145 => ((some s133).bind fun x150 => (N__law_plus spent_135 rest_145).bind fun y151 => some (decide (x150 = y151)))))))))))
theorem t_tail (ns : List Int) (rw : List PyData) (dam' : (Int × Int × Int × (List Int))) (plan' : (List (Int × Int))) : F_tail S__law_less S__law_plus S__law_by (S__law_alike 3) S_ages S_oldest S__law_levels S__law_sum [(.dat (.list (List.map PyData.int ns))), (.own rw), .dat ((e4 eI eI eI (eR eI)) dam'), .dat ((eR (e2 eI eI)) plan'), .no, .no, .no, .no, .no, .no, .no, .no, .no, .no, .no, .no, .no, .no, .no] = rtO eB (N_tail dam' plan') := (r_seq_par3B (i := 4) (j := 5) (l := 6) (ea := (l2 eI (e2 eI eI))) (eb := (e2 eI eI)) (ec := (eO eI)) (A := (some [((1 : Int), (dam'.2.1, (1 : Int)))])) (B := (some ([] : (List (Int × Int))))) (C := (some ([] : (List (Option Int))))) (t_lstL (L := (some [((1 : Int), (dam'.2.1, (1 : Int)))])) (t_cons (A := (some ((1 : Int), (dam'.2.1, (1 : Int))))) (L := (some [])) (t_lst2 (A := (some (1 : Int))) (B := (some (dam'.2.1, (1 : Int)))) (ea := eI) (eb := (e2 eI eI)) (t_int (i := 1)) (t_tup2 (A := (some dam'.2.1)) (B := (some (1 : Int))) (t_ixc (A := (some dam')) (k := 1) (pr := fun x11 => x11.2.1) (eb := eI) (fun _ => rfl) (t_var (i := 2) (e := (e4 eI eI eI (eR eI))) (v := dam') rfl)) (t_int (i := 1)))) (t_nil (α := (Int × (Int × Int))) (e := (l2 eI (e2 eI eI)))))) (t_lstL (L := some []) (t_nil (α := (Int × Int)) (e := (e2 eI eI)))) (t_lstL (L := some []) (t_nil (α := (Option Int)) (e := (eO eI)))) (lt_of rfl) (lt_of rfl) (lt_of rfl) (fun store_14 due_15 old_16 => (r_seq_bj (env := (fun (s : ((List (Int × (Int × Int))) × (List (Int × Int)) × (List (Option Int)))) (z : (Slot × Slot × Slot × Slot × Slot × Slot × Slot × Slot)) => [(.dat (.list (List.map PyData.int ns))), (.own rw), .dat ((e4 eI eI eI (eR eI)) dam'), .dat ((eR (e2 eI eI)) plan'), .own (List.map (l2 eI (e2 eI eI)) s.1), .own (List.map (e2 eI eI) s.2.1), .own (List.map (eO eI) s.2.2), z.1, z.2.1, z.2.2.1, z.2.2.2.1, z.2.2.2.2.1, z.2.2.2.2.2.1, z.2.2.2.2.2.2.2, z.2.2.2.2.2.2.1, .no, .no, .no, .no])) (j_for (env := (fun (s : ((List (Int × (Int × Int))) × (List (Int × Int)) × (List (Option Int)))) (z : (Slot × Slot × Slot × Slot × Slot × Slot × Slot × Slot)) => [(.dat (.list (List.map PyData.int ns))), (.own rw), .dat ((e4 eI eI eI (eR eI)) dam'), .dat ((eR (e2 eI eI)) plan'), .own (List.map (l2 eI (e2 eI eI)) s.1), .own (List.map (e2 eI eI) s.2.1), .own (List.map (eO eI) s.2.2), z.1, z.2.1, z.2.2.1, z.2.2.2.1, z.2.2.2.2.1, z.2.2.2.2.2.1, z.2.2.2.2.2.2.2, z.2.2.2.2.2.2.1, .no, .no, .no, .no])) (s := (store_14, due_15, old_16)) (z := ((.no : Slot), (.no : Slot), (.no : Slot), (.no : Slot), (.no : Slot), (.no : Slot), (.no : Slot), (.no : Slot))) (L := (range1O ((plan').length : Int))) (ea := eI) (Bd := (fun (i20 : Int) (s18 : ((List (Int × (Int × Int))) × (List (Int × Int)) × (List (Option Int)))) => ((((some (0 : Int)).bind fun x28 => ((atI dam'.2.2.2 i20).bind fun x26 => (some (1 : Int)).bind fun x27 => some (x26, x27)).bind fun y29 => some (x28, y29)).bind fun x31 => (appO s18.1 x31).bind fun store_30 => some store_30).bind fun s21 => ((atI plan' i20).bind fun rest_34 => (some ((0 : Int), (1 : Int))).bind fun whole_35 => (some ([] : (List (Int × (Int × Int))))).bind fun later_36 => ((foldO (fun (i41 : (Int × (Int × Int))) (s39 : ((Int × Int) × (Int × Int) × (List (Int × (Int × Int))))) => ((iteO (N__law_less s39.2.1 i41.2) (some s39.2.1) (some i41.2)).bind fun share_42 => (((some s39.1).bind fun a44 => (N__law_by (i41.1, (1 : Int)) share_42).bind fun a45 => N__law_plus a44 a45).bind fun whole_43 => ((N__law_plus s39.2.1 (((0 : Int) - share_42.1), share_42.2)).bind fun rest_46 => (((some i41.1).bind fun x55 => (N__law_plus i41.2 (((0 : Int) - share_42.1), share_42.2)).bind fun y56 => some (x55, y56)).bind fun x58 => (appO s39.2.2 x58).bind fun later_57 => some (whole_43, rest_46, later_57)))))) s21 (whole_35, rest_34, later_36)).bind fun s37 => (iteO (some (!decide (s37.2.1 = ((0 : Int), (1 : Int))))) ((some false).bind fun v107 => some (.inl v107)) (((iteO (((atI plan' i20).bind fun x65 => some x65.1).bind fun x68 => (some (0 : Int)).bind fun y69 => some (decide (y69 < x68))) ((some s37.1).bind fun a78 => (((atI plan' i20).bind fun x72 => some x72.2).bind fun x76 => ((atI plan' i20).bind fun x75 => some x75.1).bind fun x77 => some (x76, x77)).bind fun a79 => N__law_by a78 a79) (some ((0 : Int), (1 : Int)))).bind fun x81 => (appO s18.2.1 x81).bind fun due_80 => some due_80).bind fun s61 => ((compL (fun (i83 : (Int × (Int × Int))) => (some (decide ((0 : Int) < i83.2.1)))) (fun (i83 : (Int × (Int × Int))) => (some i83)) s37.2.2).bind fun left_82 => (((iteO (some (!decide (left_82 = ([] : (List (Int × (Int × Int))))))) (((atI left_82 (0 : Int)).bind fun x96 => some x96.1).bind fun x97 => some (some x97)) (some none)).bind fun x99 => (appO s18.2.2 x99).bind fun old_98 => some old_98).bind fun s90 => (((compL (fun (i101 : (Int × (Int × Int))) => (some true)) (fun (i101 : (Int × (Int × Int))) => (some ((i101.1 + (1 : Int)), i101.2))) left_82).bind fun store_100 => some (store_100, s61, s90)).bind fun s106 => some (.inr s106))))))))))) rfl (i_range1 (A := (some ((plan').length : Int))) (t_f1 (A := (some plan')) (h := (fun x17 => some ((x17).length : Int))) g_lenR (t_var (i := 3) (e := (eR (e2 eI eI))) (v := plan') rfl))) (fun i20 s18 z19 => ⟨[(.dat (.list (List.map PyData.int ns))), (.own rw), .dat ((e4 eI eI eI (eR eI)) dam'), .dat ((eR (e2 eI eI)) plan'), .own (List.map (l2 eI (e2 eI eI)) s18.1), .own (List.map (e2 eI eI) s18.2.1), .own (List.map (eO eI) s18.2.2), .dat (eI i20), z19.2.1, z19.2.2.1, z19.2.2.2.1, z19.2.2.2.2.1, z19.2.2.2.2.2.1, z19.2.2.2.2.2.2.2, z19.2.2.2.2.2.2.1, .no, .no, .no, .no], rfl, (j_seq_n (env2 := (fun (s : ((List (Int × (Int × Int))))) (z : Unit) => [(.dat (.list (List.map PyData.int ns))), (.own rw), .dat ((e4 eI eI eI (eR eI)) dam'), .dat ((eR (e2 eI eI)) plan'), .own (List.map (l2 eI (e2 eI eI)) s), .own (List.map (e2 eI eI) s18.2.1), .own (List.map (eO eI) s18.2.2), .dat (eI i20), z19.2.1, z19.2.2.1, z19.2.2.2.1, z19.2.2.2.2.1, z19.2.2.2.2.2.1, z19.2.2.2.2.2.2.2, z19.2.2.2.2.2.2.1, .no, .no, .no, .no])) (A := (((some (0 : Int)).bind fun x28 => ((atI dam'.2.2.2 i20).bind fun x26 => (some (1 : Int)).bind fun x27 => some (x26, x27)).bind fun y29 => some (x28, y29)).bind fun x31 => (appO s18.1 x31).bind fun store_30 => some store_30)) (n_app (i := 4) (A := ((some (0 : Int)).bind fun x28 => ((atI dam'.2.2.2 i20).bind fun x26 => (some (1 : Int)).bind fun x27 => some (x26, x27)).bind fun y29 => some (x28, y29))) (v := s18.1) (K := fun store_30 => store_30) (t_lst2 (A := (some (0 : Int))) (B := ((atI dam'.2.2.2 i20).bind fun x26 => (some (1 : Int)).bind fun x27 => some (x26, x27))) (ea := eI) (eb := (e2 eI eI)) (t_int (i := 0)) (t_tup2 (A := (atI dam'.2.2.2 i20)) (B := (some (1 : Int))) (t_f2 (A := (some dam'.2.2.2)) (B := (some i20)) (h := (fun x24 y25 => (atI x24 y25))) g_ixR (t_ixc (A := (some dam')) (k := 3) (pr := fun x23 => x23.2.2.2) (eb := (eR eI)) (fun _ => rfl) (t_var (i := 2) (e := (e4 eI eI eI (eR eI))) (v := dam') rfl)) (t_var (i := 7) (e := eI) (v := i20) rfl)) (t_int (i := 1)))) rfl (fun store_30 => ⟨(), rfl⟩)) (fun s21 z22 => (j_seq_par3O (i := 8) (j := 9) (l := 10) (ec := (l2 eI (e2 eI eI))) (A := (atI plan' i20)) (B := (some ((0 : Int), (1 : Int)))) (C := (some ([] : (List (Int × (Int × Int)))))) (t_f2 (A := (some plan')) (B := (some i20)) (h := (fun x32 y33 => (atI x32 y33))) g_ixR (t_var (i := 3) (e := (eR (e2 eI eI))) (v := plan') rfl) (t_var (i := 7) (e := eI) (v := i20) rfl)) (t_tup2 (A := (some (0 : Int))) (B := (some (1 : Int))) (t_int (i := 0)) (t_int (i := 1))) (t_lstL (L := some []) (t_nil (α := (Int × (Int × Int))) (e := (l2 eI (e2 eI eI))))) (lt_of rfl) (lt_of rfl) (lt_of rfl) (fun rest_34 whole_35 later_36 => (j_seq_rel (i := 4) (ea := (l2 eI (e2 eI eI))) (a := s21) rfl (j_seq_n (env2 := (fun (s : ((Int × Int) × (Int × Int) × (List (Int × (Int × Int))))) (z : (Slot × Slot × Slot)) => [(.dat (.list (List.map PyData.int ns))), (.own rw), .dat ((e4 eI eI eI (eR eI)) dam'), .dat ((eR (e2 eI eI)) plan'), .dat ((eL (l2 eI (e2 eI eI))) s21), .own (List.map (e2 eI eI) s18.2.1), .own (List.map (eO eI) s18.2.2), .dat (eI i20), .dat ((e2 eI eI) s.2.1), .dat ((e2 eI eI) s.1), .own (List.map (l2 eI (e2 eI eI)) s.2.2), z.1, z.2.1, z.2.2, z19.2.2.2.2.2.2.1, .no, .no, .no, .no])) (A := (foldO (fun (i41 : (Int × (Int × Int))) (s39 : ((Int × Int) × (Int × Int) × (List (Int × (Int × Int))))) => ((iteO (N__law_less s39.2.1 i41.2) (some s39.2.1) (some i41.2)).bind fun share_42 => (((some s39.1).bind fun a44 => (N__law_by (i41.1, (1 : Int)) share_42).bind fun a45 => N__law_plus a44 a45).bind fun whole_43 => ((N__law_plus s39.2.1 (((0 : Int) - share_42.1), share_42.2)).bind fun rest_46 => (((some i41.1).bind fun x55 => (N__law_plus i41.2 (((0 : Int) - share_42.1), share_42.2)).bind fun y56 => some (x55, y56)).bind fun x58 => (appO s39.2.2 x58).bind fun later_57 => some (whole_43, rest_46, later_57)))))) s21 (whole_35, rest_34, later_36))) (n_for (env := (fun (s : ((Int × Int) × (Int × Int) × (List (Int × (Int × Int))))) (z : (Slot × Slot × Slot)) => [(.dat (.list (List.map PyData.int ns))), (.own rw), .dat ((e4 eI eI eI (eR eI)) dam'), .dat ((eR (e2 eI eI)) plan'), .dat ((eL (l2 eI (e2 eI eI))) s21), .own (List.map (e2 eI eI) s18.2.1), .own (List.map (eO eI) s18.2.2), .dat (eI i20), .dat ((e2 eI eI) s.2.1), .dat ((e2 eI eI) s.1), .own (List.map (l2 eI (e2 eI eI)) s.2.2), z.1, z.2.1, z.2.2, z19.2.2.2.2.2.2.1, .no, .no, .no, .no])) (s := (whole_35, rest_34, later_36)) (z := ((z19.2.2.2.2.1 : Slot), (z19.2.2.2.2.2.1 : Slot), (z19.2.2.2.2.2.2.2 : Slot))) (L := (some s21)) (ea := (l2 eI (e2 eI eI))) (Bd := (fun (i41 : (Int × (Int × Int))) (s39 : ((Int × Int) × (Int × Int) × (List (Int × (Int × Int))))) => ((iteO (N__law_less s39.2.1 i41.2) (some s39.2.1) (some i41.2)).bind fun share_42 => (((some s39.1).bind fun a44 => (N__law_by (i41.1, (1 : Int)) share_42).bind fun a45 => N__law_plus a44 a45).bind fun whole_43 => ((N__law_plus s39.2.1 (((0 : Int) - share_42.1), share_42.2)).bind fun rest_46 => (((some i41.1).bind fun x55 => (N__law_plus i41.2 (((0 : Int) - share_42.1), share_42.2)).bind fun y56 => some (x55, y56)).bind fun x58 => (appO s39.2.2 x58).bind fun later_57 => some (whole_43, rest_46, later_57))))))) rfl (i_seqL (A := (some s21)) (e := (l2 eI (e2 eI eI))) (t_var (i := 4) (e := (eL (l2 eI (e2 eI eI)))) (v := s21) rfl)) (fun i41 s39 z40 => ⟨[(.dat (.list (List.map PyData.int ns))), (.own rw), .dat ((e4 eI eI eI (eR eI)) dam'), .dat ((eR (e2 eI eI)) plan'), .dat ((eL (l2 eI (e2 eI eI))) s21), .own (List.map (e2 eI eI) s18.2.1), .own (List.map (eO eI) s18.2.2), .dat (eI i20), .dat ((e2 eI eI) s39.2.1), .dat ((e2 eI eI) s39.1), .own (List.map (l2 eI (e2 eI eI)) s39.2.2), .dat (eI i41.1), .dat ((e2 eI eI) i41.2), z40.2.2, z19.2.2.2.2.2.2.1, .no, .no, .no, .no], rfl, (n_seq_set (i := 13) (A := (iteO (N__law_less s39.2.1 i41.2) (some s39.2.1) (some i41.2))) (t_if (P := (N__law_less s39.2.1 i41.2)) (A := (some s39.2.1)) (B := (some i41.2)) (t_T (P := (N__law_less s39.2.1 i41.2)) (t_call2 (A := (some s39.2.1)) (B := (some i41.2)) (N := N__law_less) t__law_less (t_var (i := 8) (e := (e2 eI eI)) (v := s39.2.1) rfl) (t_var (i := 12) (e := (e2 eI eI)) (v := i41.2) rfl))) (t_var (i := 8) (e := (e2 eI eI)) (v := s39.2.1) rfl) (t_var (i := 12) (e := (e2 eI eI)) (v := i41.2) rfl)) (lt_of rfl) (fun share_42 => (n_seq_set (i := 9) (A := ((some s39.1).bind fun a44 => (N__law_by (i41.1, (1 : Int)) share_42).bind fun a45 => N__law_plus a44 a45)) (t_call2 (A := (some s39.1)) (B := (N__law_by (i41.1, (1 : Int)) share_42)) (N := N__law_plus) t__law_plus (t_var (i := 9) (e := (e2 eI eI)) (v := s39.1) rfl) (t_call2 (A := (some (i41.1, (1 : Int)))) (B := (some share_42)) (N := N__law_by) t__law_by (t_tup2 (A := (some i41.1)) (B := (some (1 : Int))) (t_var (i := 11) (e := eI) (v := i41.1) rfl) (t_int (i := 1))) (t_var (i := 13) (e := (e2 eI eI)) (v := share_42) rfl))) (lt_of rfl) (fun whole_43 => (n_seq_set (i := 8) (A := (N__law_plus s39.2.1 (((0 : Int) - share_42.1), share_42.2))) (t_call2 (A := (some s39.2.1)) (B := (some (((0 : Int) - share_42.1), share_42.2))) (N := N__law_plus) t__law_plus (t_var (i := 8) (e := (e2 eI eI)) (v := s39.2.1) rfl) (t_tup2 (A := (some ((0 : Int) - share_42.1))) (B := (some share_42.2)) (t_f2 (A := (some (0 : Int))) (B := (some share_42.1)) (h := (fun x48 y49 => some (x48 - y49))) g_sub (t_int (i := 0)) (t_ixc (A := (some share_42)) (k := 0) (pr := fun x47 => x47.1) (eb := eI) (fun _ => rfl) (t_var (i := 13) (e := (e2 eI eI)) (v := share_42) rfl))) (t_ixc (A := (some share_42)) (k := 1) (pr := fun x50 => x50.2) (eb := eI) (fun _ => rfl) (t_var (i := 13) (e := (e2 eI eI)) (v := share_42) rfl)))) (lt_of rfl) (fun rest_46 => (n_app (i := 10) (A := ((some i41.1).bind fun x55 => (N__law_plus i41.2 (((0 : Int) - share_42.1), share_42.2)).bind fun y56 => some (x55, y56))) (v := s39.2.2) (K := fun later_57 => (whole_43, rest_46, later_57)) (t_lst2 (A := (some i41.1)) (B := (N__law_plus i41.2 (((0 : Int) - share_42.1), share_42.2))) (ea := eI) (eb := (e2 eI eI)) (t_var (i := 11) (e := eI) (v := i41.1) rfl) (t_call2 (A := (some i41.2)) (B := (some (((0 : Int) - share_42.1), share_42.2))) (N := N__law_plus) t__law_plus (t_var (i := 12) (e := (e2 eI eI)) (v := i41.2) rfl) (t_tup2 (A := (some ((0 : Int) - share_42.1))) (B := (some share_42.2)) (t_f2 (A := (some (0 : Int))) (B := (some share_42.1)) (h := (fun x52 y53 => some (x52 - y53))) g_sub (t_int (i := 0)) (t_ixc (A := (some share_42)) (k := 0) (pr := fun x51 => x51.1) (eb := eI) (fun _ => rfl) (t_var (i := 13) (e := (e2 eI eI)) (v := share_42) rfl))) (t_ixc (A := (some share_42)) (k := 1) (pr := fun x54 => x54.2) (eb := eI) (fun _ => rfl) (t_var (i := 13) (e := (e2 eI eI)) (v := share_42) rfl))))) rfl (fun later_57 => ⟨((.dat (eI i41.1) : Slot), (.dat ((e2 eI eI) i41.2) : Slot), (.dat ((e2 eI eI) share_42) : Slot)), rfl⟩))))))))⟩)) (fun s37 z38 => (j_seq_ifret (P := (some (!decide (s37.2.1 = ((0 : Int), (1 : Int)))))) (A := (some false)) (t_T (P := (some (!decide (s37.2.1 = ((0 : Int), (1 : Int)))))) (t_f2 (A := (some s37.2.1)) (B := (some ((0 : Int), (1 : Int)))) (h := (fun x59 y60 => some (!decide (x59 = y60)))) (g_ne (enc_2 enc_I enc_I) rfl) (t_var (i := 8) (e := (e2 eI eI)) (v := s37.2.1) rfl) (t_tup2 (A := (some (0 : Int))) (B := (some (1 : Int))) (t_int (i := 0)) (t_int (i := 1))))) (r_ret (A := (some false)) (t_bl (b := false))) (j_seq_n (env2 := (fun (s : ((List (Int × Int)))) (z : Unit) => [(.dat (.list (List.map PyData.int ns))), (.own rw), .dat ((e4 eI eI eI (eR eI)) dam'), .dat ((eR (e2 eI eI)) plan'), .dat ((eL (l2 eI (e2 eI eI))) s21), .own (List.map (e2 eI eI) s), .own (List.map (eO eI) s18.2.2), .dat (eI i20), .dat ((e2 eI eI) s37.2.1), .dat ((e2 eI eI) s37.1), .own (List.map (l2 eI (e2 eI eI)) s37.2.2), z38.1, z38.2.1, z38.2.2, z19.2.2.2.2.2.2.1, .no, .no, .no, .no])) (A := ((iteO (((atI plan' i20).bind fun x65 => some x65.1).bind fun x68 => (some (0 : Int)).bind fun y69 => some (decide (y69 < x68))) ((some s37.1).bind fun a78 => (((atI plan' i20).bind fun x72 => some x72.2).bind fun x76 => ((atI plan' i20).bind fun x75 => some x75.1).bind fun x77 => some (x76, x77)).bind fun a79 => N__law_by a78 a79) (some ((0 : Int), (1 : Int)))).bind fun x81 => (appO s18.2.1 x81).bind fun due_80 => some due_80)) (n_app (i := 5) (A := (iteO (((atI plan' i20).bind fun x65 => some x65.1).bind fun x68 => (some (0 : Int)).bind fun y69 => some (decide (y69 < x68))) ((some s37.1).bind fun a78 => (((atI plan' i20).bind fun x72 => some x72.2).bind fun x76 => ((atI plan' i20).bind fun x75 => some x75.1).bind fun x77 => some (x76, x77)).bind fun a79 => N__law_by a78 a79) (some ((0 : Int), (1 : Int))))) (v := s18.2.1) (K := fun due_80 => due_80) (t_if (P := (((atI plan' i20).bind fun x65 => some x65.1).bind fun x68 => (some (0 : Int)).bind fun y69 => some (decide (y69 < x68)))) (A := ((some s37.1).bind fun a78 => (((atI plan' i20).bind fun x72 => some x72.2).bind fun x76 => ((atI plan' i20).bind fun x75 => some x75.1).bind fun x77 => some (x76, x77)).bind fun a79 => N__law_by a78 a79)) (B := (some ((0 : Int), (1 : Int)))) (t_T (P := (((atI plan' i20).bind fun x65 => some x65.1).bind fun x68 => (some (0 : Int)).bind fun y69 => some (decide (y69 < x68)))) (t_f2 (A := ((atI plan' i20).bind fun x65 => some x65.1)) (B := (some (0 : Int))) (h := (fun x68 y69 => some (decide (y69 < x68)))) g_gt (t_ixc (A := (atI plan' i20)) (k := 0) (pr := fun x65 => x65.1) (eb := eI) (fun _ => rfl) (t_f2 (A := (some plan')) (B := (some i20)) (h := (fun x63 y64 => (atI x63 y64))) g_ixR (t_var (i := 3) (e := (eR (e2 eI eI))) (v := plan') rfl) (t_var (i := 7) (e := eI) (v := i20) rfl))) (t_int (i := 0)))) (t_call2 (A := (some s37.1)) (B := (((atI plan' i20).bind fun x72 => some x72.2).bind fun x76 => ((atI plan' i20).bind fun x75 => some x75.1).bind fun x77 => some (x76, x77))) (N := N__law_by) t__law_by (t_var (i := 9) (e := (e2 eI eI)) (v := s37.1) rfl) (t_tup2 (A := ((atI plan' i20).bind fun x72 => some x72.2)) (B := ((atI plan' i20).bind fun x75 => some x75.1)) (t_ixc (A := (atI plan' i20)) (k := 1) (pr := fun x72 => x72.2) (eb := eI) (fun _ => rfl) (t_f2 (A := (some plan')) (B := (some i20)) (h := (fun x70 y71 => (atI x70 y71))) g_ixR (t_var (i := 3) (e := (eR (e2 eI eI))) (v := plan') rfl) (t_var (i := 7) (e := eI) (v := i20) rfl))) (t_ixc (A := (atI plan' i20)) (k := 0) (pr := fun x75 => x75.1) (eb := eI) (fun _ => rfl) (t_f2 (A := (some plan')) (B := (some i20)) (h := (fun x73 y74 => (atI x73 y74))) g_ixR (t_var (i := 3) (e := (eR (e2 eI eI))) (v := plan') rfl) (t_var (i := 7) (e := eI) (v := i20) rfl))))) (t_tup2 (A := (some (0 : Int))) (B := (some (1 : Int))) (t_int (i := 0)) (t_int (i := 1)))) rfl (fun due_80 => ⟨(), rfl⟩)) (fun s61 z62 => (j_seq_rel (i := 10) (ea := (l2 eI (e2 eI eI))) (a := s37.2.2) rfl (j_seq_set (i := 14) (A := (compL (fun (i83 : (Int × (Int × Int))) => (some (decide ((0 : Int) < i83.2.1)))) (fun (i83 : (Int × (Int × Int))) => (some i83)) s37.2.2)) (t_lc (L := (some s37.2.2)) (ea := (l2 eI (e2 eI eI))) (eb := (l2 eI (e2 eI eI))) (T := fun (i83 : (Int × (Int × Int))) => (some (decide ((0 : Int) < i83.2.1)))) (Bf := fun (i83 : (Int × (Int × Int))) => (some i83)) (i_seqL (A := (some s37.2.2)) (e := (l2 eI (e2 eI eI))) (t_var (i := 10) (e := (eL (l2 eI (e2 eI eI)))) (v := s37.2.2) rfl)) (fun i83 => ⟨[(.dat (.list (List.map PyData.int ns))), (.own rw), .dat ((e4 eI eI eI (eR eI)) dam'), .dat ((eR (e2 eI eI)) plan'), .dat ((eL (l2 eI (e2 eI eI))) s21), .own (List.map (e2 eI eI) s61), .own (List.map (eO eI) s18.2.2), .dat (eI i20), .dat ((e2 eI eI) s37.2.1), .dat ((e2 eI eI) s37.1), .dat ((eL (l2 eI (e2 eI eI))) s37.2.2), z38.1, z38.2.1, z38.2.2, z19.2.2.2.2.2.2.1, .no, .no, .no, .dat ((l2 eI (e2 eI eI)) i83)], rfl, (t_T (P := (some (decide ((0 : Int) < i83.2.1)))) (t_f2 (A := (some i83.2.1)) (B := (some (0 : Int))) (h := (fun x88 y89 => some (decide (y89 < x88)))) g_gt (t_ixc (A := (some i83.2)) (k := 0) (pr := fun x85 => x85.1) (eb := eI) (fun _ => rfl) (t_ixc (A := (some i83)) (k := 1) (pr := fun x84 => x84.2) (eb := (e2 eI eI)) (fun _ => rfl) (t_var (i := 18) (e := (l2 eI (e2 eI eI))) (v := i83) rfl))) (t_int (i := 0)))), (t_var (i := 18) (e := (l2 eI (e2 eI eI))) (v := i83) rfl)⟩)) (lt_of rfl) (fun left_82 => (j_seq_n (env2 := (fun (s : ((List (Option Int)))) (z : Unit) => [(.dat (.list (List.map PyData.int ns))), (.own rw), .dat ((e4 eI eI eI (eR eI)) dam'), .dat ((eR (e2 eI eI)) plan'), .dat ((eL (l2 eI (e2 eI eI))) s21), .own (List.map (e2 eI eI) s61), .own (List.map (eO eI) s), .dat (eI i20), .dat ((e2 eI eI) s37.2.1), .dat ((e2 eI eI) s37.1), .dat ((eL (l2 eI (e2 eI eI))) s37.2.2), z38.1, z38.2.1, z38.2.2, .dat ((eL (l2 eI (e2 eI eI))) left_82), .no, .no, .no, .no])) (A := ((iteO (some (!decide (left_82 = ([] : (List (Int × (Int × Int))))))) (((atI left_82 (0 : Int)).bind fun x96 => some x96.1).bind fun x97 => some (some x97)) (some none)).bind fun x99 => (appO s18.2.2 x99).bind fun old_98 => some old_98)) (n_app (i := 6) (A := (iteO (some (!decide (left_82 = ([] : (List (Int × (Int × Int))))))) (((atI left_82 (0 : Int)).bind fun x96 => some x96.1).bind fun x97 => some (some x97)) (some none))) (v := s18.2.2) (K := fun old_98 => old_98) (t_if (P := (some (!decide (left_82 = ([] : (List (Int × (Int × Int)))))))) (A := (((atI left_82 (0 : Int)).bind fun x96 => some x96.1).bind fun x97 => some (some x97))) (B := (some none)) (t_T (P := (some (!decide (left_82 = ([] : (List (Int × (Int × Int)))))))) (t_f2 (A := (some left_82)) (B := (some ([] : (List (Int × (Int × Int)))))) (h := (fun x92 y93 => some (!decide (x92 = y93)))) (g_ne (enc_L (enc_l2 enc_I (enc_2 enc_I enc_I))) rfl) (t_var (i := 14) (e := (eL (l2 eI (e2 eI eI)))) (v := left_82) rfl) (t_lstL (L := some []) (t_nil (α := (Int × (Int × Int))) (e := (l2 eI (e2 eI eI))))))) (t_some (A := ((atI left_82 (0 : Int)).bind fun x96 => some x96.1)) (t_ixc (A := (atI left_82 (0 : Int))) (k := 0) (pr := fun x96 => x96.1) (eb := eI) (fun _ => rfl) (t_f2 (A := (some left_82)) (B := (some (0 : Int))) (h := (fun x94 y95 => (atI x94 y95))) g_ixL (t_var (i := 14) (e := (eL (l2 eI (e2 eI eI)))) (v := left_82) rfl) (t_int (i := 0))))) (t_none (A := (some ())) (e := eI) t_non)) rfl (fun old_98 => ⟨(), rfl⟩)) (fun s90 z91 => (j_of_n (A := ((compL (fun (i101 : (Int × (Int × Int))) => (some true)) (fun (i101 : (Int × (Int × Int))) => (some ((i101.1 + (1 : Int)), i101.2))) left_82).bind fun store_100 => some (store_100, s61, s90))) (n_own (i := 4) (ea := (l2 eI (e2 eI eI))) (A := (compL (fun (i101 : (Int × (Int × Int))) => (some true)) (fun (i101 : (Int × (Int × Int))) => (some ((i101.1 + (1 : Int)), i101.2))) left_82)) (t_lc (L := (some left_82)) (ea := (l2 eI (e2 eI eI))) (eb := (l2 eI (e2 eI eI))) (T := fun (i101 : (Int × (Int × Int))) => (some true)) (Bf := fun (i101 : (Int × (Int × Int))) => (some ((i101.1 + (1 : Int)), i101.2))) (i_seqL (A := (some left_82)) (e := (l2 eI (e2 eI eI))) (t_var (i := 14) (e := (eL (l2 eI (e2 eI eI)))) (v := left_82) rfl)) (fun i101 => ⟨[(.dat (.list (List.map PyData.int ns))), (.own rw), .dat ((e4 eI eI eI (eR eI)) dam'), .dat ((eR (e2 eI eI)) plan'), .dat ((eL (l2 eI (e2 eI eI))) s21), .own (List.map (e2 eI eI) s61), .own (List.map (eO eI) s90), .dat (eI i20), .dat ((e2 eI eI) s37.2.1), .dat ((e2 eI eI) s37.1), .dat ((eL (l2 eI (e2 eI eI))) s37.2.2), .dat (eI i101.1), .dat ((e2 eI eI) i101.2), z38.2.2, .dat ((eL (l2 eI (e2 eI eI))) left_82), .no, .no, .no, .no], rfl, t_yes, (t_lst2 (A := (some (i101.1 + (1 : Int)))) (B := (some i101.2)) (ea := eI) (eb := (e2 eI eI)) (t_f2 (A := (some i101.1)) (B := (some (1 : Int))) (h := (fun x102 y103 => some (x102 + y103))) g_add (t_var (i := 11) (e := eI) (v := i101.1) rfl) (t_int (i := 1))) (t_var (i := 12) (e := (e2 eI eI)) (v := i101.2) rfl))⟩)) (lt_of rfl) (K := fun store_100 => (store_100, s61, s90)) (fun store_100 => ⟨((.dat (eI i20) : Slot), (.dat ((e2 eI eI) s37.2.1) : Slot), (.dat ((e2 eI eI) s37.1) : Slot), (.dat ((eL (l2 eI (e2 eI eI))) s37.2.2) : Slot), (z38.1 : Slot), (z38.2.1 : Slot), (.dat ((eL (l2 eI (e2 eI eI))) left_82) : Slot), (z38.2.2 : Slot)), rfl⟩))))))))))))))))))⟩)) (fun s108 z109 => (r_seq_ifret (P := (orO (((N_ages dam' plan').bind fun a111 => (some s108.2.1).bind fun a112 => alikeT 3 (eR (e2 eI eI)) (eR (e2 eI eI)) a111 a112).bind fun b113 => some (!b113)) (((N_oldest dam' plan').bind fun a115 => (some s108.2.2).bind fun a116 => alikeT 3 (eR (eO eI)) (eR (eO eI)) a115 a116).bind fun b117 => some (!b117)))) (A := (some false)) (t_kor (P := (((N_ages dam' plan').bind fun a111 => (some s108.2.1).bind fun a112 => alikeT 3 (eR (e2 eI eI)) (eR (e2 eI eI)) a111 a112).bind fun b113 => some (!b113))) (Q := (((N_oldest dam' plan').bind fun a115 => (some s108.2.2).bind fun a116 => alikeT 3 (eR (eO eI)) (eR (eO eI)) a115 a116).bind fun b117 => some (!b117))) (t_knot (P := ((N_ages dam' plan').bind fun a111 => (some s108.2.1).bind fun a112 => alikeT 3 (eR (e2 eI eI)) (eR (e2 eI eI)) a111 a112)) (t_T (P := ((N_ages dam' plan').bind fun a111 => (some s108.2.1).bind fun a112 => alikeT 3 (eR (e2 eI eI)) (eR (e2 eI eI)) a111 a112)) (t_call2 (A := (N_ages dam' plan')) (B := (some s108.2.1)) (N := alikeT 3 (eR (e2 eI eI)) (eR (e2 eI eI))) (t_alikeT 3 (eR (e2 eI eI)) (eR (e2 eI eI))) (t_call2 (A := (some dam')) (B := (some plan')) (N := N_ages) t_ages (t_var (i := 2) (e := (e4 eI eI eI (eR eI))) (v := dam') rfl) (t_var (i := 3) (e := (eR (e2 eI eI))) (v := plan') rfl)) (t_f1 (A := (some s108.2.1)) (h := (fun x110 => some x110)) g_tupL (t_own (i := 5) (e := (e2 eI eI)) (v := s108.2.1) rfl))))) (t_knot (P := ((N_oldest dam' plan').bind fun a115 => (some s108.2.2).bind fun a116 => alikeT 3 (eR (eO eI)) (eR (eO eI)) a115 a116)) (t_T (P := ((N_oldest dam' plan').bind fun a115 => (some s108.2.2).bind fun a116 => alikeT 3 (eR (eO eI)) (eR (eO eI)) a115 a116)) (t_call2 (A := (N_oldest dam' plan')) (B := (some s108.2.2)) (N := alikeT 3 (eR (eO eI)) (eR (eO eI))) (t_alikeT 3 (eR (eO eI)) (eR (eO eI))) (t_call2 (A := (some dam')) (B := (some plan')) (N := N_oldest) t_oldest (t_var (i := 2) (e := (e4 eI eI eI (eR eI))) (v := dam') rfl) (t_var (i := 3) (e := (eR (e2 eI eI))) (v := plan') rfl)) (t_f1 (A := (some s108.2.2)) (h := (fun x114 => some x114)) g_tupL (t_own (i := 6) (e := (eO eI)) (v := s108.2.2) rfl)))))) (r_ret (A := (some false)) (t_bl (b := false))) (r_seq_par (i := 15) (j := 16) (A := ((some [(dam'.2.1, (1 : Int))]).bind fun x120 => (N__law_levels dam' plan').bind fun y121 => (y121.bind fun x119 => catO x120 x119))) (B := (some ((0 : Int), (1 : Int)))) (t_f2 (A := (some [(dam'.2.1, (1 : Int))])) (B := (N__law_levels dam' plan')) (h := (fun x120 y121 => (y121.bind fun x119 => catO x120 x119))) (g_o2 (fun x => by cases x <;> rfl) g_addL) (t_lstL (L := (some [(dam'.2.1, (1 : Int))])) (t_cons (A := (some (dam'.2.1, (1 : Int)))) (L := (some [])) (t_tup2 (A := (some dam'.2.1)) (B := (some (1 : Int))) (t_ixc (A := (some dam')) (k := 1) (pr := fun x118 => x118.2.1) (eb := eI) (fun _ => rfl) (t_var (i := 2) (e := (e4 eI eI eI (eR eI))) (v := dam') rfl)) (t_int (i := 1))) (t_nil (α := (Int × Int)) (e := (e2 eI eI))))) (t_call2 (A := (some dam')) (B := (some plan')) (N := N__law_levels) t__law_levels (t_var (i := 2) (e := (e4 eI eI eI (eR eI))) (v := dam') rfl) (t_var (i := 3) (e := (eR (e2 eI eI))) (v := plan') rfl))) (t_tup2 (A := (some (0 : Int))) (B := (some (1 : Int))) (t_int (i := 0)) (t_int (i := 1))) (lt_of rfl) (lt_of rfl) (fun held_122 before_123 => (r_seq_nx (env := (fun (s : ((Int × Int))) (z : (Slot)) => [(.dat (.list (List.map PyData.int ns))), (.own rw), .dat ((e4 eI eI eI (eR eI)) dam'), .dat ((eR (e2 eI eI)) plan'), .own (List.map (l2 eI (e2 eI eI)) s108.1), .own (List.map (e2 eI eI) s108.2.1), .own (List.map (eO eI) s108.2.2), z, z109.2.1, z109.2.2.1, z109.2.2.2.1, z109.2.2.2.2.1, z109.2.2.2.2.2.1, z109.2.2.2.2.2.2.2, z109.2.2.2.2.2.2.1, .dat ((eL (e2 eI eI)) held_122), .dat ((e2 eI eI) s), .no, .no])) (n_for (env := (fun (s : ((Int × Int))) (z : (Slot)) => [(.dat (.list (List.map PyData.int ns))), (.own rw), .dat ((e4 eI eI eI (eR eI)) dam'), .dat ((eR (e2 eI eI)) plan'), .own (List.map (l2 eI (e2 eI eI)) s108.1), .own (List.map (e2 eI eI) s108.2.1), .own (List.map (eO eI) s108.2.2), z, z109.2.1, z109.2.2.1, z109.2.2.2.1, z109.2.2.2.2.1, z109.2.2.2.2.2.1, z109.2.2.2.2.2.2.2, z109.2.2.2.2.2.2.1, .dat ((eL (e2 eI eI)) held_122), .dat ((e2 eI eI) s), .no, .no])) (s := before_123) (z := (z109.1 : Slot)) (L := (range1O ((plan').length : Int))) (ea := eI) (Bd := (fun (i127 : Int) (s125 : ((Int × Int))) => (((some s125).bind fun a131 => (atI held_122 i127).bind fun a132 => N__law_plus a131 a132).bind fun before_128 => some before_128))) rfl (i_range1 (A := (some ((plan').length : Int))) (t_f1 (A := (some plan')) (h := (fun x124 => some ((x124).length : Int))) g_lenR (t_var (i := 3) (e := (eR (e2 eI eI))) (v := plan') rfl))) (fun i127 s125 z126 => ⟨[(.dat (.list (List.map PyData.int ns))), (.own rw), .dat ((e4 eI eI eI (eR eI)) dam'), .dat ((eR (e2 eI eI)) plan'), .own (List.map (l2 eI (e2 eI eI)) s108.1), .own (List.map (e2 eI eI) s108.2.1), .own (List.map (eO eI) s108.2.2), .dat (eI i127), z109.2.1, z109.2.2.1, z109.2.2.2.1, z109.2.2.2.2.1, z109.2.2.2.2.2.1, z109.2.2.2.2.2.2.2, z109.2.2.2.2.2.2.1, .dat ((eL (e2 eI eI)) held_122), .dat ((e2 eI eI) s125), .no, .no], rfl, (n_set  (K := fun before_128 => before_128) (i := 16) (A := ((some s125).bind fun a131 => (atI held_122 i127).bind fun a132 => N__law_plus a131 a132)) (t_call2 (A := (some s125)) (B := (atI held_122 i127)) (N := N__law_plus) t__law_plus (t_var (i := 16) (e := (e2 eI eI)) (v := s125) rfl) (t_f2 (A := (some held_122)) (B := (some i127)) (h := (fun x129 y130 => (atI x129 y130))) g_ixL (t_var (i := 15) (e := (eL (e2 eI eI))) (v := held_122) rfl) (t_var (i := 7) (e := eI) (v := i127) rfl))) (lt_of rfl) (fun before_128 => ⟨(.dat (eI i127) : Slot), rfl⟩))⟩)) (fun s133 z134 => (r_seq_set (i := 17) (A := (((range1O ((plan').length : Int)).bind fun l => compL (fun (i137 : Int) => (some true)) (fun (i137 : Int) => ((atI s108.2.1 i137).bind fun a142 => (atI plan' i137).bind fun a143 => N__law_by a142 a143)) l).bind fun a144 => N__law_sum a144)) (t_call1 (A := ((range1O ((plan').length : Int)).bind fun l => compL (fun (i137 : Int) => (some true)) (fun (i137 : Int) => ((atI s108.2.1 i137).bind fun a142 => (atI plan' i137).bind fun a143 => N__law_by a142 a143)) l)) (N := N__law_sum) t__law_sum (t_lc (L := (range1O ((plan').length : Int))) (ea := eI) (eb := (e2 eI eI)) (T := fun (i137 : Int) => (some true)) (Bf := fun (i137 : Int) => ((atI s108.2.1 i137).bind fun a142 => (atI plan' i137).bind fun a143 => N__law_by a142 a143)) (i_range1 (A := (some ((plan').length : Int))) (t_f1 (A := (some plan')) (h := (fun x136 => some ((x136).length : Int))) g_lenR (t_var (i := 3) (e := (eR (e2 eI eI))) (v := plan') rfl))) (fun i137 => ⟨[(.dat (.list (List.map PyData.int ns))), (.own rw), .dat ((e4 eI eI eI (eR eI)) dam'), .dat ((eR (e2 eI eI)) plan'), .own (List.map (l2 eI (e2 eI eI)) s108.1), .own (List.map (e2 eI eI) s108.2.1), .own (List.map (eO eI) s108.2.2), .dat (eI i137), z109.2.1, z109.2.2.1, z109.2.2.2.1, z109.2.2.2.2.1, z109.2.2.2.2.2.1, z109.2.2.2.2.2.2.2, z109.2.2.2.2.2.2.1, .dat ((eL (e2 eI eI)) held_122), .dat ((e2 eI eI) s133), .no, .no], rfl, t_yes, (t_call2 (A := (atI s108.2.1 i137)) (B := (atI plan' i137)) (N := N__law_by) t__law_by (t_f2 (A := (some s108.2.1)) (B := (some i137)) (h := (fun x138 y139 => (atI x138 y139))) g_ixL (t_own (i := 5) (e := (e2 eI eI)) (v := s108.2.1) rfl) (t_var (i := 7) (e := eI) (v := i137) rfl)) (t_f2 (A := (some plan')) (B := (some i137)) (h := (fun x140 y141 => (atI x140 y141))) g_ixR (t_var (i := 3) (e := (eR (e2 eI eI))) (v := plan') rfl) (t_var (i := 7) (e := eI) (v := i137) rfl)))⟩))) (lt_of rfl) (fun spent_135 => (r_seq_rel (i := 4) (ea := (l2 eI (e2 eI eI))) (a := s108.1) rfl (r_seq_set (i := 8) (A := ((compL (fun (i146 : (Int × (Int × Int))) => (some true)) (fun (i146 : (Int × (Int × Int))) => (N__law_by ((i146.1 - (1 : Int)), (1 : Int)) i146.2)) s108.1).bind fun a149 => N__law_sum a149)) (t_call1 (A := (compL (fun (i146 : (Int × (Int × Int))) => (some true)) (fun (i146 : (Int × (Int × Int))) => (N__law_by ((i146.1 - (1 : Int)), (1 : Int)) i146.2)) s108.1)) (N := N__law_sum) t__law_sum (t_lc (L := (some s108.1)) (ea := (l2 eI (e2 eI eI))) (eb := (e2 eI eI)) (T := fun (i146 : (Int × (Int × Int))) => (some true)) (Bf := fun (i146 : (Int × (Int × Int))) => (N__law_by ((i146.1 - (1 : Int)), (1 : Int)) i146.2)) (i_seqL (A := (some s108.1)) (e := (l2 eI (e2 eI eI))) (t_var (i := 4) (e := (eL (l2 eI (e2 eI eI)))) (v := s108.1) rfl)) (fun i146 => ⟨[(.dat (.list (List.map PyData.int ns))), (.own rw), .dat ((e4 eI eI eI (eR eI)) dam'), .dat ((eR (e2 eI eI)) plan'), .dat ((eL (l2 eI (e2 eI eI))) s108.1), .own (List.map (e2 eI eI) s108.2.1), .own (List.map (eO eI) s108.2.2), z134, z109.2.1, z109.2.2.1, z109.2.2.2.1, .dat (eI i146.1), .dat ((e2 eI eI) i146.2), z109.2.2.2.2.2.2.2, z109.2.2.2.2.2.2.1, .dat ((eL (e2 eI eI)) held_122), .dat ((e2 eI eI) s133), .dat ((e2 eI eI) spent_135), .no], rfl, t_yes, (t_call2 (A := (some ((i146.1 - (1 : Int)), (1 : Int)))) (B := (some i146.2)) (N := N__law_by) t__law_by (t_tup2 (A := (some (i146.1 - (1 : Int)))) (B := (some (1 : Int))) (t_f2 (A := (some i146.1)) (B := (some (1 : Int))) (h := (fun x147 y148 => some (x147 - y148))) g_sub (t_var (i := 11) (e := eI) (v := i146.1) rfl) (t_int (i := 1))) (t_int (i := 1))) (t_var (i := 12) (e := (e2 eI eI)) (v := i146.2) rfl))⟩))) (lt_of rfl) (fun rest_145 => (r_ret (A := ((some s133).bind fun x150 => (N__law_plus spent_135 rest_145).bind fun y151 => some (decide (x150 = y151)))) (t_f2 (A := (some s133)) (B := (N__law_plus spent_135 rest_145)) (h := (fun x150 y151 => some (decide (x150 = y151)))) (g_eq (enc_2 enc_I enc_I) rfl) (t_var (i := 16) (e := (e2 eI eI)) (v := s133) rfl) (t_call2 (A := (some spent_135)) (B := (some rest_145)) (N := N__law_plus) t__law_plus (t_var (i := 17) (e := (e2 eI eI)) (v := spent_135) rfl) (t_var (i := 8) (e := (e2 eI eI)) (v := rest_145) rfl))))))))))))))))))
def Law : Prop := (∀ d1 : DamT, DamIn (7 : Int) d1 → (DamIn 12 d1 ∧ (true = true) ∧ ∀ l3 : List (Int × Int), PlanOf d1 l3 → (N_tail d1 l3 = some true)))
theorem law_of (H : Law) : ∀ ns : List Int, ns.length ≤ 63 → ∃ rw, RowOk rw ∧ F_row (lawEn 19 ns) = some (.list rw) ∧ ∀ en', (∃ rw', en' = (lawEn 19 ns).set 1 (.own rw')) → F_law S__law_less S__law_plus S__law_by (S__law_alike 3) S_ages S_oldest S__law_levels S__law_sum en' fun r => r = .rt (.bool true) := by
  intro ns hns
  refine ⟨_, rowOk (ns := ns) (i := 0) (m := 4440) (c := 0) hns (by decide) (by decide) (by decide) (by decide), rfl, ?_⟩
  rintro en' ⟨rw, rfl⟩
  exact ⟨eI (7 : Int), fun rw => (t_int (i := 7)), ⟨rfl, (7 : Int), rfl, (by decide), (by decide), fun d1 g2 => ⟨_, rfl, ⟨(e4 eI eI eI (eR eI)) d1, fun rw => (t_var (i := 2) (e := (e4 eI eI eI (eR eI))) (v := d1) rfl), ⟨rfl, d1, rfl, (H d1 g2).1, ⟨_, rfl, ⟨true, fun rw => (t_T (P := (some true)) (t_f2 (A := (some ())) (B := (some ())) (h := (fun x5 y6 => some true)) (ec := eB) (fun _ _ => rfl) (t_var (i := 3) (e := eU) (v := ()) rfl) t_non)), if_of (fun _ => ⟨eB true, fun rw => (t_bl (b := true)), (congrArg (fun b => Fl.rt (.bool b)) (H d1 g2).2.1)⟩) (fun e7 => nomatch e7)⟩⟩, fun l3 g4 => ⟨_, rfl, ⟨false, fun rw => (t_T (P := (some false)) (t_f2 (A := (some l3)) (B := (some ())) (h := (fun x8 y9 => some false)) (ec := eB) (fun _ _ => rfl) (t_var (i := 3) (e := (eR (e2 eI eI))) (v := l3) rfl) t_non)), if_of (fun e10 => nomatch e10) (fun _ => (fun rw _ => ⟨true, Eq.trans (t_tail ns rw d1 l3) (congrArg (rtO eB) ((H d1 g2).2.2 l3 g4)), rfl⟩))⟩⟩⟩⟩⟩⟩⟩
structure Txt (K : PySem.W.Frag) (mg : Str → Option Value) : Prop where
  b_abs : mg "abs" = none
  b_all : mg "all" = none
  b_any : mg "any" = none
  b_bool : mg "bool" = none
  b_enumerate : mg "enumerate" = none
  b_int : mg "int" = none
  b_isinstance : mg "isinstance" = none
  b_len : mg "len" = none
  b_list : mg "list" = none
  b_range : mg "range" = none
  b_str : mg "str" = none
  b_tuple : mg "tuple" = none
  b_zip : mg "zip" = none
  m_gcd : mg "gcd" = some (.builtin "math.gcd")
  k_MOST_MONTHS : ∃ t, mg "MOST_MONTHS" = some (.int 12 t)
  k_MOST_WATER : ∃ t, mg "MOST_WATER" = some (.int 1000 t)
section
variable {P : Program} {w : World} {K : PySem.W.Frag} {mg : Str → Option Value} {base : Heap} {Ts : TsT}
abbrev s_is_whole : Stmt := top 6
theorem sc_is_whole : FnScope ["value"] ["value"] (defScope s_is_whole) := ⟨rfl, rfl, rfl, by decide +kernel, rfl, by decide +kernel, by decide +kernel⟩
theorem ok_is_whole (T : Txt K mg) {f : Addr} {fd : FuncData} {cdv : Value} (D : DF K "is_whole" "is_whole" s_is_whole f fd cdv) : FnOk P w K mg base CX0 1 f fd ["value"] (spD K Ts 1 (runD 1 (F_is_whole))) := by
  refine D.ok sc_is_whole fun A outer s H E hr => ?_
  exact (s_one (s_ret (d_and (d_isi isi_int (by rfl) T.b_isinstance (by decide +kernel) (by rfl) T.b_int (by decide +kernel) (d_var 0)) (d_one (d_not (d_isi isi_bool (by rfl) T.b_isinstance (by decide +kernel) (by rfl) T.b_bool (by decide +kernel) (d_var 0)))))))
abbrev s_is_between : Stmt := top 7
theorem sc_is_between : FnScope ["value", "least", "most"] ["value", "least", "most"] (defScope s_is_between) := ⟨rfl, rfl, rfl, by decide +kernel, rfl, by decide +kernel, by decide +kernel⟩
theorem ok_is_between {c_is_whole : List PyData → Option PyData} (T : Txt K mg) {f : Addr} {fd : FuncData} {cdv : Value} (D : DF K "is_between" "is_between" s_is_between f fd cdv) (h_is_whole : CF P w K mg base Ts 1 "is_whole" 1 c_is_whole) : FnOk P w K mg base CX0 2 f fd ["value", "least", "most"] (spD K Ts 3 (runD 3 (F_is_between c_is_whole))) := by
  refine D.ok sc_is_between fun A outer s H E hr => ?_
  have l_is_whole : 1 ≤ 1 := by decide
  exact (s_one (s_ret (d_and (d_call hr (CF.call h_is_whole) l_is_whole (by rfl) (da_cons (d_var 0) da_nil)) (d_one (d_lele (d_var 1) (d_var 0) (d_var 2))))))
abbrev s_is_row_between : Stmt := top 8
theorem sc_is_row_between : FnScope ["value", "least", "most", "number"] ["value", "least", "most"] (defScope s_is_row_between) := ⟨rfl, rfl, rfl, by decide +kernel, rfl, by decide +kernel, by decide +kernel⟩
theorem ok_is_row_between {c_is_between : List PyData → Option PyData} (T : Txt K mg) {f : Addr} {fd : FuncData} {c Pt : Addr} (TB : LamX.TabB base mg c Pt) (hP : Pt ∈ Ts.gs) (D : DF K "is_row_between" "is_row_between" s_is_row_between f fd (.ref c)) (h_is_between : CF P w K mg base Ts 2 "is_between" 3 c_is_between) : FnOk P w K mg base CX0 4 f fd ["value", "least", "most"] (spD K Ts 3 (runD 4 (F_is_row_between c_is_between))) := by
  refine D.ok sc_is_row_between fun A outer s H E hr => ?_
  have l_is_between : 2 ≤ 3 := by decide
  have l_is_betweeng : 2 ≤ 2 := by decide
  have l_gen : 2 + 1 ≤ 3 := by decide
  exact (s_one (s_ret (d_and (d_isi isi_tuple (by rfl) T.b_isinstance (by decide +kernel) (by rfl) T.b_tuple (by decide +kernel) (d_var 0)) (d_one (d_all (own := [("number", 3)]) hr (by rfl) T.b_all (by decide +kernel) TB hP rfl rfl sc_is_row_between.nd (di_seq (d_var 0)) (blkOk_by (own := [("number", 3)]) (N := ["value", "least", "most", "number"]) (sc := defScope s_is_row_between) (by decide +kernel)) (GA.genK_by (by decide +kernel)) (fun _ _ _ _ _ _ _ => (dg_name 3 sc_is_row_between.nd rfl (by first | exact Or.inl rfl | exact Or.inr rfl) (by decide))) (fun _ _ _ _ _ _ _ => (d_call (room_gen (hr.mono l_gen) _) (CF.call h_is_between) l_is_betweeng (by rfl) (da_cons (d_var 3) (da_cons (d_var 1) (da_cons (d_var 2) da_nil))))))))))
abbrev s_is_ratio : Stmt := top 9
theorem sc_is_ratio : FnScope ["value", "top", "bottom"] ["value"] (defScope s_is_ratio) := ⟨rfl, rfl, rfl, by decide +kernel, rfl, by decide +kernel, by decide +kernel⟩
theorem ok_is_ratio {c_is_whole : List PyData → Option PyData} (T : Txt K mg) {f : Addr} {fd : FuncData} {cdv : Value} (D : DF K "is_ratio" "is_ratio" s_is_ratio f fd cdv) (h_is_whole : CF P w K mg base Ts 1 "is_whole" 1 c_is_whole) : FnOk P w K mg base CX0 2 f fd ["value"] (spD K Ts 1 (runD 3 (F_is_ratio c_is_whole))) := by
  refine D.ok sc_is_ratio fun A outer s H E hr => ?_
  have l_is_whole : 1 ≤ 1 := by decide
  exact (s_cons (s_if (dt_not (dt_w (dw_and (dt_val (d_isi isi_tuple (by rfl) T.b_isinstance (by decide +kernel) (by rfl) T.b_tuple (by decide +kernel) (d_var 0))) (dw_and1 (dt_eq hr (d_len (by rfl) T.b_len (d_b (d_var 0))) d_int))))) (s_one (s_ret d_bl)) s_nil) (s_cons (s_bind (vs := [1, 2]) (d_var 0) (dg_tup rfl (dgs_cons (dg_name 1 sc_is_ratio.nd rfl (by first | exact Or.inl rfl | exact Or.inr rfl) (by decide)) (dgs_cons (dg_name 2 sc_is_ratio.nd rfl (by first | exact Or.inl rfl | exact Or.inr rfl) (by decide)) dgs_nil)))) (s_one (s_ret (d_and (d_call hr (CF.call h_is_whole) l_is_whole (by rfl) (da_cons (d_var 1) da_nil)) (d_and (d_call hr (CF.call h_is_whole) l_is_whole (by rfl) (da_cons (d_var 2) da_nil)) (d_and (d_gt (d_var 2) d_int) (d_one (d_eq hr (d_gcd (by rfl) T.m_gcd (d_var 1) (d_var 2)) d_int)))))))))
abbrev s_is_row_of_ratios : Stmt := top 10
theorem sc_is_row_of_ratios : FnScope ["value", "count", "one"] ["value", "count"] (defScope s_is_row_of_ratios) := ⟨rfl, rfl, rfl, by decide +kernel, rfl, by decide +kernel, by decide +kernel⟩
theorem ok_is_row_of_ratios {c_is_ratio : List PyData → Option PyData} (T : Txt K mg) {f : Addr} {fd : FuncData} {c Pt : Addr} (TB : LamX.TabB base mg c Pt) (hP : Pt ∈ Ts.gs) (D : DF K "is_row_of_ratios" "is_row_of_ratios" s_is_row_of_ratios f fd (.ref c)) (h_is_ratio : CF P w K mg base Ts 2 "is_ratio" 1 c_is_ratio) : FnOk P w K mg base CX0 4 f fd ["value", "count"] (spD K Ts 2 (runD 3 (F_is_row_of_ratios c_is_ratio))) := by
  refine D.ok sc_is_row_of_ratios fun A outer s H E hr => ?_
  have l_is_ratio : 2 ≤ 3 := by decide
  have l_is_ratiog : 2 ≤ 2 := by decide
  have l_gen : 2 + 1 ≤ 3 := by decide
  exact (s_cons (s_if (dt_not (dt_w (dw_and (dt_val (d_isi isi_tuple (by rfl) T.b_isinstance (by decide +kernel) (by rfl) T.b_tuple (by decide +kernel) (d_var 0))) (dw_and1 (dt_eq hr (d_len (by rfl) T.b_len (d_b (d_var 0))) (d_var 1)))))) (s_one (s_ret d_bl)) s_nil) (s_one (s_ret (d_all (own := [("one", 2)]) hr (by rfl) T.b_all (by decide +kernel) TB hP rfl rfl sc_is_row_of_ratios.nd (di_seq (d_var 0)) (blkOk_by (own := [("one", 2)]) (N := ["value", "count", "one"]) (sc := defScope s_is_row_of_ratios) (by decide +kernel)) (GA.genK_by (by decide +kernel)) (fun _ _ _ _ _ _ _ => (dg_name 2 sc_is_row_of_ratios.nd rfl (by first | exact Or.inl rfl | exact Or.inr rfl) (by decide))) (fun _ _ _ _ _ _ _ => (d_and (d_call (room_gen (hr.mono l_gen) _) (CF.call h_is_ratio) l_is_ratiog (by rfl) (da_cons (d_var 2) da_nil)) (d_one (d_ge (b_ix (d_b (d_var 2)) d_int) d_int))))))))
abbrev s_ratio : Stmt := top 11
theorem sc_ratio : FnScope ["top", "bottom", "shared"] ["top", "bottom"] (defScope s_ratio) := ⟨rfl, rfl, rfl, by decide +kernel, rfl, by decide +kernel, by decide +kernel⟩
theorem ok_ratio (T : Txt K mg) {f : Addr} {fd : FuncData} {cdv : Value} (D : DF K "ratio" "ratio" s_ratio f fd cdv) : FnOk P w K mg base CX0 1 f fd ["top", "bottom"] (spD K Ts 2 (runD 3 (F_ratio))) := by
  refine D.ok sc_ratio fun A outer s H E hr => ?_
  exact (s_cons (s_set (i := 2) sc_ratio.nd rfl (by first | exact Or.inl rfl | exact Or.inr rfl) (d_gcd (by rfl) T.m_gcd (d_var 0) (d_var 1))) (s_one (s_ret (d_tup (da_cons (d_div (d_var 0) (d_var 2)) (da_cons (d_div (d_var 1) (d_var 2)) da_nil))))))
abbrev s_plus : Stmt := top 12
theorem sc_plus : FnScope ["one", "other"] ["one", "other"] (defScope s_plus) := ⟨rfl, rfl, rfl, by decide +kernel, rfl, by decide +kernel, by decide +kernel⟩
theorem ok_plus {c_ratio : List PyData → Option PyData} (T : Txt K mg) {f : Addr} {fd : FuncData} {cdv : Value} (D : DF K "plus" "plus" s_plus f fd cdv) (h_ratio : CF P w K mg base Ts 1 "ratio" 2 c_ratio) : FnOk P w K mg base CX0 2 f fd ["one", "other"] (spD K Ts 2 (runD 2 (F_plus c_ratio))) := by
  refine D.ok sc_plus fun A outer s H E hr => ?_
  have l_ratio : 1 ≤ 1 := by decide
  exact (s_one (s_ret (d_call hr (CF.call h_ratio) l_ratio (by rfl) (da_cons (d_plus (d_times (b_ix (d_b (d_var 0)) d_int) (b_ix (d_b (d_var 1)) d_int)) (d_times (b_ix (d_b (d_var 1)) d_int) (b_ix (d_b (d_var 0)) d_int))) (da_cons (d_times (b_ix (d_b (d_var 0)) d_int) (b_ix (d_b (d_var 1)) d_int)) da_nil)))))
abbrev s_minus : Stmt := top 13
theorem sc_minus : FnScope ["one", "other"] ["one", "other"] (defScope s_minus) := ⟨rfl, rfl, rfl, by decide +kernel, rfl, by decide +kernel, by decide +kernel⟩
theorem ok_minus {c_ratio : List PyData → Option PyData} (T : Txt K mg) {f : Addr} {fd : FuncData} {cdv : Value} (D : DF K "minus" "minus" s_minus f fd cdv) (h_ratio : CF P w K mg base Ts 1 "ratio" 2 c_ratio) : FnOk P w K mg base CX0 2 f fd ["one", "other"] (spD K Ts 2 (runD 2 (F_minus c_ratio))) := by
  refine D.ok sc_minus fun A outer s H E hr => ?_
  have l_ratio : 1 ≤ 1 := by decide
  exact (s_one (s_ret (d_call hr (CF.call h_ratio) l_ratio (by rfl) (da_cons (d_sub (d_times (b_ix (d_b (d_var 0)) d_int) (b_ix (d_b (d_var 1)) d_int)) (d_times (b_ix (d_b (d_var 1)) d_int) (b_ix (d_b (d_var 0)) d_int))) (da_cons (d_times (b_ix (d_b (d_var 0)) d_int) (b_ix (d_b (d_var 1)) d_int)) da_nil)))))
abbrev s_times : Stmt := top 14
theorem sc_times : FnScope ["one", "other"] ["one", "other"] (defScope s_times) := ⟨rfl, rfl, rfl, by decide +kernel, rfl, by decide +kernel, by decide +kernel⟩
theorem ok_times {c_ratio : List PyData → Option PyData} (T : Txt K mg) {f : Addr} {fd : FuncData} {cdv : Value} (D : DF K "times" "times" s_times f fd cdv) (h_ratio : CF P w K mg base Ts 1 "ratio" 2 c_ratio) : FnOk P w K mg base CX0 2 f fd ["one", "other"] (spD K Ts 2 (runD 2 (F_times c_ratio))) := by
  refine D.ok sc_times fun A outer s H E hr => ?_
  have l_ratio : 1 ≤ 1 := by decide
  exact (s_one (s_ret (d_call hr (CF.call h_ratio) l_ratio (by rfl) (da_cons (d_times (b_ix (d_b (d_var 0)) d_int) (b_ix (d_b (d_var 1)) d_int)) (da_cons (d_times (b_ix (d_b (d_var 0)) d_int) (b_ix (d_b (d_var 1)) d_int)) da_nil)))))
abbrev s_divided : Stmt := top 15
theorem sc_divided : FnScope ["one", "other", "top", "bottom"] ["one", "other"] (defScope s_divided) := ⟨rfl, rfl, rfl, by decide +kernel, rfl, by decide +kernel, by decide +kernel⟩
theorem ok_divided {c_ratio : List PyData → Option PyData} (T : Txt K mg) {f : Addr} {fd : FuncData} {cdv : Value} (D : DF K "divided" "divided" s_divided f fd cdv) (h_ratio : CF P w K mg base Ts 1 "ratio" 2 c_ratio) : FnOk P w K mg base CX0 2 f fd ["one", "other"] (spD K Ts 2 (runD 4 (F_divided c_ratio))) := by
  refine D.ok sc_divided fun A outer s H E hr => ?_
  have l_ratio : 1 ≤ 1 := by decide
  exact (s_cons (s_par (i := 2) (j := 3) rfl sc_divided.nd rfl rfl (by decide) rfl rfl (d_times (b_ix (d_b (d_var 0)) d_int) (b_ix (d_b (d_var 1)) d_int)) (d_times (b_ix (d_b (d_var 0)) d_int) (b_ix (d_b (d_var 1)) d_int)) (by rfl)) (s_one (s_ret (d_if (dt_gt (d_var 3) d_int) (d_call hr (CF.call h_ratio) l_ratio (by rfl) (da_cons (d_var 2) (da_cons (d_var 3) da_nil))) (d_call hr (CF.call h_ratio) l_ratio (by rfl) (da_cons (d_neg (d_var 2)) (da_cons (d_neg (d_var 3)) da_nil)))))))
abbrev s_sum_of_ratios : Stmt := top 16
theorem sc_sum_of_ratios : FnScope ["ratios", "total", "one"] ["ratios"] (defScope s_sum_of_ratios) := ⟨rfl, rfl, rfl, by decide +kernel, rfl, by decide +kernel, by decide +kernel⟩
theorem ok_sum_of_ratios {c_plus : List PyData → Option PyData} (T : Txt K mg) {f : Addr} {fd : FuncData} {cdv : Value} (D : DF K "sum_of_ratios" "sum_of_ratios" s_sum_of_ratios f fd cdv) (h_plus : CF P w K mg base Ts 2 "plus" 2 c_plus) : FnOk P w K mg base CX0 3 f fd ["ratios"] (spD K Ts 1 (runD 3 (F_sum_of_ratios c_plus))) := by
  refine D.ok sc_sum_of_ratios fun A outer s H E hr => ?_
  have l_plus : 2 ≤ 2 := by decide
  exact (s_cons (s_set (i := 1) sc_sum_of_ratios.nd rfl (by first | exact Or.inl rfl | exact Or.inr rfl) (d_tup (da_cons d_int (da_cons d_int da_nil)))) (s_cons (s_for (vs := [2]) PassesOwn.never rfl (di_seq (d_var 0)) (dg_name 2 sc_sum_of_ratios.nd rfl (by first | exact Or.inl rfl | exact Or.inr rfl) (by decide)) (s_one (s_set (i := 1) sc_sum_of_ratios.nd rfl (by first | exact Or.inl rfl | exact Or.inr rfl) (d_call hr (CF.call h_plus) l_plus (by rfl) (da_cons (d_var 1) (da_cons (d_var 2) da_nil)))))) (s_one (s_ret (d_var 1)))))
abbrev s_is_less : Stmt := top 17
theorem sc_is_less : FnScope ["one", "other"] ["one", "other"] (defScope s_is_less) := ⟨rfl, rfl, rfl, by decide +kernel, rfl, by decide +kernel, by decide +kernel⟩
theorem ok_is_less (T : Txt K mg) {f : Addr} {fd : FuncData} {cdv : Value} (D : DF K "is_less" "is_less" s_is_less f fd cdv) : FnOk P w K mg base CX0 1 f fd ["one", "other"] (spD K Ts 2 (runD 2 (F_is_less))) := by
  refine D.ok sc_is_less fun A outer s H E hr => ?_
  exact (s_one (s_ret (d_lt (d_times (b_ix (d_b (d_var 0)) d_int) (b_ix (d_b (d_var 1)) d_int)) (d_times (b_ix (d_b (d_var 1)) d_int) (b_ix (d_b (d_var 0)) d_int)))))
abbrev s_least_ratio : Stmt := top 18
theorem sc_least_ratio : FnScope ["ratios", "least", "one"] ["ratios"] (defScope s_least_ratio) := ⟨rfl, rfl, rfl, by decide +kernel, rfl, by decide +kernel, by decide +kernel⟩
theorem ok_least_ratio {c_is_less : List PyData → Option PyData} (T : Txt K mg) {f : Addr} {fd : FuncData} {cdv : Value} (D : DF K "least_ratio" "least_ratio" s_least_ratio f fd cdv) (h_is_less : CF P w K mg base Ts 1 "is_less" 2 c_is_less) : FnOk P w K mg base CX0 2 f fd ["ratios"] (spD K Ts 1 (runD 3 (F_least_ratio c_is_less))) := by
  refine D.ok sc_least_ratio fun A outer s H E hr => ?_
  have l_is_less : 1 ≤ 1 := by decide
  exact (s_cons (s_set (i := 1) sc_least_ratio.nd rfl (by first | exact Or.inl rfl | exact Or.inr rfl) (b_ix (d_b (d_var 0)) d_int)) (s_cons (s_for (vs := [2]) PassesOwn.never rfl (di_seq (d_var 0)) (dg_name 2 sc_least_ratio.nd rfl (by first | exact Or.inl rfl | exact Or.inr rfl) (by decide)) (s_one (s_if (dt_val (d_call hr (CF.call h_is_less) l_is_less (by rfl) (da_cons (d_var 2) (da_cons (d_var 1) da_nil)))) (s_one (s_set (i := 1) sc_least_ratio.nd rfl (by first | exact Or.inl rfl | exact Or.inr rfl) (d_var 2))) s_nil))) (s_one (s_ret (d_var 1)))))
abbrev s_is_inflows : Stmt := top 22
theorem sc_is_inflows : FnScope ["value"] ["value"] (defScope s_is_inflows) := ⟨rfl, rfl, rfl, by decide +kernel, rfl, by decide +kernel, by decide +kernel⟩
theorem ok_is_inflows {c_is_row_between : List PyData → Option PyData} (T : Txt K mg) {f : Addr} {fd : FuncData} {cdv : Value} (D : DF K "is_inflows" "is_inflows" s_is_inflows f fd cdv) (h_is_row_between : CF P w K mg base Ts 4 "is_row_between" 3 c_is_row_between) : FnOk P w K mg base CX0 5 f fd ["value"] (spD K Ts 1 (runD 1 (F_is_inflows c_is_row_between))) := by
  refine D.ok sc_is_inflows fun A outer s H E hr => ?_
  have l_is_row_between : 4 ≤ 4 := by decide
  exact (s_one (s_ret (d_and (d_call hr (CF.call h_is_row_between) l_is_row_between (by rfl) (da_cons (d_var 0) (da_cons d_int (da_cons (d_globE (by rfl) T.k_MOST_WATER) da_nil)))) (d_one (d_lele d_int (d_len (by rfl) T.b_len (d_b (d_var 0))) (d_globE (by rfl) T.k_MOST_MONTHS))))))
abbrev s_is_dam : Stmt := top 23
theorem sc_is_dam : FnScope ["value", "capacity", "start", "end", "inflows"] ["value"] (defScope s_is_dam) := ⟨rfl, rfl, rfl, by decide +kernel, rfl, by decide +kernel, by decide +kernel⟩
theorem ok_is_dam {c_is_between c_is_inflows : List PyData → Option PyData} (T : Txt K mg) {f : Addr} {fd : FuncData} {cdv : Value} (D : DF K "is_dam" "is_dam" s_is_dam f fd cdv) (h_is_between : CF P w K mg base Ts 2 "is_between" 3 c_is_between) (h_is_inflows : CF P w K mg base Ts 5 "is_inflows" 1 c_is_inflows) : FnOk P w K mg base CX0 6 f fd ["value"] (spD K Ts 1 (runD 5 (F_is_dam c_is_between c_is_inflows))) := by
  refine D.ok sc_is_dam fun A outer s H E hr => ?_
  have l_is_between : 2 ≤ 5 := by decide
  have l_is_inflows : 5 ≤ 5 := by decide
  exact (s_cons (s_if (dt_not (dt_w (dw_and (dt_val (d_isi isi_tuple (by rfl) T.b_isinstance (by decide +kernel) (by rfl) T.b_tuple (by decide +kernel) (d_var 0))) (dw_and1 (dt_eq hr (d_len (by rfl) T.b_len (d_b (d_var 0))) d_int))))) (s_one (s_ret d_bl)) s_nil) (s_cons (s_bind (vs := [1, 2, 3, 4]) (d_var 0) (dg_tup rfl (dgs_cons (dg_name 1 sc_is_dam.nd rfl (by first | exact Or.inl rfl | exact Or.inr rfl) (by decide)) (dgs_cons (dg_name 2 sc_is_dam.nd rfl (by first | exact Or.inl rfl | exact Or.inr rfl) (by decide)) (dgs_cons (dg_name 3 sc_is_dam.nd rfl (by first | exact Or.inl rfl | exact Or.inr rfl) (by decide)) (dgs_cons (dg_name 4 sc_is_dam.nd rfl (by first | exact Or.inl rfl | exact Or.inr rfl) (by decide)) dgs_nil)))))) (s_cons (s_if (dt_not (dt_val (d_call hr (CF.call h_is_between) l_is_between (by rfl) (da_cons (d_var 1) (da_cons d_int (da_cons (d_globE (by rfl) T.k_MOST_WATER) da_nil)))))) (s_one (s_ret d_bl)) s_nil) (s_one (s_ret (d_and (d_call hr (CF.call h_is_between) l_is_between (by rfl) (da_cons (d_var 2) (da_cons d_int (da_cons (d_var 1) da_nil)))) (d_and (d_call hr (CF.call h_is_between) l_is_between (by rfl) (da_cons (d_var 3) (da_cons d_int (da_cons (d_var 1) da_nil)))) (d_one (d_call hr (CF.call h_is_inflows) l_is_inflows (by rfl) (da_cons (d_var 4) da_nil))))))))))
abbrev s_check_dam : Stmt := top 24
theorem sc_check_dam : FnScope ["dam"] ["dam"] (defScope s_check_dam) := ⟨rfl, rfl, rfl, by decide +kernel, rfl, by decide +kernel, by decide +kernel⟩
theorem ok_check_dam {c_is_dam : List PyData → Option PyData} (T : Txt K mg) {f : Addr} {fd : FuncData} {cdv : Value} (D : DF K "check_dam" "check_dam" s_check_dam f fd cdv) (h_is_dam : CF P w K mg base Ts 6 "is_dam" 1 c_is_dam) : FnOk P w K mg base CX0 7 f fd ["dam"] (spD K Ts 1 (runD 1 (F_check_dam c_is_dam))) := by
  refine D.ok sc_check_dam fun A outer s H E hr => ?_
  have l_is_dam : 6 ≤ 6 := by decide
  exact (s_one (s_if (dt_not (dt_val (d_call hr (CF.call h_is_dam) l_is_dam (by rfl) (da_cons (d_var 0) da_nil)))) (s_one s_never) s_nil))
abbrev s_levels_from : Stmt := top 25
theorem sc_levels_from : FnScope ["start", "coming", "releases", "held", "behind", "water", "release"] ["start", "coming", "releases"] (defScope s_levels_from) := ⟨rfl, rfl, rfl, by decide +kernel, rfl, by decide +kernel, by decide +kernel⟩
theorem ok_levels_from {c_minus c_plus : List PyData → Option PyData} (T : Txt K mg) {f : Addr} {fd : FuncData} {cdv : Value} (D : DF K "levels_from" "levels_from" s_levels_from f fd cdv) (h_minus : CF P w K mg base Ts 2 "minus" 2 c_minus) (h_plus : CF P w K mg base Ts 2 "plus" 2 c_plus) : FnOk P w K mg base CX0 3 f fd ["start", "coming", "releases"] (spD K Ts 3 (runD 7 (F_levels_from c_minus c_plus))) := by
  refine D.ok sc_levels_from fun A outer s H E hr => ?_
  have l_minus : 2 ≤ 2 := by decide
  have l_plus : 2 ≤ 2 := by decide
  exact (s_cons (s_set (i := 3) sc_levels_from.nd rfl (by first | exact Or.inl rfl | exact Or.inr rfl) (d_var 0)) (s_cons (s_own (i := 4) sc_levels_from.nd rfl (by first | exact Or.inl rfl | exact Or.inr rfl) (n_lst da_nil)) (s_cons (s_for (vs := [5, 6]) PassesOwn.never rfl (di_zip (by rfl) T.b_zip (d_var 1) (d_var 2)) (dg_tup rfl (dgs_cons (dg_name 5 sc_levels_from.nd rfl (by first | exact Or.inl rfl | exact Or.inr rfl) (by decide)) (dgs_cons (dg_name 6 sc_levels_from.nd rfl (by first | exact Or.inl rfl | exact Or.inr rfl) (by decide)) dgs_nil))) (s_cons (s_set (i := 3) sc_levels_from.nd rfl (by first | exact Or.inl rfl | exact Or.inr rfl) (d_call hr (CF.call h_minus) l_minus (by rfl) (da_cons (d_call hr (CF.call h_plus) l_plus (by rfl) (da_cons (d_var 3) (da_cons (d_var 5) da_nil))) (da_cons (d_var 6) da_nil)))) (s_one (s_app (i := 4) (ha := (d_var 3)))))) (s_one (s_ret (d_tuple (by rfl) T.b_tuple (by decide +kernel) (b_own 4)))))))
abbrev s_levels_behind : Stmt := top 26
theorem sc_levels_behind : FnScope ["dam", "releases", "inflow"] ["dam", "releases"] (defScope s_levels_behind) := ⟨rfl, rfl, rfl, by decide +kernel, rfl, by decide +kernel, by decide +kernel⟩
theorem ok_levels_behind {c_levels_from : List PyData → Option PyData} (T : Txt K mg) {f : Addr} {fd : FuncData} {cdv : Value} (D : DF K "levels_behind" "levels_behind" s_levels_behind f fd cdv) (h_levels_from : CF P w K mg base Ts 3 "levels_from" 3 c_levels_from) : FnOk P w K mg base CX0 4 f fd ["dam", "releases"] (spD K Ts 2 (runD 3 (F_levels_behind c_levels_from))) := by
  refine D.ok sc_levels_behind fun A outer s H E hr => ?_
  have l_levels_from : 3 ≤ 3 := by decide
  exact (s_one (s_ret (d_call hr (CF.call h_levels_from) l_levels_from (by rfl) (da_cons (d_tup (da_cons (b_ix (d_b (d_var 0)) d_int) (da_cons d_int da_nil))) (da_cons (d_lc (own := [("inflow", 2)]) rfl sc_levels_behind.nd (di_seq (b_ix (d_b (d_var 0)) d_int)) (blkOk_by (own := [("inflow", 2)]) (N := ["dam", "releases", "inflow"]) (sc := defScope s_levels_behind) (by decide +kernel)) (fun _ _ _ _ _ => (dg_name 2 sc_levels_behind.nd rfl (by first | exact Or.inl rfl | exact Or.inr rfl) (by decide))) (fun _ _ _ _ _ => dts_nil) (fun _ _ _ _ _ => (d_tup (da_cons (d_var 2) (da_cons d_int da_nil))))) (da_cons (d_var 1) da_nil))))))
abbrev s_can_hold : Stmt := top 27
theorem sc_can_hold : FnScope ["dam", "behind", "capacity", "_", "end", "held"] ["dam", "behind"] (defScope s_can_hold) := ⟨rfl, rfl, rfl, by decide +kernel, rfl, by decide +kernel, by decide +kernel⟩
theorem ok_can_hold {c_is_less : List PyData → Option PyData} (T : Txt K mg) {f : Addr} {fd : FuncData} {c Pt : Addr} (TB : LamX.TabB base mg c Pt) (hP : Pt ∈ Ts.gs) (D : DF K "can_hold" "can_hold" s_can_hold f fd (.ref c)) (h_is_less : CF P w K mg base Ts 1 "is_less" 2 c_is_less) : FnOk P w K mg base CX0 3 f fd ["dam", "behind"] (spD K Ts 2 (runD 6 (F_can_hold c_is_less))) := by
  refine D.ok sc_can_hold fun A outer s H E hr => ?_
  have l_is_less : 1 ≤ 2 := by decide
  have l_is_lessg : 1 ≤ 1 := by decide
  have l_gen : 1 + 1 ≤ 2 := by decide
  exact (s_cons (s_bind (vs := [2, 3, 4, 3]) (d_var 0) (dg_tup rfl (dgs_cons (dg_name 2 sc_can_hold.nd rfl (by first | exact Or.inl rfl | exact Or.inr rfl) (by decide)) (dgs_cons (dg_name 3 sc_can_hold.nd rfl (by first | exact Or.inl rfl | exact Or.inr rfl) (by decide)) (dgs_cons (dg_name 4 sc_can_hold.nd rfl (by first | exact Or.inl rfl | exact Or.inr rfl) (by decide)) (dgs_cons (dg_name 3 sc_can_hold.nd rfl (by first | exact Or.inl rfl | exact Or.inr rfl) (by decide)) dgs_nil)))))) (s_cons (s_if (dt_val (d_any (own := [("held", 5)]) hr (by rfl) T.b_any (by decide +kernel) TB hP rfl rfl sc_can_hold.nd (di_seq (d_var 1)) (blkOk_by (own := [("held", 5)]) (N := ["dam", "behind", "capacity", "_", "end", "held"]) (sc := defScope s_can_hold) (by decide +kernel)) (GA.genK_by (by decide +kernel)) (fun _ _ _ _ _ _ _ => (dg_name 5 sc_can_hold.nd rfl (by first | exact Or.inl rfl | exact Or.inr rfl) (by decide))) (fun _ _ _ _ _ _ _ => (d_or (d_call (room_gen (hr.mono l_gen) _) (CF.call h_is_less) l_is_lessg (by rfl) (da_cons (d_var 5) (da_cons (d_tup (da_cons d_int (da_cons d_int da_nil))) da_nil))) (d_one (d_call (room_gen (hr.mono l_gen) _) (CF.call h_is_less) l_is_lessg (by rfl) (da_cons (d_tup (da_cons (d_var 2) (da_cons d_int da_nil))) (da_cons (d_var 5) da_nil)))))))) (s_one (s_ret d_bl)) s_nil) (s_one (s_ret (d_not (d_call hr (CF.call h_is_less) l_is_less (by rfl) (da_cons (b_ix (d_b (d_var 1)) (d_neg d_int)) (da_cons (d_tup (da_cons (d_var 4) (da_cons d_int da_nil))) da_nil))))))))
abbrev s_is_plan : Stmt := top 28
theorem sc_is_plan : FnScope ["dam", "value"] ["dam", "value"] (defScope s_is_plan) := ⟨rfl, rfl, rfl, by decide +kernel, rfl, by decide +kernel, by decide +kernel⟩
theorem ok_is_plan {c_is_row_of_ratios c_can_hold c_levels_behind : List PyData → Option PyData} (T : Txt K mg) {f : Addr} {fd : FuncData} {cdv : Value} (D : DF K "is_plan" "is_plan" s_is_plan f fd cdv) (h_is_row_of_ratios : CF P w K mg base Ts 4 "is_row_of_ratios" 2 c_is_row_of_ratios) (h_can_hold : CF P w K mg base Ts 3 "can_hold" 2 c_can_hold) (h_levels_behind : CF P w K mg base Ts 4 "levels_behind" 2 c_levels_behind) : FnOk P w K mg base CX0 5 f fd ["dam", "value"] (spD K Ts 2 (runD 2 (F_is_plan c_is_row_of_ratios c_can_hold c_levels_behind))) := by
  refine D.ok sc_is_plan fun A outer s H E hr => ?_
  have l_is_row_of_ratios : 4 ≤ 4 := by decide
  have l_can_hold : 3 ≤ 4 := by decide
  have l_levels_behind : 4 ≤ 4 := by decide
  exact (s_one (s_ret (d_and (d_call hr (CF.call h_is_row_of_ratios) l_is_row_of_ratios (by rfl) (da_cons (d_var 1) (da_cons (d_len (by rfl) T.b_len (d_b (b_ix (d_b (d_var 0)) d_int))) da_nil))) (d_one (d_call hr (CF.call h_can_hold) l_can_hold (by rfl) (da_cons (d_var 0) (da_cons (d_call hr (CF.call h_levels_behind) l_levels_behind (by rfl) (da_cons (d_var 0) (da_cons (d_var 1) da_nil))) da_nil)))))))
abbrev s_check_plan : Stmt := top 29
theorem sc_check_plan : FnScope ["dam", "plan"] ["dam", "plan"] (defScope s_check_plan) := ⟨rfl, rfl, rfl, by decide +kernel, rfl, by decide +kernel, by decide +kernel⟩
theorem ok_check_plan {c_is_plan : List PyData → Option PyData} (T : Txt K mg) {f : Addr} {fd : FuncData} {cdv : Value} (D : DF K "check_plan" "check_plan" s_check_plan f fd cdv) (h_is_plan : CF P w K mg base Ts 5 "is_plan" 2 c_is_plan) : FnOk P w K mg base CX0 6 f fd ["dam", "plan"] (spD K Ts 2 (runD 2 (F_check_plan c_is_plan))) := by
  refine D.ok sc_check_plan fun A outer s H E hr => ?_
  have l_is_plan : 5 ≤ 5 := by decide
  exact (s_one (s_if (dt_not (dt_val (d_call hr (CF.call h_is_plan) l_is_plan (by rfl) (da_cons (d_var 0) (da_cons (d_var 1) da_nil))))) (s_one s_never) s_nil))
abbrev s_parted : Stmt := top 31
theorem sc_parted : FnScope ["waters", "release", "released", "kept", "left", "came", "amount", "taken"] ["waters", "release"] (defScope s_parted) := ⟨rfl, rfl, rfl, by decide +kernel, rfl, by decide +kernel, by decide +kernel⟩
theorem ok_parted {c_least_ratio c_minus : List PyData → Option PyData} (T : Txt K mg) {f : Addr} {fd : FuncData} {cdv : Value} (D : DF K "parted" "parted" s_parted f fd cdv) (h_least_ratio : CF P w K mg base Ts 2 "least_ratio" 1 c_least_ratio) (h_minus : CF P w K mg base Ts 2 "minus" 2 c_minus) : FnOk P w K mg base CX0 3 f fd ["waters", "release"] (spD K Ts 2 (runD 8 (F_parted c_least_ratio c_minus))) := by
  refine D.ok sc_parted fun A outer s H E hr => ?_
  have l_least_ratio : 2 ≤ 2 := by decide
  have l_minus : 2 ≤ 2 := by decide
  exact (s_cons (s_own (i := 2) sc_parted.nd rfl (by first | exact Or.inl rfl | exact Or.inr rfl) (n_lst da_nil)) (s_cons (s_own (i := 3) sc_parted.nd rfl (by first | exact Or.inl rfl | exact Or.inr rfl) (n_lst da_nil)) (s_cons (s_set (i := 4) sc_parted.nd rfl (by first | exact Or.inl rfl | exact Or.inr rfl) (d_var 1)) (s_cons (s_for (vs := [5, 6]) PassesOwn.never rfl (di_seq (d_var 0)) (dg_tup rfl (dgs_cons (dg_name 5 sc_parted.nd rfl (by first | exact Or.inl rfl | exact Or.inr rfl) (by decide)) (dgs_cons (dg_name 6 sc_parted.nd rfl (by first | exact Or.inl rfl | exact Or.inr rfl) (by decide)) dgs_nil))) (s_cons (s_set (i := 7) sc_parted.nd rfl (by first | exact Or.inl rfl | exact Or.inr rfl) (d_call hr (CF.call h_least_ratio) l_least_ratio (by rfl) (da_cons (d_lst (da_cons (d_var 4) (da_cons (d_var 6) da_nil))) da_nil))) (s_cons (s_set (i := 4) sc_parted.nd rfl (by first | exact Or.inl rfl | exact Or.inr rfl) (d_call hr (CF.call h_minus) l_minus (by rfl) (da_cons (d_var 4) (da_cons (d_var 7) da_nil)))) (s_cons (s_if (dt_ne hr (d_var 7) (d_tup (da_cons d_int (da_cons d_int da_nil)))) (s_one (s_app (i := 2) (ha := (d_tup (da_cons (d_var 5) (da_cons (d_var 7) da_nil)))))) s_nil) (s_one (s_if (dt_ne hr (d_var 7) (d_var 6)) (s_one (s_app (i := 3) (ha := (d_tup (da_cons (d_var 5) (da_cons (d_call hr (CF.call h_minus) l_minus (by rfl) (da_cons (d_var 6) (da_cons (d_var 7) da_nil))) da_nil)))))) s_nil)))))) (s_rel 2 (s_rel 3 (s_one (s_ret (d_tup (da_cons (d_var 2) (da_cons (d_var 3) da_nil)))))))))))
abbrev s_waters_of_months : Stmt := top 32
theorem sc_waters_of_months : FnScope ["dam", "plan", "_", "start", "inflows", "kept", "months", "month", "inflow", "release", "released"] ["dam", "plan"] (defScope s_waters_of_months) := ⟨rfl, rfl, rfl, by decide +kernel, rfl, by decide +kernel, by decide +kernel⟩
theorem ok_waters_of_months {c_check_dam c_check_plan c_parted : List PyData → Option PyData} (T : Txt K mg) {f : Addr} {fd : FuncData} {cdv : Value} (D : DF K "waters_of_months" "waters_of_months" s_waters_of_months f fd cdv) (h_check_dam : CF P w K mg base Ts 7 "check_dam" 1 c_check_dam) (h_check_plan : CF P w K mg base Ts 6 "check_plan" 2 c_check_plan) (h_parted : CF P w K mg base Ts 3 "parted" 2 c_parted) : FnOk P w K mg base CX0 8 f fd ["dam", "plan"] (spD K Ts 2 (runD 11 (F_waters_of_months c_check_dam c_check_plan c_parted))) := by
  refine D.ok sc_waters_of_months fun A outer s H E hr => ?_
  have l_check_dam : 7 ≤ 7 := by decide
  have l_check_plan : 6 ≤ 7 := by decide
  have l_parted : 3 ≤ 7 := by decide
  exact (s_cons (s_expr (d_call hr (CF.call h_check_dam) l_check_dam (by rfl) (da_cons (d_var 0) da_nil))) (s_cons (s_expr (d_call hr (CF.call h_check_plan) l_check_plan (by rfl) (da_cons (d_var 0) (da_cons (d_var 1) da_nil)))) (s_cons (s_bind (vs := [2, 3, 2, 4]) (d_var 0) (dg_tup rfl (dgs_cons (dg_name 2 sc_waters_of_months.nd rfl (by first | exact Or.inl rfl | exact Or.inr rfl) (by decide)) (dgs_cons (dg_name 3 sc_waters_of_months.nd rfl (by first | exact Or.inl rfl | exact Or.inr rfl) (by decide)) (dgs_cons (dg_name 2 sc_waters_of_months.nd rfl (by first | exact Or.inl rfl | exact Or.inr rfl) (by decide)) (dgs_cons (dg_name 4 sc_waters_of_months.nd rfl (by first | exact Or.inl rfl | exact Or.inr rfl) (by decide)) dgs_nil)))))) (s_cons (s_set (i := 5) sc_waters_of_months.nd rfl (by first | exact Or.inl rfl | exact Or.inr rfl) (d_lst (da_cons (d_tup (da_cons (d_neg d_int) (da_cons (d_tup (da_cons (d_var 3) (da_cons d_int da_nil))) da_nil))) da_nil))) (s_cons (s_own (i := 6) sc_waters_of_months.nd rfl (by first | exact Or.inl rfl | exact Or.inr rfl) (n_lst da_nil)) (s_cons (s_for (vs := [7, 8, 9]) PassesOwn.never rfl (di_ez (by rfl) T.b_enumerate (by rfl) T.b_zip (d_var 4) (d_var 1)) (dg_tupF rfl (dgf_cons (dg_name 7 sc_waters_of_months.nd rfl (by first | exact Or.inl rfl | exact Or.inr rfl) (by decide)) (dgf_cons (dg_tup rfl (dgs_cons (dg_name 8 sc_waters_of_months.nd rfl (by first | exact Or.inl rfl | exact Or.inr rfl) (by decide)) (dgs_cons (dg_name 9 sc_waters_of_months.nd rfl (by first | exact Or.inl rfl | exact Or.inr rfl) (by decide)) dgs_nil))) dgf_nil))) (s_cons (s_bind (vs := [10, 5]) (d_call hr (CF.call h_parted) l_parted (by rfl) (da_cons (d_plus (d_var 5) (d_lst (da_cons (d_tup (da_cons (d_var 7) (da_cons (d_tup (da_cons (d_var 8) (da_cons d_int da_nil))) da_nil))) da_nil))) (da_cons (d_var 9) da_nil))) (dg_tup rfl (dgs_cons (dg_name 10 sc_waters_of_months.nd rfl (by first | exact Or.inl rfl | exact Or.inr rfl) (by decide)) (dgs_cons (dg_name 5 sc_waters_of_months.nd rfl (by first | exact Or.inl rfl | exact Or.inr rfl) (by decide)) dgs_nil)))) (s_one (s_app (i := 6) (ha := (d_tup (da_cons (d_var 10) (da_cons (d_var 5) da_nil)))))))) (s_rel 6 (s_one (s_ret (d_var 6))))))))))
abbrev s_mean_age : Stmt := top 33
theorem sc_mean_age : FnScope ["released", "month", "ages_together", "came", "amount", "_"] ["released", "month"] (defScope s_mean_age) := ⟨rfl, rfl, rfl, by decide +kernel, rfl, by decide +kernel, by decide +kernel⟩
theorem ok_mean_age {c_sum_of_ratios c_times c_divided : List PyData → Option PyData} (T : Txt K mg) {f : Addr} {fd : FuncData} {cdv : Value} (D : DF K "mean_age" "mean_age" s_mean_age f fd cdv) (h_sum_of_ratios : CF P w K mg base Ts 3 "sum_of_ratios" 1 c_sum_of_ratios) (h_times : CF P w K mg base Ts 2 "times" 2 c_times) (h_divided : CF P w K mg base Ts 2 "divided" 2 c_divided) : FnOk P w K mg base CX0 4 f fd ["released", "month"] (spD K Ts 2 (runD 6 (F_mean_age c_sum_of_ratios c_times c_divided))) := by
  refine D.ok sc_mean_age fun A outer s H E hr => ?_
  have l_sum_of_ratios : 3 ≤ 3 := by decide
  have l_times : 2 ≤ 3 := by decide
  have l_divided : 2 ≤ 3 := by decide
  exact (s_cons (s_if (dt_eq hr (d_var 0) (d_lst da_nil)) (s_one (s_ret (d_tup (da_cons d_int (da_cons d_int da_nil))))) s_nil) (s_cons (s_set (i := 2) sc_mean_age.nd rfl (by first | exact Or.inl rfl | exact Or.inr rfl) (d_call hr (CF.call h_sum_of_ratios) l_sum_of_ratios (by rfl) (da_cons (d_lc (own := [("came", 3), ("amount", 4)]) rfl sc_mean_age.nd (di_seq (d_var 0)) (blkOk_by (own := [("came", 3), ("amount", 4)]) (N := ["released", "month", "ages_together", "came", "amount", "_"]) (sc := defScope s_mean_age) (by decide +kernel)) (fun _ _ _ _ _ => (dg_tup rfl (dgs_cons (dg_name 3 sc_mean_age.nd rfl (by first | exact Or.inl rfl | exact Or.inr rfl) (by decide)) (dgs_cons (dg_name 4 sc_mean_age.nd rfl (by first | exact Or.inl rfl | exact Or.inr rfl) (by decide)) dgs_nil)))) (fun _ _ _ _ _ => dts_nil) (fun _ _ _ _ _ => (d_call hr (CF.call h_times) l_times (by rfl) (da_cons (d_tup (da_cons (d_sub (d_var 1) (d_var 3)) (da_cons d_int da_nil))) (da_cons (d_var 4) da_nil))))) da_nil))) (s_one (s_ret (d_call hr (CF.call h_divided) l_divided (by rfl) (da_cons (d_var 2) (da_cons (d_call hr (CF.call h_sum_of_ratios) l_sum_of_ratios (by rfl) (da_cons (d_lc (own := [("_", 5), ("amount", 4)]) rfl sc_mean_age.nd (di_seq (d_var 0)) (blkOk_by (own := [("_", 5), ("amount", 4)]) (N := ["released", "month", "ages_together", "came", "amount", "_"]) (sc := defScope s_mean_age) (by decide +kernel)) (fun _ _ _ _ _ => (dg_tup rfl (dgs_cons (dg_name 5 sc_mean_age.nd rfl (by first | exact Or.inl rfl | exact Or.inr rfl) (by decide)) (dgs_cons (dg_name 4 sc_mean_age.nd rfl (by first | exact Or.inl rfl | exact Or.inr rfl) (by decide)) dgs_nil)))) (fun _ _ _ _ _ => dts_nil) (fun _ _ _ _ _ => (d_var 4))) da_nil)) da_nil)))))))
abbrev s_ages : Stmt := top 34
theorem sc_ages : FnScope ["dam", "plan", "month", "released", "_"] ["dam", "plan"] (defScope s_ages) := ⟨rfl, rfl, rfl, by decide +kernel, rfl, by decide +kernel, by decide +kernel⟩
theorem ok_ages {c_waters_of_months c_mean_age : List PyData → Option PyData} (T : Txt K mg) {f : Addr} {fd : FuncData} {cdv : Value} (D : DF K "ages" "ages" s_ages f fd cdv) (h_waters_of_months : CF P w K mg base Ts 8 "waters_of_months" 2 c_waters_of_months) (h_mean_age : CF P w K mg base Ts 4 "mean_age" 2 c_mean_age) : FnOk P w K mg base CX0 9 f fd ["dam", "plan"] (spD K Ts 2 (runD 5 (F_ages c_waters_of_months c_mean_age))) := by
  refine D.ok sc_ages fun A outer s H E hr => ?_
  have l_waters_of_months : 8 ≤ 8 := by decide
  have l_mean_age : 4 ≤ 8 := by decide
  exact (s_one (s_ret (d_tuple (by rfl) T.b_tuple (by decide +kernel) (d_b (d_lc (own := [("month", 2), ("released", 3), ("_", 4)]) rfl sc_ages.nd (di_enum (by rfl) T.b_enumerate (d_call hr (CF.call h_waters_of_months) l_waters_of_months (by rfl) (da_cons (d_var 0) (da_cons (d_var 1) da_nil)))) (blkOk_by (own := [("month", 2), ("released", 3), ("_", 4)]) (N := ["dam", "plan", "month", "released", "_"]) (sc := defScope s_ages) (by decide +kernel)) (fun _ _ _ _ _ => (dg_tupF rfl (dgf_cons (dg_name 2 sc_ages.nd rfl (by first | exact Or.inl rfl | exact Or.inr rfl) (by decide)) (dgf_cons (dg_tup rfl (dgs_cons (dg_name 3 sc_ages.nd rfl (by first | exact Or.inl rfl | exact Or.inr rfl) (by decide)) (dgs_cons (dg_name 4 sc_ages.nd rfl (by first | exact Or.inl rfl | exact Or.inr rfl) (by decide)) dgs_nil))) dgf_nil)))) (fun _ _ _ _ _ => dts_nil) (fun _ _ _ _ _ => (d_call hr (CF.call h_mean_age) l_mean_age (by rfl) (da_cons (d_var 3) (da_cons (d_var 2) da_nil)))))))))
abbrev s_oldest : Stmt := top 35
theorem sc_oldest : FnScope ["dam", "plan", "month", "_", "kept"] ["dam", "plan"] (defScope s_oldest) := ⟨rfl, rfl, rfl, by decide +kernel, rfl, by decide +kernel, by decide +kernel⟩
theorem ok_oldest {c_waters_of_months : List PyData → Option PyData} (T : Txt K mg) {f : Addr} {fd : FuncData} {cdv : Value} (D : DF K "oldest" "oldest" s_oldest f fd cdv) (h_waters_of_months : CF P w K mg base Ts 8 "waters_of_months" 2 c_waters_of_months) : FnOk P w K mg base CX0 9 f fd ["dam", "plan"] (spD K Ts 2 (runD 5 (F_oldest c_waters_of_months))) := by
  refine D.ok sc_oldest fun A outer s H E hr => ?_
  have l_waters_of_months : 8 ≤ 8 := by decide
  exact (s_one (s_ret (d_tuple (by rfl) T.b_tuple (by decide +kernel) (d_b (d_lc (own := [("month", 2), ("_", 3), ("kept", 4)]) rfl sc_oldest.nd (di_enum (by rfl) T.b_enumerate (d_call hr (CF.call h_waters_of_months) l_waters_of_months (by rfl) (da_cons (d_var 0) (da_cons (d_var 1) da_nil)))) (blkOk_by (own := [("month", 2), ("_", 3), ("kept", 4)]) (N := ["dam", "plan", "month", "_", "kept"]) (sc := defScope s_oldest) (by decide +kernel)) (fun _ _ _ _ _ => (dg_tupF rfl (dgf_cons (dg_name 2 sc_oldest.nd rfl (by first | exact Or.inl rfl | exact Or.inr rfl) (by decide)) (dgf_cons (dg_tup rfl (dgs_cons (dg_name 3 sc_oldest.nd rfl (by first | exact Or.inl rfl | exact Or.inr rfl) (by decide)) (dgs_cons (dg_name 4 sc_oldest.nd rfl (by first | exact Or.inl rfl | exact Or.inr rfl) (by decide)) dgs_nil))) dgf_nil)))) (fun _ _ _ _ _ => dts_nil) (fun _ _ _ _ _ => (d_if (dt_eq hr (d_var 4) (d_lst da_nil)) d_non (d_sub (d_var 2) (b_ix (d_b (b_ix (d_b (d_var 4)) d_int)) d_int)))))))))
abbrev s__law_alike : Stmt := top 39
theorem sc__law_alike : FnScope ["found", "due", "k"] ["found", "due"] (defScope s__law_alike) := ⟨rfl, rfl, rfl, by decide +kernel, rfl, by decide +kernel, by decide +kernel⟩
theorem ok__law_alike (T : Txt K mg) {f : Addr} {fd : FuncData} {cdv : Value} (D : DF K "_law_alike" "_law_alike" s__law_alike f fd cdv) : FnOk P w K mg base CX0 1 f fd ["found", "due"] (spD K Ts 2 (runD 3 (F__law_alike0))) := by
  refine D.ok sc__law_alike fun A outer s H E hr => ?_
  exact (s_cons (s_if (dt_val (d_isi2 isi_tuple isi_list (by rfl) T.b_isinstance (by decide +kernel) (by rfl) T.b_tuple (by decide +kernel) (by rfl) T.b_list (by decide +kernel) (d_var 1))) ss_never s_nil) (s_cons (s_if (dt_w (dw_or (dt_isN (d_var 1) d_non) (dw_or1 (dt_val (d_isi isi_str (by rfl) T.b_isinstance (by decide +kernel) (by rfl) T.b_str (by decide +kernel) (d_var 1)))))) (s_one (s_ret (d_and (d_eq hr (d_var 0) (d_var 1)) (d_one (d_eq hr (d_isi isi_str (by rfl) T.b_isinstance (by decide +kernel) (by rfl) T.b_str (by decide +kernel) (d_var 0)) (d_isi isi_str (by rfl) T.b_isinstance (by decide +kernel) (by rfl) T.b_str (by decide +kernel) (d_var 1))))))) s_nil) (s_one (s_ret (d_and (d_isi isi_int (by rfl) T.b_isinstance (by decide +kernel) (by rfl) T.b_int (by decide +kernel) (d_var 0)) (d_and (d_eq hr (d_isi isi_bool (by rfl) T.b_isinstance (by decide +kernel) (by rfl) T.b_bool (by decide +kernel) (d_var 0)) (d_isi isi_bool (by rfl) T.b_isinstance (by decide +kernel) (by rfl) T.b_bool (by decide +kernel) (d_var 1))) (d_one (d_eq hr (d_var 0) (d_var 1)))))))))
theorem okr__law_alike {c__law_alike : List PyData → Option PyData} {j : Nat} (T : Txt K mg) {f : Addr} {fd : FuncData} {cdv : Value} (D : DF K "_law_alike" "_law_alike" s__law_alike f fd cdv) (h__law_alike : CF P w K mg base Ts j "_law_alike" 2 c__law_alike) : FnOk P w K mg base CX0 (j + 1) f fd ["found", "due"] (spD K Ts 2 (runD 3 (F__law_alike c__law_alike))) := by
  refine D.ok sc__law_alike fun A outer s H E hr => ?_
  have l__law_alike : j ≤ j := Nat.le_refl j
  exact (s_cons (s_if (dt_val (d_isi2 isi_tuple isi_list (by rfl) T.b_isinstance (by decide +kernel) (by rfl) T.b_tuple (by decide +kernel) (by rfl) T.b_list (by decide +kernel) (d_var 1))) (s_cons (s_if (dt_w (dw_or (dt_not (dt_val (d_isi2 isi_tuple isi_list (by rfl) T.b_isinstance (by decide +kernel) (by rfl) T.b_tuple (by decide +kernel) (by rfl) T.b_list (by decide +kernel) (d_var 0)))) (dw_or1 (dt_ne hr (d_isi isi_list (by rfl) T.b_isinstance (by decide +kernel) (by rfl) T.b_list (by decide +kernel) (d_var 0)) (d_isi isi_list (by rfl) T.b_isinstance (by decide +kernel) (by rfl) T.b_list (by decide +kernel) (d_var 1)))))) (s_one (s_ret d_bl)) s_nil) (s_cons (s_if (dt_ne hr (d_len (by rfl) T.b_len (d_b (d_var 0))) (d_len (by rfl) T.b_len (d_b (d_var 1)))) (s_one (s_ret d_bl)) s_nil) (s_one (s_ret (d_eq hr (d_lc (own := [("k", 2)]) rfl sc__law_alike.nd (di_range1 (by rfl) T.b_range (d_len (by rfl) T.b_len (d_b (d_var 1)))) (blkOk_by (own := [("k", 2)]) (N := ["found", "due", "k"]) (sc := defScope s__law_alike) (by decide +kernel)) (fun _ _ _ _ _ => (dg_name 2 sc__law_alike.nd rfl (by first | exact Or.inl rfl | exact Or.inr rfl) (by decide))) (fun _ _ _ _ _ => (dts_one (dt_not (dt_val (d_call hr (CF.call h__law_alike) l__law_alike (by rfl) (da_cons (b_ix (d_b (d_var 0)) (d_var 2)) (da_cons (b_ix (d_b (d_var 1)) (d_var 2)) da_nil))))))) (fun _ _ _ _ _ => (d_var 2))) (d_lst da_nil)))))) s_nil) (s_cons (s_if (dt_w (dw_or (dt_isN (d_var 1) d_non) (dw_or1 (dt_val (d_isi isi_str (by rfl) T.b_isinstance (by decide +kernel) (by rfl) T.b_str (by decide +kernel) (d_var 1)))))) (s_one (s_ret (d_and (d_eq hr (d_var 0) (d_var 1)) (d_one (d_eq hr (d_isi isi_str (by rfl) T.b_isinstance (by decide +kernel) (by rfl) T.b_str (by decide +kernel) (d_var 0)) (d_isi isi_str (by rfl) T.b_isinstance (by decide +kernel) (by rfl) T.b_str (by decide +kernel) (d_var 1))))))) s_nil) (s_one (s_ret (d_and (d_isi isi_int (by rfl) T.b_isinstance (by decide +kernel) (by rfl) T.b_int (by decide +kernel) (d_var 0)) (d_and (d_eq hr (d_isi isi_bool (by rfl) T.b_isinstance (by decide +kernel) (by rfl) T.b_bool (by decide +kernel) (d_var 0)) (d_isi isi_bool (by rfl) T.b_isinstance (by decide +kernel) (by rfl) T.b_bool (by decide +kernel) (d_var 1))) (d_one (d_eq hr (d_var 0) (d_var 1)))))))))
abbrev s__law_ratio : Stmt := top 40
theorem sc__law_ratio : FnScope ["top", "bottom", "one", "other"] ["top", "bottom"] (defScope s__law_ratio) := ⟨rfl, rfl, rfl, by decide +kernel, rfl, by decide +kernel, by decide +kernel⟩
theorem ok__law_ratio (w0 : En → Nat) (T : Txt K mg) {f : Addr} {fd : FuncData} {cdv : Value} (D : DF K "_law_ratio" "_law_ratio" s__law_ratio f fd cdv) : FnOk P w K mg base CX0 1 f fd ["top", "bottom"] (spD K Ts 2 (runD 4 (F__law_ratio w0))) := by
  refine D.ok sc__law_ratio fun A outer s H E hr => ?_
  exact (s_cons (s_par (i := 2) (j := 3) rfl sc__law_ratio.nd rfl rfl (by decide) rfl rfl (d_abs (by rfl) T.b_abs (by decide +kernel) (d_var 0)) (d_abs (by rfl) T.b_abs (by decide +kernel) (d_var 1)) (by rfl)) (s_cons (s_while w0 PassesOwn.never (dt_ne hr (d_var 3) d_int) (s_one (s_par (i := 2) (j := 3) rfl sc__law_ratio.nd rfl rfl (by decide) rfl rfl (d_var 3) (d_mod (d_toInt (by rfl) T.b_int (by decide +kernel) (d_var 2)) (d_var 3)) (by rfl)))) (s_one (s_ret (d_if (dt_gt (d_var 1) d_int) (d_tup (da_cons (d_div (d_var 0) (d_var 2)) (da_cons (d_div (d_var 1) (d_var 2)) da_nil))) (d_tup (da_cons (d_sub d_int (d_div (d_var 0) (d_var 2))) (da_cons (d_sub d_int (d_div (d_var 1) (d_var 2))) da_nil))))))))
abbrev s__law_plus : Stmt := top 41
theorem sc__law_plus : FnScope ["one", "other"] ["one", "other"] (defScope s__law_plus) := ⟨rfl, rfl, rfl, by decide +kernel, rfl, by decide +kernel, by decide +kernel⟩
theorem ok__law_plus {c__law_ratio : List PyData → Option PyData} (T : Txt K mg) {f : Addr} {fd : FuncData} {cdv : Value} (D : DF K "_law_plus" "_law_plus" s__law_plus f fd cdv) (h__law_ratio : CF P w K mg base Ts 1 "_law_ratio" 2 c__law_ratio) : FnOk P w K mg base CX0 2 f fd ["one", "other"] (spD K Ts 2 (runD 2 (F__law_plus c__law_ratio))) := by
  refine D.ok sc__law_plus fun A outer s H E hr => ?_
  have l__law_ratio : 1 ≤ 1 := by decide
  exact (s_one (s_ret (d_call hr (CF.call h__law_ratio) l__law_ratio (by rfl) (da_cons (d_plus (d_times (b_ix (d_b (d_var 0)) d_int) (b_ix (d_b (d_var 1)) d_int)) (d_times (b_ix (d_b (d_var 1)) d_int) (b_ix (d_b (d_var 0)) d_int))) (da_cons (d_times (b_ix (d_b (d_var 0)) d_int) (b_ix (d_b (d_var 1)) d_int)) da_nil)))))
abbrev s__law_by : Stmt := top 42
theorem sc__law_by : FnScope ["one", "other"] ["one", "other"] (defScope s__law_by) := ⟨rfl, rfl, rfl, by decide +kernel, rfl, by decide +kernel, by decide +kernel⟩
theorem ok__law_by {c__law_ratio : List PyData → Option PyData} (T : Txt K mg) {f : Addr} {fd : FuncData} {cdv : Value} (D : DF K "_law_by" "_law_by" s__law_by f fd cdv) (h__law_ratio : CF P w K mg base Ts 1 "_law_ratio" 2 c__law_ratio) : FnOk P w K mg base CX0 2 f fd ["one", "other"] (spD K Ts 2 (runD 2 (F__law_by c__law_ratio))) := by
  refine D.ok sc__law_by fun A outer s H E hr => ?_
  have l__law_ratio : 1 ≤ 1 := by decide
  exact (s_one (s_ret (d_call hr (CF.call h__law_ratio) l__law_ratio (by rfl) (da_cons (d_times (b_ix (d_b (d_var 0)) d_int) (b_ix (d_b (d_var 1)) d_int)) (da_cons (d_times (b_ix (d_b (d_var 0)) d_int) (b_ix (d_b (d_var 1)) d_int)) da_nil)))))
abbrev s__law_sum : Stmt := top 43
theorem sc__law_sum : FnScope ["some", "found", "one"] ["some"] (defScope s__law_sum) := ⟨rfl, rfl, rfl, by decide +kernel, rfl, by decide +kernel, by decide +kernel⟩
theorem ok__law_sum {c__law_plus : List PyData → Option PyData} (T : Txt K mg) {f : Addr} {fd : FuncData} {cdv : Value} (D : DF K "_law_sum" "_law_sum" s__law_sum f fd cdv) (h__law_plus : CF P w K mg base Ts 2 "_law_plus" 2 c__law_plus) : FnOk P w K mg base CX0 3 f fd ["some"] (spD K Ts 1 (runD 3 (F__law_sum c__law_plus))) := by
  refine D.ok sc__law_sum fun A outer s H E hr => ?_
  have l__law_plus : 2 ≤ 2 := by decide
  exact (s_cons (s_set (i := 1) sc__law_sum.nd rfl (by first | exact Or.inl rfl | exact Or.inr rfl) (d_tup (da_cons d_int (da_cons d_int da_nil)))) (s_cons (s_for (vs := [2]) PassesOwn.never rfl (di_seq (d_var 0)) (dg_name 2 sc__law_sum.nd rfl (by first | exact Or.inl rfl | exact Or.inr rfl) (by decide)) (s_one (s_set (i := 1) sc__law_sum.nd rfl (by first | exact Or.inl rfl | exact Or.inr rfl) (d_call hr (CF.call h__law_plus) l__law_plus (by rfl) (da_cons (d_var 1) (da_cons (d_var 2) da_nil)))))) (s_one (s_ret (d_var 1)))))
abbrev s__law_less : Stmt := top 44
theorem sc__law_less : FnScope ["one", "other"] ["one", "other"] (defScope s__law_less) := ⟨rfl, rfl, rfl, by decide +kernel, rfl, by decide +kernel, by decide +kernel⟩
theorem ok__law_less (T : Txt K mg) {f : Addr} {fd : FuncData} {cdv : Value} (D : DF K "_law_less" "_law_less" s__law_less f fd cdv) : FnOk P w K mg base CX0 1 f fd ["one", "other"] (spD K Ts 2 (runD 2 (F__law_less))) := by
  refine D.ok sc__law_less fun A outer s H E hr => ?_
  exact (s_one (s_ret (d_lt (d_times (b_ix (d_b (d_var 0)) d_int) (b_ix (d_b (d_var 1)) d_int)) (d_times (b_ix (d_b (d_var 1)) d_int) (b_ix (d_b (d_var 0)) d_int)))))
abbrev s__law_is_ratio : Stmt := top 45
theorem sc__law_is_ratio : FnScope ["value", "one"] ["value"] (defScope s__law_is_ratio) := ⟨rfl, rfl, rfl, by decide +kernel, rfl, by decide +kernel, by decide +kernel⟩
theorem ok__law_is_ratio {c__law_ratio : List PyData → Option PyData} (T : Txt K mg) {f : Addr} {fd : FuncData} {cdv : Value} (D : DF K "_law_is_ratio" "_law_is_ratio" s__law_is_ratio f fd cdv) (h__law_ratio : CF P w K mg base Ts 1 "_law_ratio" 2 c__law_ratio) : FnOk P w K mg base CX0 2 f fd ["value"] (spD K Ts 1 (runD 2 (F__law_is_ratio c__law_ratio))) := by
  refine D.ok sc__law_is_ratio fun A outer s H E hr => ?_
  have l__law_ratio : 1 ≤ 1 := by decide
  exact (s_cons (s_if (dt_not (dt_val (d_isi isi_tuple (by rfl) T.b_isinstance (by decide +kernel) (by rfl) T.b_tuple (by decide +kernel) (d_var 0)))) (s_one (s_ret d_bl)) s_nil) (s_cons (s_if (dt_ne hr (d_len (by rfl) T.b_len (d_b (d_var 0))) d_int) (s_one (s_ret d_bl)) s_nil) (s_cons (s_if (dt_ne hr (d_lc (own := [("one", 1)]) rfl sc__law_is_ratio.nd (di_seq (d_var 0)) (blkOk_by (own := [("one", 1)]) (N := ["value", "one"]) (sc := defScope s__law_is_ratio) (by decide +kernel)) (fun _ _ _ _ _ => (dg_name 1 sc__law_is_ratio.nd rfl (by first | exact Or.inl rfl | exact Or.inr rfl) (by decide))) (fun _ _ _ _ _ => (dts_one (dt_w (dw_or (dt_not (dt_val (d_isi isi_int (by rfl) T.b_isinstance (by decide +kernel) (by rfl) T.b_int (by decide +kernel) (d_var 1)))) (dw_or1 (dt_val (d_isi isi_bool (by rfl) T.b_isinstance (by decide +kernel) (by rfl) T.b_bool (by decide +kernel) (d_var 1)))))))) (fun _ _ _ _ _ => (d_var 1))) (d_lst da_nil)) (s_one (s_ret d_bl)) s_nil) (s_one (s_ret (d_and (d_gt (b_ix (d_b (d_var 0)) d_int) d_int) (d_one (d_eq hr (d_call hr (CF.call h__law_ratio) l__law_ratio (by rfl) (da_cons (b_ix (d_b (d_var 0)) d_int) (da_cons (b_ix (d_b (d_var 0)) d_int) da_nil))) (d_var 0)))))))))
abbrev s__law_levels : Stmt := top 50
theorem sc__law_levels : FnScope ["dam", "plan", "held", "found", "k", "one"] ["dam", "plan"] (defScope s__law_levels) := ⟨rfl, rfl, rfl, by decide +kernel, rfl, by decide +kernel, by decide +kernel⟩
theorem ok__law_levels {c__law_is_ratio c__law_plus c__law_less : List PyData → Option PyData} (T : Txt K mg) {f : Addr} {fd : FuncData} {cdv : Value} (D : DF K "_law_levels" "_law_levels" s__law_levels f fd cdv) (h__law_is_ratio : CF P w K mg base Ts 2 "_law_is_ratio" 1 c__law_is_ratio) (h__law_plus : CF P w K mg base Ts 2 "_law_plus" 2 c__law_plus) (h__law_less : CF P w K mg base Ts 1 "_law_less" 2 c__law_less) : FnOk P w K mg base CX0 3 f fd ["dam", "plan"] (spD K Ts 2 (runD 6 (F__law_levels c__law_is_ratio c__law_plus c__law_less))) := by
  refine D.ok sc__law_levels fun A outer s H E hr => ?_
  have l__law_is_ratio : 2 ≤ 2 := by decide
  have l__law_plus : 2 ≤ 2 := by decide
  have l__law_less : 1 ≤ 2 := by decide
  exact (s_cons (s_if (dt_w (dw_or (dt_not (dt_val (d_isi isi_tuple (by rfl) T.b_isinstance (by decide +kernel) (by rfl) T.b_tuple (by decide +kernel) (d_var 1)))) (dw_or (dt_ne hr (d_len (by rfl) T.b_len (d_b (d_var 1))) (d_len (by rfl) T.b_len (d_b (b_ix (d_b (d_var 0)) d_int)))) (dw_or1 (dt_ne hr (d_lc (own := [("one", 5)]) rfl sc__law_levels.nd (di_seq (d_var 1)) (blkOk_by (own := [("one", 5)]) (N := ["dam", "plan", "held", "found", "k", "one"]) (sc := defScope s__law_levels) (by decide +kernel)) (fun _ _ _ _ _ => (dg_name 5 sc__law_levels.nd rfl (by first | exact Or.inl rfl | exact Or.inr rfl) (by decide))) (fun _ _ _ _ _ => (dts_one (dt_w (dw_or (dt_not (dt_val (d_call hr (CF.call h__law_is_ratio) l__law_is_ratio (by rfl) (da_cons (d_var 5) da_nil)))) (dw_or1 (dt_lt (b_ix (d_b (d_var 5)) d_int) d_int)))))) (fun _ _ _ _ _ => (d_var 5))) (d_lst da_nil)))))) (s_one (s_ret d_non)) s_nil) (s_cons (s_parO (i := 2) (j := 3) rfl sc__law_levels.nd rfl rfl (by decide) rfl rfl (d_tup (da_cons (b_ix (d_b (d_var 0)) d_int) (da_cons d_int da_nil))) (n_lst da_nil) (by rfl)) (s_cons (s_for (vs := [4]) PassesOwn.never rfl (di_range1 (by rfl) T.b_range (d_len (by rfl) T.b_len (d_b (d_var 1)))) (dg_name 4 sc__law_levels.nd rfl (by first | exact Or.inl rfl | exact Or.inr rfl) (by decide)) (s_cons (s_set (i := 2) sc__law_levels.nd rfl (by first | exact Or.inl rfl | exact Or.inr rfl) (d_call hr (CF.call h__law_plus) l__law_plus (by rfl) (da_cons (d_var 2) (da_cons (d_call hr (CF.call h__law_plus) l__law_plus (by rfl) (da_cons (d_tup (da_cons (b_ix (d_b (b_ix (d_b (d_var 0)) d_int)) (d_var 4)) (da_cons d_int da_nil))) (da_cons (d_tup (da_cons (d_sub d_int (b_ix (d_b (b_ix (d_b (d_var 1)) (d_var 4))) d_int)) (da_cons (b_ix (d_b (b_ix (d_b (d_var 1)) (d_var 4))) d_int) da_nil))) da_nil))) da_nil)))) (s_cons (s_if (dt_w (dw_or (dt_lt (b_ix (d_b (d_var 2)) d_int) d_int) (dw_or1 (dt_val (d_call hr (CF.call h__law_less) l__law_less (by rfl) (da_cons (d_tup (da_cons (b_ix (d_b (d_var 0)) d_int) (da_cons d_int da_nil))) (da_cons (d_var 2) da_nil))))))) (s_one (s_ret d_non)) s_nil) (s_one (s_app (i := 3) (ha := (d_var 2))))))) (s_rel 3 (s_one (s_ret (d_if (dt_val (d_call hr (CF.call h__law_less) l__law_less (by rfl) (da_cons (d_var 2) (da_cons (d_tup (da_cons (b_ix (d_b (d_var 0)) d_int) (da_cons d_int da_nil))) da_nil)))) d_non (d_var 3))))))))
end
section
variable {P : Program} {w : World} {K : PySem.W.Frag} {mg : Str → Option Value} {base : Heap} {Ts : TsT}
abbrev s_taken : Stmt := top 37
theorem sc_taken : FnScope ["row", "many", "found", "cell"] ["row", "many"] (defScope s_taken) := ⟨rfl, rfl, rfl, by decide +kernel, rfl, by decide +kernel, by decide +kernel⟩
theorem ok_taken0 (T : Txt K mg) {f : Addr} {fd : FuncData} {cdv : Value} (D : DF K "_law_taken" "_law_taken" s_taken f fd cdv) : FnOk P w K mg base CX0 1 f fd ["row", "many"] (spW K Ts 1 (runZ 4 F_taken)) := by
  refine D.okZ sc_taken rfl (by decide) fun A outer s H E hr => ?_
  exact z_cons (z_if (dt_gt (b_ix (b_own 0) d_int) d_int) (z_cons (z_set (i := 2) sc_taken.nd rfl (by first | exact Or.inl rfl | exact Or.inr rfl) (by decide) (d_mod (d_toInt (by rfl) T.b_int (by decide +kernel) (b_ix (b_own 0) d_int)) (d_var 1))) (z_cons (z_row (c := 3) rfl (by first | exact Or.inl rfl | exact Or.inr (Or.inl rfl) | exact Or.inr (Or.inr rfl)) (d_div (b_ix (b_own 0) d_int) (d_var 1))) (z_one (z_ret (d_var 2))))) z_nil)
    (z_cons (z_row (c := 1) rfl (by first | exact Or.inl rfl | exact Or.inr (Or.inl rfl) | exact Or.inr (Or.inr rfl)) (d_plus (b_ix (b_own 0) d_int) d_int))
    (z_cons (z_if (dt_gt (b_ix (b_own 0) d_int) (d_len (by rfl) T.b_len (d_b (b_ix (b_own 0) d_int)))) (z_cons (z_row (c := 2) rfl (by first | exact Or.inl rfl | exact Or.inr (Or.inl rfl) | exact Or.inr (Or.inr rfl)) (d_mod (d_toInt (by rfl) T.b_int (by decide +kernel) (d_plus (d_mul (b_ix (b_own 0) d_int) d_int) d_int)) d_int)) (z_one (z_ret (d_mod (d_toInt (by rfl) T.b_int (by decide +kernel) (d_div (b_ix (b_own 0) d_int) d_int)) (d_var 1))))) z_nil)
    (z_cons (z_set (i := 3) sc_taken.nd rfl (by first | exact Or.inl rfl | exact Or.inr rfl) (by decide) (b_ix (d_b (b_ix (b_own 0) d_int)) (d_sub (b_ix (b_own 0) d_int) d_int)))
    (z_cons (z_row (c := 2) rfl (by first | exact Or.inl rfl | exact Or.inr (Or.inl rfl) | exact Or.inr (Or.inr rfl)) (d_mod (d_toInt (by rfl) T.b_int (by decide +kernel) (d_plus (d_plus (d_mul (b_ix (b_own 0) d_int) d_int) (d_var 3)) d_int)) d_int))
    (z_cons (z_if (dt_ge (d_var 3) (d_pow d_int d_int)) (z_one (z_row (c := 3) rfl (by first | exact Or.inl rfl | exact Or.inr (Or.inl rfl) | exact Or.inr (Or.inr rfl)) (d_div (d_var 3) (d_var 1)))) z_nil)
    (z_one (z_ret (d_mod (d_toInt (by rfl) T.b_int (by decide +kernel) (d_var 3)) (d_var 1)))))))))
theorem ok_taken (T : Txt K mg) {f : Addr} {fd : FuncData} {cdv : Value} (D : DF K "_law_taken" "_law_taken" s_taken f fd cdv) : FnOk P w K mg base CX0 1 f fd ["row", "many"] (spW K Ts 1 cTaken) := (ok_taken0 T D).imp (spW.imp taken_ok)
abbrev s_pick : Stmt := top 38
theorem sc_pick : FnScope ["row", "things"] ["row", "things"] (defScope s_pick) := ⟨rfl, rfl, rfl, by decide +kernel, rfl, by decide +kernel, by decide +kernel⟩
theorem ok_pick (T : Txt K mg) {f : Addr} {fd : FuncData} {cdv : Value} (D : DF K "_law_pick" "_law_pick" s_pick f fd cdv) (h_taken : CW P w K mg base Ts 1 "_law_taken" 1 cTaken) : FnOk P w K mg base CX0 2 f fd ["row", "things"] (spW K Ts 1 cPick) := by
  refine FnOk.imp (D.okW sc_pick rfl (by decide) rfl fun A outer s H E hr => ?_) (spW.imp pick_ok)
  exact we_ix (we_pure (d_var 1)) (we_draw hr h_taken (by decide) (by rfl) rfl (by first | exact Or.inl rfl | exact Or.inr (Or.inl rfl) | exact Or.inr (Or.inr rfl)) (wa_cons (we_pure (d_len (by rfl) T.b_len (d_b (d_var 1)))) wa_nil))
abbrev s_flow : Stmt := top 46
theorem sc_flow : FnScope ["row"] ["row"] (defScope s_flow) := ⟨rfl, rfl, rfl, by decide +kernel, rfl, by decide +kernel, by decide +kernel⟩
theorem ok_flow (T : Txt K mg) {f : Addr} {fd : FuncData} {cdv : Value} (D : DF K "_law_flow" "_law_flow" s_flow f fd cdv) (h_taken : CW P w K mg base Ts 1 "_law_taken" 1 cTaken) (h_pick : CW P w K mg base Ts 2 "_law_pick" 1 cPick) : FnOk P w K mg base CX0 3 f fd ["row"] (spW K Ts 0 cFlow) := by
  refine FnOk.imp (D.okW sc_flow rfl (by decide) rfl fun A outer s H E hr => ?_) (spW.imp flow_ok)
  exact we_draw hr h_pick (by decide) (by rfl) rfl (by first | exact Or.inl rfl | exact Or.inr (Or.inl rfl) | exact Or.inr (Or.inr rfl)) (wa_cons (we_lst (wa_cons (we_pure d_int) (wa_cons (we_pure d_int) (wa_cons (we_pure d_int) (wa_cons (we_pure d_int) (wa_cons (we_draw hr h_taken (by decide) (by rfl) rfl (by first | exact Or.inl rfl | exact Or.inr (Or.inl rfl) | exact Or.inr (Or.inr rfl)) (wa_cons (we_pure d_int) wa_nil)) (wa_cons (we_draw hr h_pick (by decide) (by rfl) rfl (by first | exact Or.inl rfl | exact Or.inr (Or.inl rfl) | exact Or.inr (Or.inr rfl)) (wa_cons (we_lst (wa_cons (we_pure d_int) (wa_cons (we_pure d_int) wa_nil))) wa_nil)) wa_nil))))))) wa_nil)
end
section
variable {P : Program} {w : World} {K : PySem.W.Frag} {mg : Str → Option Value} {base : Heap} {Ts : TsT}
abbrev s__law_dam : Stmt := top 47
theorem sc__law_dam : FnScope ["row", "most", "capacity", "inflows", "k"] ["row", "most"] (defScope s__law_dam) := ⟨rfl, rfl, rfl, by decide +kernel, rfl, by decide +kernel, by decide +kernel⟩
theorem ok0__law_dam (T : Txt K mg) {f : Addr} {fd : FuncData} {cdv : Value} (D : DF K "_law_dam" "_law_dam" s__law_dam f fd cdv) (h__law_pick : CW P w K mg base Ts 2 "_law_pick" 1 cPick) (h__law_taken : CW P w K mg base Ts 1 "_law_taken" 1 cTaken) (h__law_flow : CW P w K mg base Ts 3 "_law_flow" 0 cFlow) : FnOk P w K mg base CX0 4 f fd ["row", "most"] (spW K Ts 1 (runV 5 (F__law_dam))) := by
  refine D.okV sc__law_dam rfl (by decide) fun A outer s H E hr => ?_
  have l__law_pick : 2 ≤ 3 := by decide
  have l__law_taken : 1 ≤ 3 := by decide
  have l__law_flow : 3 ≤ 3 := by decide
  exact (v_cons (v_set (i := 2) sc__law_dam.nd rfl (by first | exact Or.inl rfl | exact Or.inr rfl) (by decide) (we_draw hr h__law_pick l__law_pick (by rfl) rfl (by first | exact Or.inl rfl | exact Or.inr (Or.inl rfl) | exact Or.inr (Or.inr rfl)) (wa_cons (we_lst (wa_cons (we_pure d_int) (wa_cons (we_pure d_int) (wa_cons (we_pure d_int) (wa_cons (we_draw hr h__law_taken l__law_taken (by rfl) rfl (by first | exact Or.inl rfl | exact Or.inr (Or.inl rfl) | exact Or.inr (Or.inr rfl)) (wa_cons (we_pure d_int) wa_nil)) (wa_cons (we_pure d_int) wa_nil)))))) wa_nil))) (v_cons (v_set (i := 3) sc__law_dam.nd rfl (by first | exact Or.inl rfl | exact Or.inr rfl) (by decide) (we_tuple (by rfl) T.b_tuple (by decide +kernel) (we_lc (own := [("k", 4)]) rfl sc__law_dam.nd (wi_range1 (by rfl) T.b_range (we_plus (we_pure d_int) (we_draw hr h__law_taken l__law_taken (by rfl) rfl (by first | exact Or.inl rfl | exact Or.inr (Or.inl rfl) | exact Or.inr (Or.inr rfl)) (wa_cons (we_pure (d_var 1)) wa_nil)))) (blkOk_by (own := [("k", 4)]) (N := ["row", "most", "capacity", "inflows", "k"]) (sc := defScope s__law_dam) (by decide +kernel)) (by decide) (bOk_name (by decide)) bName_out (fun _ _ _ _ _ => (dg_name 4 sc__law_dam.nd rfl (by first | exact Or.inl rfl | exact Or.inr rfl) (by decide))) (fun _ _ _ _ _ => wts_nil) (fun _ _ _ _ _ => (we_draw hr h__law_flow l__law_flow (by rfl) rfl (by first | exact Or.inl rfl | exact Or.inr (Or.inl rfl) | exact Or.inr (Or.inr rfl)) wa_nil)) (mn_draw mc_flow mna_nil) mnt_yes (mni_range (mn_2 mn_p (mn_draw mc_taken (mna_cons mn_p mna_nil))))))) (v_one (v_ret (we_tup (wa_cons (we_pure (d_var 2)) (wa_cons (we_draw hr h__law_taken l__law_taken (by rfl) rfl (by first | exact Or.inl rfl | exact Or.inr (Or.inl rfl) | exact Or.inr (Or.inr rfl)) (wa_cons (we_pure (d_plus (d_var 2) d_int)) wa_nil)) (wa_cons (we_draw hr h__law_pick l__law_pick (by rfl) rfl (by first | exact Or.inl rfl | exact Or.inr (Or.inl rfl) | exact Or.inr (Or.inr rfl)) (wa_cons (we_lst (wa_cons (we_pure d_int) (wa_cons (we_pure d_int) (wa_cons (we_pure d_int) (wa_cons (we_draw hr h__law_taken l__law_taken (by rfl) rfl (by first | exact Or.inl rfl | exact Or.inr (Or.inl rfl) | exact Or.inr (Or.inr rfl)) (wa_cons (we_pure (d_plus (d_var 2) d_int)) wa_nil)) wa_nil))))) wa_nil)) (wa_cons (we_pure (d_var 3)) wa_nil)))))))))
theorem ok_dam (T : Txt K mg) {f : Addr} {fd : FuncData} {cdv : Value} (D : DF K "_law_dam" "_law_dam" s__law_dam f fd cdv) (h__law_pick : CW P w K mg base Ts 2 "_law_pick" 1 cPick) (h__law_taken : CW P w K mg base Ts 1 "_law_taken" 1 cTaken) (h__law_flow : CW P w K mg base Ts 3 "_law_flow" 0 cFlow) : FnOk P w K mg base CX0 4 f fd ["row", "most"] (spW K Ts 1 cDam) := FnOk.imp (ok0__law_dam T D h__law_pick h__law_taken h__law_flow) (spW.imp dam_ok)
abbrev s__law_draw : Stmt := top 52
theorem sc__law_draw : FnScope ["row", "dam", "held", "plan", "k", "water", "low", "share"] ["row", "dam"] (defScope s__law_draw) := ⟨rfl, rfl, rfl, by decide +kernel, rfl, by decide +kernel, by decide +kernel⟩
theorem ok0__law_draw {c__law_plus c__law_by c__law_levels : List PyData → Option PyData} (T : Txt K mg) {f : Addr} {fd : FuncData} {cdv : Value} (D : DF K "_law_draw" "_law_draw" s__law_draw f fd cdv) (h__law_plus : CF P w K mg base Ts 2 "_law_plus" 2 c__law_plus) (h__law_by : CF P w K mg base Ts 2 "_law_by" 2 c__law_by) (h__law_levels : CF P w K mg base Ts 3 "_law_levels" 2 c__law_levels) (h__law_pick : CW P w K mg base Ts 2 "_law_pick" 1 cPick) : FnOk P w K mg base CX0 4 f fd ["row", "dam"] (spW K Ts 1 (runV 8 (F__law_draw c__law_plus c__law_by c__law_levels))) := by
  refine D.okV sc__law_draw rfl (by decide) fun A outer s H E hr => ?_
  have l__law_plus : 2 ≤ 3 := by decide
  have l__law_by : 2 ≤ 3 := by decide
  have l__law_levels : 3 ≤ 3 := by decide
  have l__law_pick : 2 ≤ 3 := by decide
  exact (v_cons (v_parO (i := 2) (j := 3) rfl sc__law_draw.nd rfl rfl (by decide) (by decide) (by decide) rfl rfl (we_pure (d_tup (da_cons (b_ix (d_b (d_var 1)) d_int) (da_cons d_int da_nil)))) (n_lst da_nil) (by rfl)) (v_cons (v_for (vs := [4]) PassesOwn.never rfl (wi_pure (di_range1 (by rfl) T.b_range (d_len (by rfl) T.b_len (d_b (b_ix (d_b (d_var 1)) d_int))))) (dg_name 4 sc__law_draw.nd rfl (by first | exact Or.inl rfl | exact Or.inr rfl) (by decide)) (bOk_name (by decide)) (by decide) (v_cons (v_set (i := 5) sc__law_draw.nd rfl (by first | exact Or.inl rfl | exact Or.inr rfl) (by decide) (we_pure (d_call hr (CF.call h__law_plus) l__law_plus (by rfl) (da_cons (d_var 2) (da_cons (d_tup (da_cons (b_ix (d_b (b_ix (d_b (d_var 1)) d_int)) (d_var 4)) (da_cons d_int da_nil))) da_nil))))) (v_cons (v_set (i := 6) sc__law_draw.nd rfl (by first | exact Or.inl rfl | exact Or.inr rfl) (by decide) (we_pure (d_call hr (CF.call h__law_plus) l__law_plus (by rfl) (da_cons (d_var 5) (da_cons (d_tup (da_cons (d_sub d_int (b_ix (d_b (d_var 1)) d_int)) (da_cons d_int da_nil))) da_nil))))) (v_cons (v_set (i := 6) sc__law_draw.nd rfl (by first | exact Or.inl rfl | exact Or.inr rfl) (by decide) (we_pure (d_if (dt_gt (b_ix (d_b (d_var 6)) d_int) d_int) (d_var 6) (d_tup (da_cons d_int (da_cons d_int da_nil)))))) (v_cons (v_set (i := 7) sc__law_draw.nd rfl (by first | exact Or.inl rfl | exact Or.inr rfl) (by decide) (we_if (wt_pure (dt_lt (d_plus (d_var 4) d_int) (d_len (by rfl) T.b_len (d_b (b_ix (d_b (d_var 1)) d_int))))) (we_draw hr h__law_pick l__law_pick (by rfl) rfl (by first | exact Or.inl rfl | exact Or.inr (Or.inl rfl) | exact Or.inr (Or.inr rfl)) (wa_cons (we_pure (d_lst (da_cons (d_tup (da_cons d_int (da_cons d_int da_nil))) (da_cons (d_tup (da_cons d_int (da_cons d_int da_nil))) (da_cons (d_tup (da_cons d_int (da_cons d_int da_nil))) (da_cons (d_tup (da_cons d_int (da_cons d_int da_nil))) da_nil)))))) wa_nil)) (we_pure (d_tup (da_cons d_int (da_cons d_int da_nil)))))) (v_cons (v_app (i := 3) (by decide) (ha := (we_pure (d_call hr (CF.call h__law_plus) l__law_plus (by rfl) (da_cons (d_var 6) (da_cons (d_call hr (CF.call h__law_by) l__law_by (by rfl) (da_cons (d_var 7) (da_cons (d_call hr (CF.call h__law_plus) l__law_plus (by rfl) (da_cons (d_var 5) (da_cons (d_tup (da_cons (d_sub d_int (b_ix (d_b (d_var 6)) d_int)) (da_cons (b_ix (d_b (d_var 6)) d_int) da_nil))) da_nil))) da_nil))) da_nil)))))) (v_one (v_set (i := 2) sc__law_draw.nd rfl (by first | exact Or.inl rfl | exact Or.inr rfl) (by decide) (we_pure (d_call hr (CF.call h__law_plus) l__law_plus (by rfl) (da_cons (d_var 5) (da_cons (d_tup (da_cons (d_sub d_int (b_ix (d_b (b_ix (b_own 3) (d_neg d_int))) d_int)) (da_cons (b_ix (d_b (b_ix (b_own 3) (d_neg d_int))) d_int) da_nil))) da_nil)))))))))))) (v_one (v_ret (we_pure (d_if (dt_notN (d_call hr (CF.call h__law_levels) l__law_levels (by rfl) (da_cons (d_var 1) (da_cons (d_tuple (by rfl) T.b_tuple (by decide +kernel) (b_own 3)) da_nil))) d_non) (d_tuple (by rfl) T.b_tuple (by decide +kernel) (b_own 3)) d_non))))))
theorem ok_draw (T : Txt K mg) {f : Addr} {fd : FuncData} {cdv : Value} (D : DF K "_law_draw" "_law_draw" s__law_draw f fd cdv) (h__law_plus : CF P w K mg base Ts 2 "_law_plus" 2 S__law_plus) (h__law_by : CF P w K mg base Ts 2 "_law_by" 2 S__law_by) (h__law_levels : CF P w K mg base Ts 3 "_law_levels" 2 S__law_levels) (h__law_pick : CW P w K mg base Ts 2 "_law_pick" 1 cPick) : FnOk P w K mg base CX0 4 f fd ["row", "dam"] (spW K Ts 1 cDraw) := FnOk.imp (ok0__law_draw T D h__law_plus h__law_by h__law_levels h__law_pick) (spW.imp draw_ok)
end
section
variable {P : Program} {w : World} {K : PySem.W.Frag} {mg : Str → Option Value} {base : Heap} {Ts : TsT}
abbrev s_law : Stmt := top 53
theorem sc_law : FnScope ["script", "row", "dam", "plan", "store", "due", "old", "k", "rest", "whole", "later", "age", "amount", "share", "left", "held", "before", "spent", "one"] ["script"] (defScope s_law) := ⟨rfl, rfl, rfl, by decide +kernel, rfl, by decide +kernel, by decide +kernel⟩
theorem ok_law {c__law_less c__law_plus c__law_by c__law_alike c_ages c_oldest c__law_levels c__law_sum : List PyData → Option PyData} (T : Txt K mg) {f : Addr} {fd : FuncData} {cdv : Value} (D : DF K "law" "law" s_law f fd cdv) (h__law_less : CF P w K mg base Ts 1 "_law_less" 2 c__law_less) (h__law_plus : CF P w K mg base Ts 2 "_law_plus" 2 c__law_plus) (h__law_by : CF P w K mg base Ts 2 "_law_by" 2 c__law_by) (h__law_alike : CF P w K mg base Ts 4 "_law_alike" 2 c__law_alike) (h_ages : CF P w K mg base Ts 9 "ages" 2 c_ages) (h_oldest : CF P w K mg base Ts 9 "oldest" 2 c_oldest) (h__law_levels : CF P w K mg base Ts 3 "_law_levels" 2 c__law_levels) (h__law_sum : CF P w K mg base Ts 3 "_law_sum" 1 c__law_sum) (h__law_dam : CW P w K mg base Ts 4 "_law_dam" 1 cDam) (h__law_draw : CW P w K mg base Ts 4 "_law_draw" 1 cDraw)
    (hF : ∀ ns : List Int, ns.length ≤ 63 → ∃ rw, RowOk rw ∧ F_row (lawEn 19 ns) = some (.list rw) ∧ ∀ en', (∃ rw', en' = (lawEn 19 ns).set 1 (.own rw')) → F_law c__law_less c__law_plus c__law_by c__law_alike c_ages c_oldest c__law_levels c__law_sum en' fun r => r = .rt (.bool true)) : FnOk P w K mg base CX0 10 f fd ["script"] (spLaw K Ts) := by
  refine D.okVL (ρ := 1) sc_law (by decide) rfl (by decide) (fun A outer s H E hr => ?_) (fun A outer s H E hr => ?_) hF
  · exact s_own (i := 1) sc_law.nd rfl (by first | exact Or.inl rfl | exact Or.inr rfl) (n_lst (da_cons (d_var 0) (da_cons d_int (da_cons d_int (da_cons d_int da_nil)))))
  · have l__law_less : 1 ≤ 9 := by decide
    have l__law_plus : 2 ≤ 9 := by decide
    have l__law_by : 2 ≤ 9 := by decide
    have l__law_alike : 4 ≤ 9 := by decide
    have l_ages : 9 ≤ 9 := by decide
    have l_oldest : 9 ≤ 9 := by decide
    have l__law_levels : 3 ≤ 9 := by decide
    have l__law_sum : 3 ≤ 9 := by decide
    have l__law_dam : 4 ≤ 9 := by decide
    have l__law_draw : 4 ≤ 9 := by decide
    exact (v_cons (v_set (i := 2) sc_law.nd rfl (by first | exact Or.inl rfl | exact Or.inr rfl) (by decide) (we_draw hr h__law_dam l__law_dam (by rfl) rfl (by first | exact Or.inl rfl | exact Or.inr (Or.inl rfl) | exact Or.inr (Or.inr rfl)) (wa_cons (we_pure d_int) wa_nil))) (v_cons (v_set (i := 3) sc_law.nd rfl (by first | exact Or.inl rfl | exact Or.inr rfl) (by decide) (we_draw hr h__law_draw l__law_draw (by rfl) rfl (by first | exact Or.inl rfl | exact Or.inr (Or.inl rfl) | exact Or.inr (Or.inr rfl)) (wa_cons (we_pure (d_var 2)) wa_nil))) (v_cons (v_if (wt_pure (dt_isN (d_var 3) d_non)) (v_one (v_ret (we_pure d_bl))) v_nil) (v_end (s_cons (s_par3C (i := 4) (j := 5) (l := 6) rfl sc_law.nd rfl rfl rfl (by decide) (by decide) (by decide) (by first | exact Or.inl rfl | exact Or.inr rfl) (by first | exact Or.inl rfl | exact Or.inr rfl) (by first | exact Or.inl rfl | exact Or.inr rfl) (n_lst (da_cons (d_lst (da_cons d_int (da_cons (d_tup (da_cons (b_ix (d_b (d_var 2)) d_int) (da_cons d_int da_nil))) da_nil))) da_nil)) (n_lst da_nil) (n_lst da_nil)) (s_cons (s_for (vs := [7]) PassesOwn.never rfl (di_range1 (by rfl) T.b_range (d_len (by rfl) T.b_len (d_b (d_var 3)))) (dg_name 7 sc_law.nd rfl (by first | exact Or.inl rfl | exact Or.inr rfl) (by decide)) (s_cons (s_app (i := 4) (ha := (d_lst (da_cons d_int (da_cons (d_tup (da_cons (b_ix (d_b (b_ix (d_b (d_var 2)) d_int)) (d_var 7)) (da_cons d_int da_nil))) da_nil))))) (s_cons (s_par3O (i := 8) (j := 9) (l := 10) rfl sc_law.nd rfl rfl rfl (by decide) (by decide) (by decide) rfl rfl rfl (b_ix (d_b (d_var 3)) (d_var 7)) (d_tup (da_cons d_int (da_cons d_int da_nil))) (n_lst da_nil) (by rfl)) (s_rel 4 (s_cons (s_for (vs := [11, 12]) PassesOwn.never rfl (di_seq (d_var 4)) (dg_lst rfl (dgs_cons (dg_name 11 sc_law.nd rfl (by first | exact Or.inl rfl | exact Or.inr rfl) (by decide)) (dgs_cons (dg_name 12 sc_law.nd rfl (by first | exact Or.inl rfl | exact Or.inr rfl) (by decide)) dgs_nil))) (s_cons (s_set (i := 13) sc_law.nd rfl (by first | exact Or.inl rfl | exact Or.inr rfl) (d_if (dt_val (d_call hr (CF.call h__law_less) l__law_less (by rfl) (da_cons (d_var 8) (da_cons (d_var 12) da_nil)))) (d_var 8) (d_var 12))) (s_cons (s_set (i := 9) sc_law.nd rfl (by first | exact Or.inl rfl | exact Or.inr rfl) (d_call hr (CF.call h__law_plus) l__law_plus (by rfl) (da_cons (d_var 9) (da_cons (d_call hr (CF.call h__law_by) l__law_by (by rfl) (da_cons (d_tup (da_cons (d_var 11) (da_cons d_int da_nil))) (da_cons (d_var 13) da_nil))) da_nil)))) (s_cons (s_set (i := 8) sc_law.nd rfl (by first | exact Or.inl rfl | exact Or.inr rfl) (d_call hr (CF.call h__law_plus) l__law_plus (by rfl) (da_cons (d_var 8) (da_cons (d_tup (da_cons (d_sub d_int (b_ix (d_b (d_var 13)) d_int)) (da_cons (b_ix (d_b (d_var 13)) d_int) da_nil))) da_nil)))) (s_one (s_app (i := 10) (ha := (d_lst (da_cons (d_var 11) (da_cons (d_call hr (CF.call h__law_plus) l__law_plus (by rfl) (da_cons (d_var 12) (da_cons (d_tup (da_cons (d_sub d_int (b_ix (d_b (d_var 13)) d_int)) (da_cons (b_ix (d_b (d_var 13)) d_int) da_nil))) da_nil))) da_nil)))))))))) (s_cons (s_if (dt_ne hr (d_var 8) (d_tup (da_cons d_int (da_cons d_int da_nil)))) (s_one (s_ret d_bl)) s_nil) (s_cons (s_app (i := 5) (ha := (d_if (dt_gt (b_ix (d_b (b_ix (d_b (d_var 3)) (d_var 7))) d_int) d_int) (d_call hr (CF.call h__law_by) l__law_by (by rfl) (da_cons (d_var 9) (da_cons (d_tup (da_cons (b_ix (d_b (b_ix (d_b (d_var 3)) (d_var 7))) d_int) (da_cons (b_ix (d_b (b_ix (d_b (d_var 3)) (d_var 7))) d_int) da_nil))) da_nil))) (d_tup (da_cons d_int (da_cons d_int da_nil)))))) (s_rel 10 (s_cons (s_setLc (i := 14) (own := [("one", 18)]) rfl sc_law.nd rfl rfl (sw_true rfl rfl rfl (by decide +kernel)) (di_seq (d_var 10)) (blkOk_by (own := [("one", 18)]) (N := ["script", "row", "dam", "plan", "store", "due", "old", "k", "rest", "whole", "later", "age", "amount", "share", "left", "held", "before", "spent", "one"]) (sc := defScope s_law) (by decide +kernel)) (fun _ _ _ _ _ => (dg_name 18 sc_law.nd rfl (by first | exact Or.inl rfl | exact Or.inr rfl) (by decide))) (fun _ _ _ _ _ => (dts_one (dt_gt (b_ix (d_b (b_ix (d_b (d_var 18)) d_int)) d_int) d_int))) (fun _ _ _ _ _ => (d_var 18))) (s_cons (s_app (i := 6) (ha := (d_if (dt_ne hr (d_var 14) (d_lst da_nil)) (b_ix (d_b (b_ix (d_b (d_var 14)) d_int)) d_int) d_non))) (s_one (s_ownLc (i := 4) (own := [("age", 11), ("amount", 12)]) rfl sc_law.nd rfl rfl (sw_true rfl rfl rfl (by decide +kernel)) (di_seq (d_var 14)) (blkOk_by (own := [("age", 11), ("amount", 12)]) (N := ["script", "row", "dam", "plan", "store", "due", "old", "k", "rest", "whole", "later", "age", "amount", "share", "left", "held", "before", "spent", "one"]) (sc := defScope s_law) (by decide +kernel)) (fun _ _ _ _ _ => (dg_lst rfl (dgs_cons (dg_name 11 sc_law.nd rfl (by first | exact Or.inl rfl | exact Or.inr rfl) (by decide)) (dgs_cons (dg_name 12 sc_law.nd rfl (by first | exact Or.inl rfl | exact Or.inr rfl) (by decide)) dgs_nil)))) (fun _ _ _ _ _ => dts_nil) (fun _ _ _ _ _ => (d_lst (da_cons (d_plus (d_var 11) d_int) (da_cons (d_var 12) da_nil)))))))))))))))) (s_cons (s_if (dt_w (dw_or (dt_not (dt_val (d_call hr (CF.call h__law_alike) l__law_alike (by rfl) (da_cons (d_call hr (CF.call h_ages) l_ages (by rfl) (da_cons (d_var 2) (da_cons (d_var 3) da_nil))) (da_cons (d_tuple (by rfl) T.b_tuple (by decide +kernel) (b_own 5)) da_nil))))) (dw_or1 (dt_not (dt_val (d_call hr (CF.call h__law_alike) l__law_alike (by rfl) (da_cons (d_call hr (CF.call h_oldest) l_oldest (by rfl) (da_cons (d_var 2) (da_cons (d_var 3) da_nil))) (da_cons (d_tuple (by rfl) T.b_tuple (by decide +kernel) (b_own 6)) da_nil)))))))) (s_one (s_ret d_bl)) s_nil) (s_cons (s_par (i := 15) (j := 16) rfl sc_law.nd rfl rfl (by decide) rfl rfl (d_plus (d_lst (da_cons (d_tup (da_cons (b_ix (d_b (d_var 2)) d_int) (da_cons d_int da_nil))) da_nil)) (d_call hr (CF.call h__law_levels) l__law_levels (by rfl) (da_cons (d_var 2) (da_cons (d_var 3) da_nil)))) (d_tup (da_cons d_int (da_cons d_int da_nil))) (by rfl)) (s_cons (s_for (vs := [7]) PassesOwn.never rfl (di_range1 (by rfl) T.b_range (d_len (by rfl) T.b_len (d_b (d_var 3)))) (dg_name 7 sc_law.nd rfl (by first | exact Or.inl rfl | exact Or.inr rfl) (by decide)) (s_one (s_set (i := 16) sc_law.nd rfl (by first | exact Or.inl rfl | exact Or.inr rfl) (d_call hr (CF.call h__law_plus) l__law_plus (by rfl) (da_cons (d_var 16) (da_cons (b_ix (d_b (d_var 15)) (d_var 7)) da_nil)))))) (s_cons (s_set (i := 17) sc_law.nd rfl (by first | exact Or.inl rfl | exact Or.inr rfl) (d_call hr (CF.call h__law_sum) l__law_sum (by rfl) (da_cons (d_lc (own := [("k", 7)]) rfl sc_law.nd (di_range1 (by rfl) T.b_range (d_len (by rfl) T.b_len (d_b (d_var 3)))) (blkOk_by (own := [("k", 7)]) (N := ["script", "row", "dam", "plan", "store", "due", "old", "k", "rest", "whole", "later", "age", "amount", "share", "left", "held", "before", "spent", "one"]) (sc := defScope s_law) (by decide +kernel)) (fun _ _ _ _ _ => (dg_name 7 sc_law.nd rfl (by first | exact Or.inl rfl | exact Or.inr rfl) (by decide))) (fun _ _ _ _ _ => dts_nil) (fun _ _ _ _ _ => (d_call hr (CF.call h__law_by) l__law_by (by rfl) (da_cons (b_ix (b_own 5) (d_var 7)) (da_cons (b_ix (d_b (d_var 3)) (d_var 7)) da_nil))))) da_nil))) (s_rel 4 (s_cons (s_set (i := 8) sc_law.nd rfl (by first | exact Or.inl rfl | exact Or.inr rfl) (d_call hr (CF.call h__law_sum) l__law_sum (by rfl) (da_cons (d_lc (own := [("age", 11), ("amount", 12)]) rfl sc_law.nd (di_seq (d_var 4)) (blkOk_by (own := [("age", 11), ("amount", 12)]) (N := ["script", "row", "dam", "plan", "store", "due", "old", "k", "rest", "whole", "later", "age", "amount", "share", "left", "held", "before", "spent", "one"]) (sc := defScope s_law) (by decide +kernel)) (fun _ _ _ _ _ => (dg_lst rfl (dgs_cons (dg_name 11 sc_law.nd rfl (by first | exact Or.inl rfl | exact Or.inr rfl) (by decide)) (dgs_cons (dg_name 12 sc_law.nd rfl (by first | exact Or.inl rfl | exact Or.inr rfl) (by decide)) dgs_nil)))) (fun _ _ _ _ _ => dts_nil) (fun _ _ _ _ _ => (d_call hr (CF.call h__law_by) l__law_by (by rfl) (da_cons (d_tup (da_cons (d_sub (d_var 11) d_int) (da_cons d_int da_nil))) (da_cons (d_var 12) da_nil))))) da_nil))) (s_one (s_ret (d_eq hr (d_var 16) (d_call hr (CF.call h__law_plus) l__law_plus (by rfl) (da_cons (d_var 17) (da_cons (d_var 8) da_nil))))))))))))))))))
end
end L40
namespace Ty
open PySem PySem.Spec PyProof.Rows L2 DN
abbrev St : Type := List (Int × Int)
def clp (y : Rat) (u : Int) : Rat := if y ≤ 0 then 0 else if (u : Rat) ≤ y then (u : Rat) else y
def stV : St → Rat → Rat
  | [], _ => 0
  | s :: r, y => (s.1 : Rat) * clp y s.2 + stV r (y - (s.2 : Rat))
def ovP (t : Rat) (p : Int) : Rat := if t < (p : Rat) then (p : Rat) - t else 0
def stC (t : Rat) : St → Rat
  | [] => 0
  | s :: r => (s.2 : Rat) * ovP t s.1 + stC t r
def Un (S : St) : Prop := ∀ s ∈ S, 0 ≤ s.2
def Dn (S : St) : Prop := S.Pairwise fun a b => b.1 ≤ a.1
def Pz (S : St) : Prop := ∀ s ∈ S, 0 ≤ s.1
theorem Un.tl {s : Int × Int} {r : St} (h : Un (s :: r)) : Un r := fun x hx => h x (List.mem_cons_of_mem _ hx)
theorem Pz.tl {s : Int × Int} {r : St} (h : Pz (s :: r)) : Pz r := fun x hx => h x (List.mem_cons_of_mem _ hx)
theorem c0 {u : Int} (h : 0 ≤ u) : (0 : Rat) ≤ (u : Rat) := Rat.intCast_nonneg.mpr h
theorem stV_nonpos : ∀ {S : St} {y : Rat}, Un S → y ≤ 0 → stV S y = 0
  | [], _, _, _ => rfl
  | s :: r, y, h, hy => by
    have a := c0 (h s List.mem_cons_self)
    show (s.1 : Rat) * clp y s.2 + stV r (y - (s.2 : Rat)) = 0
    rw [stV_nonpos h.tl (by grind)]
    unfold clp
    rw [if_pos hy]
    grind
theorem ovP_ge (t : Rat) (p : Int) : (p : Rat) - t ≤ ovP t p ∧ 0 ≤ ovP t p := by
  unfold ovP
  split <;> constructor <;> grind
theorem stV_le {t : Rat} (ht : 0 ≤ t) : ∀ {S : St} {y : Rat}, Un S → 0 ≤ y → stV S y ≤ stC t S + t * y
  | [], y, _, hy => by
    show (0 : Rat) ≤ 0 + t * y
    have := Rat.mul_nonneg ht hy
    grind
  | s :: r, y, h, hy => by
    have a := c0 (h s List.mem_cons_self)
    obtain ⟨o1, o2⟩ := ovP_ge t s.1
    show (s.1 : Rat) * clp y s.2 + stV r (y - (s.2 : Rat)) ≤ (s.2 : Rat) * ovP t s.1 + stC t r + t * y
    have rest0 : 0 ≤ stC t r := by
      have : ∀ {r : St}, Un r → 0 ≤ stC t r := by
        intro r
        induction r with
        | nil => intro _; exact Rat.le_refl
        | cons z r ih =>
          intro hr
          have := ih hr.tl
          have e := Rat.mul_nonneg (c0 (hr z List.mem_cons_self)) (ovP_ge t z.1).2
          show 0 ≤ (z.2 : Rat) * ovP t z.1 + stC t r
          grind
      exact this h.tl
    unfold clp
    by_cases z : y ≤ 0
    · have y0 : y = 0 := Rat.le_antisymm z hy
      rw [if_pos z, stV_nonpos h.tl (by grind)]
      have := Rat.mul_nonneg a o2
      subst y0
      grind
    · rw [if_neg z]
      by_cases w : (s.2 : Rat) ≤ y
      · rw [if_pos w]
        have i := stV_le ht h.tl (y := y - (s.2 : Rat)) (by grind)
        have m := Rat.mul_le_mul_of_nonneg_left o1 a
        grind
      · rw [if_neg w, stV_nonpos h.tl (by grind)]
        have m1 := Rat.mul_le_mul_of_nonneg_left o1 hy
        have m2 := Rat.mul_le_mul_of_nonneg_right (show y ≤ (s.2 : Rat) by grind) o2
        grind
def prt : St → Int → Int → St
  | [], _, _ => []
  | s :: r, f, b => (if 0 < min2 s.2 b - max2 0 f then [(s.1, min2 s.2 b - max2 0 f)] else []) ++ prt r (f - s.2) (b - s.2)
def tot : St → Int
  | [] => 0
  | s :: r => s.1 * s.2 + tot r
theorem lvs_last : ∀ {xs : List Int} {ps : List Rat} {h : Rat}, xs ≠ [] → ps.length = xs.length → (lvs h xs ps).getLast? = some (fin h xs ps)
  | [], _, _, h0, _ => absurd rfl h0
  | _ :: _, [], _, _, hl => nomatch hl
  | [x], [p], h, _, _ => rfl
  | x :: y :: xs, p :: q :: ps, h, _, hl => by
    have := lvs_last (xs := y :: xs) (ps := q :: ps) (h := h + (x : Rat) - p) (by simp) (by simpa using hl)
    show ((h + (x : Rat) - p) :: lvs (h + (x : Rat) - p) (y :: xs) (q :: ps)).getLast? = _
    rw [List.getLast?_cons_of_ne_nil (by simp [lvs])]
    exact this
  | [_], _ :: _ :: _, _, _, hl => by simp at hl
  | _ :: _ :: _, [_], _, _, hl => by simp at hl
theorem isL_mem {n : Nat} : ∀ {qs : List Q2} {vs : List Rat}, IsL n qs vs → ∀ q ∈ qs, ∃ v ∈ vs, Is n q v
  | q :: qs, v :: vs, h, p, hp => by
    rcases List.mem_cons.mp hp with e | e
    · exact ⟨v, List.mem_cons_self, by rw [e]; exact h.1⟩
    · obtain ⟨v', h1, h2⟩ := isL_mem h.2 p e
      exact ⟨v', List.mem_cons_of_mem _ h1, h2⟩
  | [], _, _, _, hp => nomatch hp
  | _ :: _, [], h, _, _ => h.elim
theorem isL_last {n : Nat} {qs : List Q2} {vs : List Rat} {v : Rat} (h : IsL n qs vs) (hv : vs.getLast? = some v) : ∃ q, atI qs (-(1 : Int)) = some q ∧ Is n q v := by
  have hl := h.len
  have hn : vs ≠ [] := by rintro rfl; simp at hv
  have hq : qs ≠ [] := by rintro rfl; cases vs with
    | nil => exact hn rfl
    | cons _ _ => exact h.elim
  obtain ⟨w, hw⟩ : ∃ w, qs = qs.dropLast ++ [w] := ⟨qs.getLast hq, (List.dropLast_concat_getLast hq).symm⟩
  have hlen : qs.length - 1 < qs.length := by have := List.length_pos_iff.mpr hq; omega
  obtain ⟨u, u1, u2⟩ := h.get hlen
  have e1 : vs[qs.length - 1]? = some v := by rw [← hv, List.getLast?_eq_getElem?, hl]
  rw [e1] at u1
  cases u1
  refine ⟨w, by rw [hw]; exact atI_last _ _, ?_⟩
  have e2 : qs[qs.length - 1] = w := by
    have : qs[qs.length - 1]? = some w := by
      rw [← List.getLast?_eq_getElem?, hw]; simp
    rw [List.getElem?_eq_getElem hlen] at this
    exact Option.some.inj this
  rw [← e2]
  exact u2
abbrev Cur : Type := Int × Int × List (Int × Int)
def swp (P : St) : St := P.map fun s => (s.2, s.1)
structure POk (P : St) : Prop where
  un : Un (swp P)
  dn : Dn (swp P)
  pz : Pz (swp P)
def usesU (c : Cur) (P : St) (w : Int) : List (Int × Int × Bool) := ((c.2.2.map fun s => (s.1, s.2, true)) ++ (P.map fun s => (s.2, s.1, false)) ++ [((0 : Int), w + 1, false)]).mergeSort leU3
def plain (U : List (Int × Int × Bool)) : St := U.map fun u => (u.1, u.2.1)
def usesM (c : Cur) (P : St) (w : Int) : St := plain (usesU c P w)
section
variable {C : Int} {c : Cur} {P : St} {w x : Int}
def lowC (c : Cur) (x : Int) : Int := max2 0 (c.1 - x)
def nxt (C : Int) (c : Cur) (x : Int) (P : St) : Cur := (lowC c x, c.2.1 + tot (prt (usesM c P (C + x)) 0 (lowC c x + x - c.1)), prt (usesM c P (C + x)) (lowC c x + x - c.1) (lowC c x + x - c.1 + C - lowC c x))
end
def cv (C E : Int) : List Int → List St → Cur
  | x :: xs, P :: ws => nxt C (cv C E xs ws) x P
  | _, _ => (E, 0, [(0, C - E)])
def cvL (Z E : Int) : List Int → List Int → List St → Cur
  | c :: cs, x :: xs, P :: ws => nxt c (cvL Z E cs xs ws) x P
  | _, _, _ => (E, 0, [(0, Z - E)])
abbrev Us : Type := List (Int × Int × Bool)
def gam (b : Bool) : Us → Int → Int
  | [], _ => 0
  | u :: r, y => (if u.2.2 = b then min2 y u.2.1 else 0) + gam b r (y - min2 y u.2.1)
def UnU (U : Us) : Prop := ∀ u ∈ U, 0 ≤ u.2.1
theorem UnU.tl {u : Int × Int × Bool} {r : Us} (h : UnU (u :: r)) : UnU r := fun x hx => h x (List.mem_cons_of_mem _ hx)
section
variable {C : Int} {c : Cur} {P : St} {w : Int}
def hold (c : Cur) (P : St) (w : Int) : Int := c.1 + gam true (usesU c P w) (w - c.1)
end
def bl (C E : Int) : Int → List Int → List St → List Int
  | g, x :: xs, P :: ws => hold (cv C E xs ws) P (g + x) :: bl C E (hold (cv C E xs ws) P (g + x)) xs ws
  | _, _, _ => []
def CvL (Z E : Int) : List Int → List Int → List St → Prop
  | D :: cs, x :: xs, P :: ws => (cvL Z E cs xs ws).1 ≤ D + x ∧ CvL Z E cs xs ws
  | _, _, _ => True
structure PairsIn (l : List (Int × Int)) : Prop where
  len : l.length ≤ 3
  am : ∀ p ∈ l, 1 ≤ p.1 ∧ p.1 ≤ 1000
  pr : ∀ p ∈ l, 1 ≤ p.2 ∧ p.2 ≤ 1000
  dn : l.Pairwise fun a b => b.2 < a.2
def WorthsIn (ws : List (List (Int × Int))) : Prop := ∀ l ∈ ws, PairsIn l
def Sm (S : St) : Prop := ∀ s ∈ S, s.1.natAbs < 2 ^ 40 ∧ s.2.natAbs < 2 ^ 40
theorem Sm.tl {s : Int × Int} {r : St} (h : Sm (s :: r)) : Sm r := fun x hx => h x (List.mem_cons_of_mem _ hx)
theorem bindE {α β : Type} {o : Option α} {a : α} {f : α → Option β} {r : Option β} (h : o = some a) (h2 : f a = r) : o.bind f = r := by
  rw [h]; exact h2
def hB (i8 : Int × Int × Bool) (s6 : Int × Int) : Option (Int × Int) := ((some (min2 s6.1 i8.2.1)).bind fun taken_9 => ((some taken_9).bind fun x14 => (fun left_15 => (iteO (some i8.2.2) (((some taken_9)).bind fun x16 => (fun held_17 => some (left_15, held_17)) (s6.2 + x16)) (some (left_15, s6.2)))) (s6.1 - x14)))
structure PBk (P : St) : Prop where
  ok : POk P
  sm : Sm (swp P)
  ln : P.length ≤ 3
structure Parts (Z E : Int) (cs xs : List Int) (ws : List St) : Prop where
  e0 : 0 ≤ E
  e1 : E ≤ Z
  z : Z < 2 ^ 38
  cl : cs.length = xs.length
  wl : xs.length = ws.length
  n12 : xs.length ≤ 12
  c : ∀ c ∈ cs, 0 ≤ c ∧ c < 2 ^ 38
  x : ∀ x ∈ xs, 0 ≤ x ∧ x < 2 ^ 38
  w : ∀ P ∈ ws, PBk P
  f : CvL Z E cs xs ws
theorem Parts.tl {Z E D x : Int} {P : St} {cs xs : List Int} {ws : List St} (h : Parts Z E (D :: cs) (x :: xs) (P :: ws)) : Parts Z E cs xs ws :=
  ⟨h.e0, h.e1, h.z, by simpa using h.cl, by simpa using h.wl, by have := h.n12; simp at this; omega, fun y hy => h.c y (List.mem_cons_of_mem _ hy), fun y hy => h.x y (List.mem_cons_of_mem _ hy), fun y hy => h.w y (List.mem_cons_of_mem _ hy), h.f.2⟩
def pt (t b : Int) (n k : Nat) : Int := t ^ (n - k) * b ^ k
theorem pow_in {a : Int} (h0 : 1 ≤ a) (h1 : a ≤ 20) : ∀ n : Nat, 1 ≤ a ^ n ∧ a ^ n ≤ 20 ^ n
  | 0 => by rw [Int.pow_zero, Int.pow_zero]; exact ⟨by decide, by decide⟩
  | n + 1 => by
    obtain ⟨i, j⟩ := pow_in h0 h1 n
    rw [Int.pow_succ, Int.pow_succ]
    refine ⟨?_, Int.mul_le_mul j h1 (by omega) (by omega)⟩
    have := Int.mul_le_mul i h0 (by decide) (by omega)
    omega
theorem pt_in {t b : Int} {n k : Nat} (t0 : 1 ≤ t) (t1 : t ≤ 20) (b0 : 1 ≤ b) (b1 : b ≤ 20) (h : k ≤ n) : 1 ≤ pt t b n k ∧ pt t b n k ≤ 20 ^ n := by
  obtain ⟨i, j⟩ := pow_in t0 t1 (n - k)
  obtain ⟨l, m⟩ := pow_in b0 b1 k
  unfold pt
  refine ⟨?_, ?_⟩
  · have := Int.mul_le_mul i l (by decide) (by omega)
    omega
  · have z := (pow_in (a := 20) (by decide) (by decide) (n - k)).1
    have u := Int.mul_le_mul j m (by omega) (by omega)
    rw [← Int.pow_add, show n - k + k = n by omega] at u
    exact u
theorem ten_pow {n : Nat} (h : n ≤ 4) : (20 : Int) ^ n ≤ 1000000 := by
  have key : n = 0 ∨ n = 1 ∨ n = 2 ∨ n = 3 ∨ n = 4 := by omega
  rcases key with rfl | rfl | rfl | rfl | rfl <;> decide
noncomputable def tB (t b : Int) (i5 : Int) (s3 : List Int) : Option (List Int) := (((compL (fun (i7 : Int) => (some true)) (fun (i7 : Int) => (mulO i7 t)) s3).bind fun x17 => ((((atI s3 (-(1 : Int))).bind fun x13 => (some b).bind fun y14 => (mulO x13 y14)).bind fun x15 => (some []).bind fun y16 => some (x15 :: y16)).bind dispO).bind fun y18 => (catO x17 y18)).bind fun parts_6 => some parts_6)
def Du (t : Rat) (S : St) (y : Rat) : Prop := stC t S + t * y = stV S y
theorem Du.up {t y z : Rat} {S : St} (h : Du t S y) (hu : Un S) (t0 : 0 ≤ t) (z0 : 0 ≤ z) : stV S z ≤ stV S y + t * (z - y) := by
  have := stV_le t0 hu z0
  unfold Du at h
  grind
def Jn (C E : Rat) (p : Int) (h : Rat) : List Int → Prop
  | [] => (p : Rat) * (h - E) = 0
  | q :: _ => (p < q → h = C) ∧ (q < p → h = 0)
def Sl (C E : Rat) : Rat → List Int → List St → List Rat → List Int → Prop
  | h, x :: xs, P :: ws, r :: rs, p :: ps => 0 ≤ p ∧ Du (p : Rat) (swp P) r ∧ Jn C E p (h + (x : Rat) - r) ps ∧ Sl C E (h + (x : Rat) - r) xs ws rs ps
  | _, [], [], [], [] => True
  | _, _, _, _, _ => False
def Bd (C E : Rat) : List Int → List St → List Int → Rat
  | x :: xs, P :: ws, p :: ps => (x : Rat) * (p : Rat) + stC (p : Rat) (swp P) + (match ps with
    | [] => -(E * (p : Rat))
    | q :: _ => C * (if p < q then (q : Rat) - (p : Rat) else 0)) + Bd C E xs ws ps
  | _, _, _ => 0
structure LeakW (d : DamT) (loss : Q2) (ws : List (List (Int × Int))) : Prop where
  dam : DamIn 4 d
  cap : d.1 ≤ 120
  fl : ∀ x ∈ d.2.2.2, x ≤ 60
  l0 : 0 ≤ loss.1
  l1 : loss.1 < loss.2
  l2 : loss.2 ≤ 20
  lz : Sz 5 loss
  wl : d.2.2.2.length = ws.length
  w : WorthsIn ws
  w2 : ∀ P ∈ ws, P.length ≤ 2 ∧ ∀ q ∈ P, q.1 ≤ 60 ∧ q.2 ≤ 60
section
variable {d : DamT} {loss : Q2} {ws : List (List (Int × Int))}
abbrev tq (loss : Q2) : Int := loss.2 - loss.1
abbrev ptq (d : DamT) (loss : Q2) (k : Nat) : Int := pt (tq loss) loss.2 d.2.2.2.length k
theorem LeakW.t0 (L : LeakW d loss ws) : 1 ≤ tq loss ∧ tq loss ≤ 20 ∧ 1 ≤ loss.2 ∧ loss.2 ≤ 20 := by
  have := L.l0
  have := L.l1
  have := L.l2
  show 1 ≤ loss.2 - loss.1 ∧ loss.2 - loss.1 ≤ 20 ∧ _
  omega
theorem LeakW.n4 (L : LeakW d loss ws) : 0 < d.2.2.2.length ∧ d.2.2.2.length ≤ 4 := ⟨L.dam.l0, by have := L.dam.l1; omega⟩
theorem LeakW.pt (L : LeakW d loss ws) {k : Nat} (h : k ≤ d.2.2.2.length) : 1 ≤ ptq d loss k ∧ ptq d loss k ≤ 1000000 := by
  obtain ⟨a, b, c, e⟩ := L.t0
  have n := L.n4
  have z : 1 ≤ ptq d loss k ∧ ptq d loss k ≤ 20 ^ d.2.2.2.length := pt_in a b c e h
  have := ten_pow (n := d.2.2.2.length) (by omega)
  omega
end
def wl (s C : Rat) : Rat → List Int → Rat
  | h, x :: xs => wl s C (s * (if C < h + (x : Rat) then C else h + (x : Rat))) xs
  | h, [] => h
def ovR (a b : Rat) : Rat := if 0 < a - b then a - b else 0
theorem st1 {v h x l C u s q o : Rat} (eq : q = h + x - l) (j1 : v < s * u → l = C) (j2 : s * u < v → l = 0) (ho : o = ovR (s * u) v) : v * q + u * (s * l) = v * h + x * v + C * o := by
  rw [eq]
  by_cases c : v < s * u
  · have : ovR (s * u) v = s * u - v := by unfold ovR; rw [if_pos (by grind)]
    rw [ho, this, j1 c]
    grind
  · have : ovR (s * u) v = 0 := by unfold ovR; rw [if_neg (by grind)]
    rw [ho, this]
    by_cases c2 : s * u < v
    · rw [j2 c2]
      grind
    · have : v = s * u := by grind
      rw [this]
      grind
theorem st2 {v h x l E s q : Rat} (eq : q = h + x - l) (s0 : 0 < s) (j : v * (s * l - E) = 0) : v * q = v * h + x * v + (0 - E / s * v) := by
  have a : v * l = E / s * v := by
    refine Rat.le_antisymm (Rat.le_of_mul_le_mul_right (c := s) ?_ s0) (Rat.le_of_mul_le_mul_right (c := s) ?_ s0)
    all_goals
      have e : E / s * v * s = E * v := by
        have : E / s * v * s = E / s * s * v := by grind
        rw [this, Rat.div_mul_cancel (Rat.ne_of_gt s0)]
      rw [e]
      grind
  rw [eq]
  grind
theorem sumRA : ∀ (a b : List Rat), (a ++ b).sum = a.sum + b.sum
  | [], b => by show b.sum = 0 + b.sum; grind
  | x :: a, b => by
    have i := sumRA a b
    rw [List.cons_append, List.sum_cons, List.sum_cons, i]
    grind
theorem sumP_is : ∀ (l : List Q2) (vs : List Rat) (q : Q2) (v : Rat) (b : Nat), IsL 220 l vs → Is b q v → b + 221 * l.length ≤ 8000 → ∃ r, foldO (fun (i4 : Int × Int) (s2 : Int × Int) => ((N_plus s2 i4).bind fun total_5 => some total_5)) l q = some r ∧ Is (b + 221 * l.length) r (v + vs.sum)
  | [], [], q, v, b, _, hq, hb => ⟨q, rfl, by
    have e : v + ([] : List Rat).sum = v := by show v + 0 = v; grind
    rw [e]
    exact hq.mono (by simp)⟩
  | p :: l, u :: vs, q, v, b, ⟨h1, h2⟩, hq, hb => by
    rw [List.length_cons] at hb
    obtain ⟨w, w1, w2⟩ := pplus hq h1 (by omega)
    obtain ⟨r, r1, r2⟩ := sumP_is l vs w (v + u) (b + 221) h2 (w2.mono (by omega)) (by omega)
    refine ⟨r, ?_, ?_⟩
    · rw [foldO_cons, w1]
      exact r1
    · have e : v + (u :: vs).sum = v + u + vs.sum := by rw [List.sum_cons]; grind
      rw [e]
      exact r2.mono (by rw [List.length_cons]; omega)
  | [], _ :: _, _, _, _, h, _, _ => h.elim
  | _ :: _, [], _, _, _, h, _, _ => h.elim
abbrev WQ : Type := List (Int × Q2)
abbrev WR : Type := List (Int × Rat)
def Wat (k : Nat) : WQ → WR → Prop
  | (m, q) :: l, (n, v) :: ws => m = n ∧ Is 40 q v ∧ Dy k v ∧ 0 ≤ v ∧ v ≤ 3000 ∧ Wat k l ws
  | [], [] => True
  | _, _ => False
def tk' (r a : Rat) : Rat := if a < r then a else r
def relW : Rat → WR → WR
  | r, (m, a) :: ws => (if tk' r a = 0 then [] else [(m, tk' r a)]) ++ relW (r - tk' r a) ws
  | _, [] => []
def kepW : Rat → WR → WR
  | r, (m, a) :: ws => (if tk' r a = a then [] else [(m, a - tk' r a)]) ++ kepW (r - tk' r a) ws
  | _, [] => []
def lefW : Rat → WR → Rat
  | r, (_, a) :: ws => lefW (r - tk' r a) ws
  | r, [] => r
def totW (ws : WR) : Rat := (ws.map (·.2)).sum
theorem tk_in {r a : Rat} (r0 : 0 ≤ r) (a0 : 0 ≤ a) : 0 ≤ tk' r a ∧ tk' r a ≤ a ∧ tk' r a ≤ r := by
  unfold tk'
  split <;> refine ⟨?_, ?_, ?_⟩ <;> grind
theorem Wat.app {k : Nat} : ∀ {a b : WQ} {u v : WR}, Wat k a u → Wat k b v → Wat k (a ++ b) (u ++ v)
  | [], _, [], _, _, h => h
  | _ :: _, _, _ :: _, _, ⟨h1, h2, h3, h4, h5, h6⟩, h => ⟨h1, h2, h3, h4, h5, Wat.app h6 h⟩
  | [], _, _ :: _, _, h, _ => h.elim
  | _ :: _, _, [], _, h, _ => h.elim
theorem Wat.up {k : Nat} : ∀ {a : WQ} {u : WR}, Wat k a u → Wat (k + 1) a u
  | [], [], h => trivial
  | _ :: _, _ :: _, ⟨h1, h2, h3, h4, h5, h6⟩ => ⟨h1, h2, h3.up, h4, h5, Wat.up h6⟩
  | [], _ :: _, h => h.elim
  | _ :: _, [], h => h.elim
theorem Wat.len {k : Nat} : ∀ {a : WQ} {u : WR}, Wat k a u → a.length = u.length
  | [], [], _ => rfl
  | _ :: _, _ :: _, ⟨_, _, _, _, _, h⟩ => by rw [List.length_cons, List.length_cons, Wat.len h]
  | [], _ :: _, h => h.elim
  | _ :: _, [], h => h.elim
theorem pair_eq {n m : Nat} {p q : Q2} {a b : Rat} (hp : Is n p a) (hq : Is m q b) : decide (p = q) = decide (a = b) := by
  by_cases c : a = b
  · subst c
    rw [hp.uniq hq, decide_eq_true rfl, decide_eq_true rfl]
  · rw [decide_eq_false c, decide_eq_false fun z => c (by rw [← hp.eq, ← hq.eq, z])]
noncomputable def prtB (i6 : Int × Q2) (s4 : Q2 × WQ × WQ) : Option (Q2 × WQ × WQ) := ((N_least_ratio [s4.1, i6.2]).bind fun taken_7 => ((N_minus s4.1 taken_7).bind fun left_8 => ((iteO (some (!decide (taken_7 = ((0 : Int), (1 : Int))))) ((appO s4.2.1 (i6.1, taken_7)).bind fun released_11 => some released_11) (some s4.2.1)).bind fun s13 => (iteO (some (!decide (taken_7 = i6.2))) (((some i6.1).bind fun x17 => (N_minus i6.2 taken_7).bind fun x18 => some (x17, x18)).bind fun x20 => (appO s4.2.2 x20).bind fun kept_19 => some (left_8, s13, kept_19)) (some (left_8, s13, s4.2.2))))))
theorem parted_go {k : Nat} (hk : k ≤ 12) : ∀ (l : WQ) (ws : WR) (q : Q2) (r : Rat) (R K : WQ), Wat k l ws → Is 40 q r → Dy k r → 0 ≤ r → r ≤ 3000 → R.length + l.length ≤ 1000 → K.length + l.length ≤ 1000 →
    ∃ q' R' K', foldO prtB l (q, R, K) = some (q', R ++ R', K ++ K') ∧ Wat k R' (relW r ws) ∧ Wat k K' (kepW r ws)
  | [], [], q, r, R, K, _, _, _, _, _, _, _ => ⟨q, [], [], by rw [List.append_nil, List.append_nil]; rfl, trivial, trivial⟩
  | (m, p) :: l, (n, a) :: ws, q, r, R, K, ⟨h1, h2, h3, h4, h5, h6⟩, hq, hd, r0, r1, lR, lK => by
    subst h1
    rw [List.length_cons] at lR lK
    obtain ⟨t, t1, t2, t3⟩ := least_ratio_ok (n := 40) (l := [q, p]) (by decide) (by simp) (fun x hx => by
      simp only [List.mem_cons, List.not_mem_nil, or_false] at hx
      rcases hx with rfl | rfl
      · exact hq.sz
      · exact h2.sz)
    have tq := t3 q (by simp)
    have tp := t3 p (by simp)
    rw [hq.eq] at tq
    rw [h2.eq] at tp
    have tv : Is 40 t (tk' r a) ∧ Dy k (tk' r a) := by
      simp only [List.mem_cons, List.not_mem_nil, or_false] at t2
      unfold tk'
      rcases t2 with rfl | rfl
      · rw [hq.eq] at tp
        rw [if_neg (Rat.not_lt.mpr tp)]
        exact ⟨hq, hd⟩
      · rw [h2.eq] at tq
        split
        · exact ⟨h2, h3⟩
        · have e : a = r := by grind
          rw [← e]
          exact ⟨h2, h3⟩
    obtain ⟨i1, i2, i3⟩ := tk_in r0 h4
    obtain ⟨w, w1, w2⟩ := pminus hq tv.1 (by decide)
    have wd := hd.sub tv.2
    have w3 := dy_is w2 wd hk (by grind) (by grind)
    obtain ⟨u, u1, u2⟩ := pminus h2 tv.1 (by decide)
    have ud := h3.sub tv.2
    have u3 := dy_is u2 ud hk (by grind) (by grind)
    have z : ((0 : Int) : Rat) = 0 := rfl
    have zi : Is 40 ((0 : Int), (1 : Int)) ((0 : Int) : Rat) := is_int (by decide) (by decide)
    rw [z] at zi
    have d1 := pair_eq tv.1 zi
    have d2 := pair_eq tv.1 h2
    have ap : ∀ (s : WQ) (x : Int × Q2), s.length ≤ 1000 → appO s x = some (s ++ [x]) := fun s x h => by unfold appO; rw [if_pos (by omega)]
    obtain ⟨q', R', K', e, g1, g2⟩ := parted_go hk l ws w (r - tk' r a) (R ++ (if tk' r a = 0 then [] else [(m, t)])) (K ++ (if tk' r a = a then [] else [(m, u)])) h6 w3 wd (by grind) (by grind) (by split <;> simp <;> omega) (by split <;> simp <;> omega)
    have st : prtB (m, p) (q, R, K) = some (w, R ++ (if tk' r a = 0 then [] else [(m, t)]), K ++ (if tk' r a = a then [] else [(m, u)])) := by
      unfold prtB
      rw [t1, Option.bind_some, w1, Option.bind_some, d1, d2]
      by_cases c1 : tk' r a = 0
      · rw [if_pos c1, decide_eq_true c1, List.append_nil]
        by_cases c2 : tk' r a = a
        · rw [if_pos c2, decide_eq_true c2, List.append_nil]
          rfl
        · rw [if_neg c2, decide_eq_false c2]
          show ((N_minus p t).bind fun x18 => some (m, x18)).bind _ = _
          rw [u1, Option.bind_some, Option.bind_some, ap K _ (by omega)]
          rfl
      · rw [if_neg c1, decide_eq_false c1]
        show ((appO R (m, t)).bind fun released_11 => some released_11).bind _ = _
        rw [ap R _ (by omega), Option.bind_some, Option.bind_some]
        by_cases c2 : tk' r a = a
        · rw [if_pos c2, decide_eq_true c2, List.append_nil]
          rfl
        · rw [if_neg c2, decide_eq_false c2]
          show ((N_minus p t).bind fun x18 => some (m, x18)).bind _ = _
          rw [u1, Option.bind_some, Option.bind_some, ap K _ (by omega)]
          rfl
    refine ⟨q', (if tk' r a = 0 then [] else [(m, t)]) ++ R', (if tk' r a = a then [] else [(m, u)]) ++ K', ?_, ?_, ?_⟩
    · show (prtB (m, p) (q, R, K)).bind (foldO prtB l) = _
      rw [st, Option.bind_some, e, List.append_assoc, List.append_assoc]
    · show Wat k _ ((if tk' r a = 0 then [] else [(m, tk' r a)]) ++ relW (r - tk' r a) ws)
      refine Wat.app ?_ g1
      split
      · trivial
      · exact ⟨rfl, tv.1, tv.2, i1, by grind, trivial⟩
    · show Wat k _ ((if tk' r a = a then [] else [(m, a - tk' r a)]) ++ kepW (r - tk' r a) ws)
      refine Wat.app ?_ g2
      split
      · trivial
      · exact ⟨rfl, u3, ud, by grind, by grind, trivial⟩
  | [], _ :: _, _, _, _, _, h, _, _, _, _, _, _ => h.elim
  | _ :: _, [], _, _, _, _, h, _, _, _, _, _, _ => h.elim
theorem parted_ok {k : Nat} (hk : k ≤ 12) {l : WQ} {ws : WR} {q : Q2} {r : Rat} (h : Wat k l ws) (hq : Is 40 q r) (hd : Dy k r) (r0 : 0 ≤ r) (r1 : r ≤ 3000) (hl : l.length ≤ 1000) : ∃ R K, N_parted l q = some (R, K) ∧ Wat k R (relW r ws) ∧ Wat k K (kepW r ws) := by
  obtain ⟨q', R, K, e, g1, g2⟩ := parted_go hk l ws q r [] [] h hq hd r0 r1 (by simpa using hl) (by simpa using hl)
  refine ⟨R, K, ?_, g1, g2⟩
  unfold N_parted
  refine bindE (a := []) rfl (bindE (a := []) rfl (bindE (a := q) rfl ?_))
  show (foldO prtB l (q, [], [])).bind _ = _
  rw [e]
  rfl
theorem foldO_list {α σ : Type} {Bd : α → σ → Option σ} (Inv : List α → σ → Prop) (hs : ∀ x r s, Inv (x :: r) s → ∃ s', Bd x s = some s' ∧ Inv r s') : ∀ (l : List α) (s : σ), Inv l s → ∃ s', foldO Bd l s = some s' ∧ Inv [] s'
  | [], s, h => ⟨s, rfl, h⟩
  | x :: r, s, h => by
    obtain ⟨s1, h1, h2⟩ := hs x r s h
    obtain ⟨s2, h3, h4⟩ := foldO_list Inv hs r s1 h2
    exact ⟨s2, by rw [foldO_cons, h1]; exact h3, h4⟩
theorem foldO_use {α γ σ : Type} {Bd : α → σ → Option σ} {K : σ → Option γ} {R : Option γ} {l : List α} {s : σ} (Inv : List α → σ → Prop) (hs : ∀ x r s, Inv (x :: r) s → ∃ s', Bd x s = some s' ∧ Inv r s') (h0 : Inv l s) (hk : ∀ s', Inv [] s' → K s' = R) : (foldO Bd l s).bind K = R := by
  obtain ⟨s', h1, h2⟩ := foldO_list Inv hs l s h0
  rw [h1]
  exact hk s' h2
theorem turn_prog {k : Nat} {q p : Q2} {h v C : Rat} {x : Int} (hq : Is 40 q h) (hd : Dy k h) (hx : 0 ≤ x ∧ x ≤ 1000) (hp : Is 40 p v) (hv : Dy (k + 1) v) (h0 : 0 ≤ h + (x : Rat) - v) (h1 : h + (x : Rat) - v ≤ C) (hC : C ≤ 1000) (hk : k + 1 ≤ 12) :
    ∃ t r, N_plus q (x, (1 : Int)) = some t ∧ N_minus t p = some r ∧ Is 40 r (h + (x : Rat) - v) := by
  obtain ⟨t, t1, t2⟩ := pplus hq (is_int10 (i := x) (by omega)) (by decide)
  obtain ⟨r, r1, r2⟩ := pminus t2 hp (by decide)
  exact ⟨t, r, t1, r1, dy_is r2 ((hd.up.add (Dy.int _ x)).sub hv) hk (by grind) (by grind)⟩
theorem prog_levels_ok {d : DamT} (h : DamIn 12 d) {l : List Q2} {ps : List Rat} {hs : List Q2} (hl : IsL 40 l ps) (hv : Lvl (d.1 : Rat) 0 (d.2.1 : Rat) d.2.2.2 ps) (hh : IsL 40 hs (lvs (d.2.1 : Rat) d.2.2.2 ps)) : N_levels_behind d l = some hs := by
  have R := h.rat
  have hn := R.n12
  have c1 := R.c1
  unfold N_levels_behind
  rw [compL_all (g := fun i : Int => (i, (1 : Int))) (by omega) (fun x _ => rfl)]
  show N_levels_from (d.2.1, (1 : Int)) (d.2.2.2.map fun i => (i, (1 : Int))) l = some hs
  unfold N_levels_from
  show (foldO _ ((d.2.2.2.map fun i : Int => (i, (1 : Int))).zip l) ((d.2.1, (1 : Int)), ([] : List Q2))).bind _ = some hs
  refine foldO_use (fun r s => ∃ (j : Nat) (hh : Rat) (xs : List Int) (l' : List Q2) (vs ps' : List Rat), r = (xs.map fun i : Int => (i, (1 : Int))).zip l' ∧ j + xs.length ≤ 12 ∧ Flows xs ∧ IsL 40 l' ps' ∧ IsL 40 s.2 vs ∧ Is 40 s.1 hh ∧ Dy j hh ∧ Lvl (d.1 : Rat) j hh xs ps' ∧ vs ++ lvs hh xs ps' = lvs (d.2.1 : Rat) d.2.2.2 ps ∧ vs.length ≤ j) ?_ ?_ ?_
  · rintro y r ⟨q, acc⟩ ⟨j, h2, xs, l', vs, ps', e0, e1, e2, e3, e4, e5, e6, e7, e8, e9⟩
    cases xs with
    | nil => cases e0
    | cons x xs =>
      cases l' with
      | nil => cases e0
      | cons p l' =>
        cases ps' with
        | nil => exact e3.elim
        | cons v ps' =>
          injection e0 with e0 er
          subst e0
          rw [List.length_cons] at e1
          obtain ⟨t, z, t1, z1, z2⟩ := turn_prog e5 e6 (e2 x List.mem_cons_self) e3.1 e7.2.1 e7.2.2.1 e7.2.2.2.1 c1 (by omega)
          have acl : acc.length ≤ 1000000 := by have : acc.length = vs.length := e4.len; omega
          refine ⟨(z, acc ++ [z]), by simp only [Option.bind_some, t1, z1, app_ok acl], j + 1, _, xs, l', vs ++ [_], ps', er, by omega, fun y hy => e2 y (List.mem_cons_of_mem _ hy), e3.2, e4.snoc z2, z2, (e6.up.add (Dy.int _ _)).sub e7.2.1, e7.2.2.2.2, by rw [← e8, List.append_assoc]; rfl, by rw [List.length_append]; simp only [List.length_singleton]; omega⟩
  · exact ⟨0, _, d.2.2.2, l, [], ps, rfl, by omega, h.fl, hl, trivial, (is_int10 (by have := h.s0; have := h.s1; have := h.c1; omega)).mono (by decide), Dy.int _ _, hv, rfl, Nat.le_refl _⟩
  · rintro ⟨q, acc⟩ ⟨j, h2, xs, l', vs, ps', e0, e1, e2, e3, e4, e5, e6, e7, e8, e9⟩
    have hx : lvs h2 xs ps' = [] := by
      cases xs with
      | nil => cases ps' <;> rfl
      | cons x xs =>
        cases ps' with
        | nil => exact e7.elim
        | cons v ps' =>
          cases l' with
          | nil => exact e3.elim
          | cons p l' => cases e0
    rw [hx, List.append_nil] at e8
    subst e8
    have e : acc = hs := e4.uniq hh
    show some acc = some hs
    rw [e]
theorem lvs_good {C : Rat} : ∀ {xs : List Int} {ps : List Rat} {k : Nat} {h : Rat}, Lvl C k h xs ps → ∀ v ∈ lvs h xs ps, 0 ≤ v ∧ v ≤ C
  | x :: xs, p :: ps, k, h, l, v, hv => by
    rcases List.mem_cons.mp hv with e | e
    · rw [e]; exact ⟨l.2.2.1, l.2.2.2.1⟩
    · exact lvs_good l.2.2.2.2 v e
  | [], [], _, _, _, v, hv => nomatch hv
  | [], _ :: _, _, _, h, _, _ => h.elim
  | _ :: _, [], _, _, h, _, _ => h.elim
theorem is_plan_ok {d : DamT} (h : DamIn 12 d) {l : List Q2} (hp : PlanOf d l) : N_is_plan d l = some true := by
  obtain ⟨ps, hl, hv, he⟩ := hp
  have R := h.rat
  have hn := R.n12
  obtain ⟨hs, h1, _⟩ := law_levels_ok h hl hv
  have hlen : l.length = d.2.2.2.length := hl.len.trans hv.len
  have row : N_is_row_of_ratios l (d.2.2.2.length : Int) = some true := by
    unfold N_is_row_of_ratios
    rw [hlen]
    rw [allO_true l fun p hp => by
      obtain ⟨v, v1, v2⟩ := lvl_good l ps _ 0 _ hl hv p hp
      rw [is_ratio_ok v1.sz]
      show some (decide (0 ≤ p.1)) = some true
      rw [decide_eq_true (by have := neg_iff' v1; grind)]]
    simp [iteO]
  unfold N_is_plan
  rw [row]
  show ((some d).bind fun a3 => (N_levels_behind d l).bind fun a4 => N_can_hold a3 a4) = some true
  rw [prog_levels_ok h hl hv h1]
  show N_can_hold d hs = some true
  have hx : d.2.2.2 ≠ [] := by have := h.l0; intro e; rw [e] at this; cases this
  obtain ⟨q, q1, q2⟩ := isL_last h1 (lvs_last hx hv.len)
  have hC : Is 10 (d.1, (1 : Int)) (d.1 : Rat) := is_int10 (by have := h.c0; have := h.c1; omega)
  have hE : Is 10 (d.2.2.1, (1 : Int)) (d.2.2.1 : Rat) := is_int10 (by have := h.e0; have := h.e1; have := h.c1; omega)
  have h0 : Is 10 ((0 : Int), (1 : Int)) ((0 : Int) : Rat) := is_int10 (by decide)
  have z0 : ((0 : Int) : Rat) = 0 := rfl
  have no : allO false (fun i2 => (orO (N_is_less i2 ((0 : Int), (1 : Int))) (N_is_less (d.1, (1 : Int)) i2))) hs = some false := by
    have go : ∀ (l : List Q2), (∀ q ∈ l, ∃ v : Rat, Is 40 q v ∧ 0 ≤ v ∧ v ≤ (d.1 : Rat)) → allO false (fun i2 => (orO (N_is_less i2 ((0 : Int), (1 : Int))) (N_is_less (d.1, (1 : Int)) i2))) l = some false := by
      intro l
      induction l with
      | nil => intro _; rfl
      | cons q l ih =>
        intro hq
        obtain ⟨v, v1, v2, v3⟩ := hq q List.mem_cons_self
        rw [allO_cons, pless v1 h0 (by decide), pless hC v1 (by decide), decide_eq_false (by grind), decide_eq_false (by grind)]
        exact ih fun p hp => hq p (List.mem_cons_of_mem _ hp)
    refine go hs fun q hq => ?_
    obtain ⟨v, v1, v2⟩ := isL_mem h1 q hq
    exact ⟨v, v2, lvs_good hv v v1⟩
  unfold N_can_hold
  show iteO (allO false (fun i2 => (orO (N_is_less i2 ((0 : Int), (1 : Int))) (N_is_less (d.1, (1 : Int)) i2))) hs) (some false) (((atI hs (-(1 : Int))).bind fun a6 => (some (d.2.2.1, (1 : Int))).bind fun a7 => N_is_less a6 a7).bind fun b8 => some (!b8)) = some true
  rw [no, q1]
  show ((N_is_less q (d.2.2.1, (1 : Int))).bind fun b8 => some (!b8)) = some true
  rw [pless q2 hE (by decide), decide_eq_false (by grind)]
  rfl
theorem check_plan_ok {d : DamT} (h : DamIn 12 d) {l : List Q2} (hp : PlanOf d l) : N_check_plan d l = some () := by
  unfold N_check_plan
  rw [is_plan_ok h hp]
  rfl
theorem Dy.le {k : Nat} {v : Rat} (h : Dy k v) : ∀ {m : Nat}, k ≤ m → Dy m v := by
  intro m
  induction m with
  | zero =>
    intro e
    obtain rfl : k = 0 := by omega
    exact h
  | succ m ih =>
    intro e
    by_cases c : k = m + 1
    · subst c; exact h
    · exact (ih (by omega)).up
abbrev Nn (ws : WR) : Prop := ∀ w ∈ ws, 0 ≤ w.2
theorem Wat.nn {k : Nat} : ∀ {a : WQ} {u : WR}, Wat k a u → Nn u
  | [], [], _ => fun w hw => nomatch hw
  | _ :: _, (n, v) :: ws, ⟨_, _, _, h4, _, h6⟩ => fun w hw => by
    rcases List.mem_cons.mp hw with e | e
    · rw [e]; exact h4
    · exact Wat.nn h6 w e
  | [], _ :: _, h => h.elim
  | _ :: _, [], h => h.elim
theorem tot_nn : ∀ {ws : WR}, Nn ws → 0 ≤ totW ws
  | [], _ => Rat.le_refl
  | w :: ws, h => by
    have i := tot_nn (ws := ws) fun x hx => h x (List.mem_cons_of_mem _ hx)
    have a := h w List.mem_cons_self
    show 0 ≤ w.2 + totW ws
    grind
theorem tot_app (a b : WR) : totW (a ++ b) = totW a + totW b := by
  unfold totW
  rw [List.map_append, sumRA]
theorem kep_tot : ∀ {ws : WR} {r : Rat}, 0 ≤ r → Nn ws → r ≤ totW ws → totW (kepW r ws) = totW ws - r
  | [], r, r0, _, h => by
    have h' : r ≤ 0 := h
    show (0 : Rat) = 0 - r
    grind
  | (m, a) :: ws, r, r0, hn, h => by
    have a0 : 0 ≤ a := hn _ List.mem_cons_self
    have n' : Nn ws := fun x hx => hn x (List.mem_cons_of_mem _ hx)
    have t0 := tot_nn n'
    obtain ⟨i1, i2, i3⟩ := tk_in r0 a0
    have h' : r ≤ a + totW ws := h
    have i4 : r - tk' r a ≤ totW ws := by
      unfold tk'
      split <;> grind
    have i := kep_tot (ws := ws) (r := r - tk' r a) (by grind) n' i4
    show totW ((if tk' r a = a then [] else [(m, a - tk' r a)]) ++ kepW (r - tk' r a) ws) = (a + totW ws) - r
    rw [tot_app, i]
    split
    · rename_i c
      have e : totW ([] : WR) = 0 := rfl
      rw [e]
      grind
    · have e : totW [(m, a - tk' r a)] = (a - tk' r a) + 0 := rfl
      rw [e]
      grind
theorem kep_mem : ∀ {ws : WR} {r : Rat}, 0 ≤ r → Nn ws → (∀ w ∈ kepW r ws, 0 < w.2) ∧ ((kepW r ws).map (·.1)).Sublist (ws.map (·.1))
  | [], _, _, _ => ⟨(fun w hw => nomatch hw), List.Sublist.refl _⟩
  | (m, a) :: ws, r, r0, hn => by
    have a0 : 0 ≤ a := hn _ List.mem_cons_self
    have n' : Nn ws := fun x hx => hn x (List.mem_cons_of_mem _ hx)
    obtain ⟨i1, i2, i3⟩ := tk_in r0 a0
    obtain ⟨j1, j2⟩ := kep_mem (ws := ws) (r := r - tk' r a) (by grind) n'
    have e : kepW r ((m, a) :: ws) = (if tk' r a = a then [] else [(m, a - tk' r a)]) ++ kepW (r - tk' r a) ws := rfl
    rw [e]
    split
    · exact ⟨j1, by rw [List.nil_append, List.map_cons]; exact j2.cons _⟩
    · rename_i c
      refine ⟨fun w hw => ?_, by rw [List.singleton_append, List.map_cons, List.map_cons]; exact j2.cons_cons _⟩
      rcases List.mem_cons.mp hw with q | q
      · rw [q]
        show 0 < a - tk' r a
        grind
      · exact j1 w q
theorem rel_mem : ∀ {ws : WR} {r : Rat}, 0 ≤ r → Nn ws → (∀ w ∈ relW r ws, 0 < w.2) ∧ ((relW r ws).map (·.1)).Sublist (ws.map (·.1))
  | [], _, _, _ => ⟨(fun w hw => nomatch hw), List.Sublist.refl _⟩
  | (m, a) :: ws, r, r0, hn => by
    have a0 : 0 ≤ a := hn _ List.mem_cons_self
    have n' : Nn ws := fun x hx => hn x (List.mem_cons_of_mem _ hx)
    obtain ⟨i1, i2, i3⟩ := tk_in r0 a0
    obtain ⟨j1, j2⟩ := rel_mem (ws := ws) (r := r - tk' r a) (by grind) n'
    have e : relW r ((m, a) :: ws) = (if tk' r a = 0 then [] else [(m, tk' r a)]) ++ relW (r - tk' r a) ws := rfl
    rw [e]
    split
    · exact ⟨j1, by rw [List.nil_append, List.map_cons]; exact j2.cons _⟩
    · rename_i c
      refine ⟨fun w hw => ?_, by rw [List.singleton_append, List.map_cons, List.map_cons]; exact j2.cons_cons _⟩
      rcases List.mem_cons.mp hw with q | q
      · rw [q]
        show 0 < tk' r a
        grind
      · exact j1 w q
abbrev inW (j : Nat) (ws : WR) (x : Int) : WR := ws ++ [((j : Int), (x : Rat))]
def monW : Nat → WR → List Int → List Rat → List (WR × WR)
  | j, ws, x :: xs, p :: ps => (relW p (inW j ws x), kepW p (inW j ws x)) :: monW (j + 1) (kepW p (inW j ws x)) xs ps
  | _, _, _, _ => []
def WM : List (WQ × WQ) → List (WR × WR) → Prop
  | a :: l, b :: m => Wat 12 a.1 b.1 ∧ Wat 12 a.2 b.2 ∧ WM l m
  | [], [] => True
  | _, _ => False
noncomputable def mB (i9 : Int × (Int × Q2)) (s7 : WQ × List (WQ × WQ)) : Option (WQ × List (WQ × WQ)) := (((catO s7.1 [(i9.1, (i9.2.1, (1 : Int)))]).bind fun a12 => (some i9.2.2).bind fun a13 => N_parted a12 a13).bind fun p14 => ((appO s7.2 p14).bind fun months_15 => some (p14.2, months_15)))
theorem tot_in (j : Nat) (ws : WR) (x : Int) : totW (inW j ws x) = totW ws + (x : Rat) := by
  rw [tot_app]
  have : totW [((j : Int), (x : Rat))] = (x : Rat) + 0 := rfl
  rw [this]
  grind
theorem months_go {C : Rat} (hC : C ≤ 1000) : ∀ (xs : List Int) (l : List Q2) (ps : List Rat) (j k : Nat) (kept : WQ) (ws : WR) (acc : List (WQ × WQ)) (h : Rat), Flows xs → IsL 40 l ps → Lvl C k h xs ps → k + xs.length ≤ 12 → Wat 12 kept ws → totW ws = h → h ≤ 1000 → ws.length + xs.length ≤ 100 → acc.length + xs.length ≤ 100 →
    ∃ kept' ms, foldO mB (enumN j (List.zip xs l)) (kept, acc) = some (kept', acc ++ ms) ∧ WM ms (monW j ws xs ps)
  | [], [], [], j, k, kept, ws, acc, h, _, _, _, _, _, _, _, _, _ => ⟨kept, [], by rw [List.append_nil]; rfl, trivial⟩
  | x :: xs, q :: l, p :: ps, j, k, kept, ws, acc, h, hx, hl, ⟨p0, pd, l0, l1, lv⟩, hk, hw, ht, h1, hn, ha => by
    rw [List.length_cons] at hk hn ha
    have xx := hx x List.mem_cons_self
    have xi : Is 40 (x, (1 : Int)) (x : Rat) := is_int (by omega) (by decide)
    have x0 : (0 : Rat) ≤ (x : Rat) := c0 xx.1
    have x1 : (x : Rat) ≤ 1000 := Rat.intCast_le_intCast.mpr xx.2
    have wn := hw.nn
    have W : Wat 12 (kept ++ [((j : Int), (x, (1 : Int)))]) (inW j ws x) := hw.app ⟨rfl, xi, Dy.int 12 x, x0, by grind, trivial⟩
    have kl := hw.len
    obtain ⟨R, K, e, g1, g2⟩ := parted_ok (by decide) W hl.1 (pd.le (by omega)) p0 (by grind) (by rw [List.length_append, kl, List.length_singleton]; omega)
    have tt := tot_in j ws x
    have kt := kep_tot p0 W.nn (r := p) (by rw [tt, ht]; grind)
    rw [tt, ht] at kt
    have kn : (kepW p (inW j ws x)).length ≤ ws.length + 1 := by
      have := (kep_mem p0 W.nn (r := p)).2.length_le
      simpa using this
    obtain ⟨kept', ms, e', g3⟩ := months_go hC xs l ps (j + 1) (k + 1) K (kepW p (inW j ws x)) (acc ++ [(R, K)]) _ (fun y hy => hx y (List.mem_cons_of_mem _ hy)) hl.2 lv (by omega) g2 kt (by grind) (by omega) (by rw [List.length_append, List.length_singleton]; omega)
    refine ⟨kept', (R, K) :: ms, ?_, g1, g2, g3⟩
    have st : mB ((j : Int), (x, q)) (kept, acc) = some (K, acc ++ [(R, K)]) := by
      have ca : catO kept [((j : Int), (x, (1 : Int)))] = some (kept ++ [((j : Int), (x, (1 : Int)))]) := by
        unfold catO
        rw [if_pos (by rw [List.length_singleton]; omega)]
      unfold mB
      rw [ca, Option.bind_some, Option.bind_some, e, Option.bind_some]
      show ((appO acc (R, K)).bind _) = _
      unfold appO
      rw [if_pos (by omega)]
      rfl
    show (mB ((j : Int), (x, q)) (kept, acc)).bind (foldO mB (enumN (j + 1) (List.zip xs l))) = _
    rw [st, Option.bind_some, e', List.append_assoc]
    rfl
  | [], [], _ :: _, _, _, _, _, _, _, _, h, _, _, _, _, _, _, _ => h.elim
  | [], _ :: _, [], _, _, _, _, _, _, _, h, _, _, _, _, _, _, _ => h.elim
  | [], _ :: _, _ :: _, _, _, _, _, _, _, _, _, h, _, _, _, _, _, _ => h.elim
  | _ :: _, _, [], _, _, _, _, _, _, _, _, h, _, _, _, _, _, _ => h.elim
  | _ :: _, [], _ :: _, _, _, _, _, _, _, _, h, _, _, _, _, _, _, _ => h.elim
theorem waters_is {d : DamT} (h : DamIn 12 d) {l : List Q2} {ps : List Rat} (hp : PlanOf d l) (hl : IsL 40 l ps) (lv : Lvl (d.1 : Rat) 0 (d.2.1 : Rat) d.2.2.2 ps) : ∃ ms, N_waters_of_months d l = some ms ∧ WM ms (monW 0 [(-1, (d.2.1 : Rat))] d.2.2.2 ps) := by
  have c1 := h.c1; have s0 := h.s0; have s1 := h.s1; have l1 := h.l1
  have si : Is 40 (d.2.1, (1 : Int)) (d.2.1 : Rat) := is_int (by omega) (by decide)
  have sr : (0 : Rat) ≤ (d.2.1 : Rat) := c0 s0
  have s2 : (d.2.1 : Rat) ≤ 1000 := Rat.intCast_le_intCast.mpr (show d.2.1 ≤ 1000 by omega)
  have W : Wat 12 [((-1 : Int), (d.2.1, (1 : Int)))] [((-1 : Int), (d.2.1 : Rat))] := ⟨rfl, si, Dy.int 12 _, sr, by grind, trivial⟩
  obtain ⟨kept', ms, e, g⟩ := months_go (Rat.intCast_le_intCast.mpr c1) d.2.2.2 l ps 0 0 _ _ [] (d.2.1 : Rat) h.fl hl lv (by omega) W (by show (d.2.1 : Rat) + 0 = (d.2.1 : Rat); grind) s2 (by rw [List.length_singleton]; omega) (by rw [List.length_nil]; omega)
  refine ⟨ms, ?_, g⟩
  unfold N_waters_of_months
  rw [check_dam_ok h (by decide), check_plan_ok h hp]
  refine bindE rfl (bindE rfl (bindE (a := d) rfl (bindE (a := [((-1 : Int), (d.2.1, (1 : Int)))]) rfl (bindE (a := []) rfl ?_))))
  show (foldO mB (enumN 0 (List.zip d.2.2.2 l)) ([((-1 : Int), (d.2.1, (1 : Int)))], [])).bind (fun s17 => some s17.2) = _
  rw [e]
  rfl
def numW (j : Int) (rs : WR) : Rat := (rs.map fun w => ((j - w.1 : Int) : Rat) * w.2).sum
def meanW (j : Int) (rs : WR) : Rat := if rs = [] then 0 else numW j rs / totW rs
def oldW (j : Int) : WR → Option Int
  | [] => none
  | (m, _) :: _ => some (j - m)
structure Mon (j : Int) (ws : WR) : Prop where
  bd : ∀ w ∈ ws, -1 ≤ w.1 ∧ w.1 ≤ j
  so : (ws.map (·.1)).Pairwise (· ≤ ·)
theorem Mon.sub {j : Int} {a b : WR} (h : Mon j b) (s : (a.map (·.1)).Sublist (b.map (·.1))) : Mon j a := by
  refine ⟨fun w hw => ?_, h.so.sublist s⟩
  have : w.1 ∈ b.map (·.1) := s.subset (List.mem_map_of_mem hw)
  obtain ⟨u, hu, e⟩ := List.mem_map.mp this
  rw [← e]
  exact h.bd u hu
theorem Mon.next {j : Nat} {ws : WR} {x : Int} (h : Mon ((j : Int) - 1) ws) : Mon (j : Int) (inW j ws x) := by
  refine ⟨fun w hw => ?_, ?_⟩
  · rcases List.mem_append.mp hw with z | z
    · have := h.bd w z
      omega
    · rw [List.mem_singleton.mp z]
      show -1 ≤ (j : Int) ∧ (j : Int) ≤ j
      omega
  · rw [List.map_append, List.pairwise_append]
    refine ⟨h.so, List.pairwise_singleton _ _, fun a ha b hb => ?_⟩
    obtain ⟨u, hu, rfl⟩ := List.mem_map.mp ha
    have e : b = (j : Int) := by simpa using hb
    have := h.bd u hu
    omega
theorem ages_go {j : Int} (hj : -1 ≤ j ∧ j ≤ 20) : ∀ (R : WQ) (rs : WR), Wat 12 R rs → (∀ w ∈ rs, -1 ≤ w.1 ∧ w.1 ≤ j) → ∃ l, compO (fun (_ : Int × Q2) => (some true)) (fun (i4 : Int × Q2) => (N_times ((j - i4.1), (1 : Int)) i4.2)) R = some l ∧ IsL 220 l (rs.map fun w => ((j - w.1 : Int) : Rat) * w.2)
  | [], [], _, _ => ⟨[], rfl, trivial⟩
  | (m, q) :: R, (n, v) :: rs, ⟨h1, h2, _, _, _, h6⟩, hb => by
    subst h1
    have b := hb _ List.mem_cons_self
    obtain ⟨l, e, i⟩ := ages_go hj R rs h6 fun w hw => hb w (List.mem_cons_of_mem _ hw)
    have b1 : -1 ≤ m ∧ m ≤ j := b
    have ji : Is 10 (j - m, (1 : Int)) ((j - m : Int) : Rat) := is_int (by omega) (by decide)
    obtain ⟨t, t1, t2⟩ := ptimes ji h2 (by decide)
    refine ⟨t :: l, ?_, t2.mono (by decide), i⟩
    show ((N_times ((j - m), (1 : Int)) q).bind fun y => (compO _ _ R).bind fun ys => some (y :: ys)) = _
    rw [t1, Option.bind_some, e]
    rfl
  | [], _ :: _, h, _ => h.elim
  | _ :: _, [], h, _ => h.elim
theorem amts_go : ∀ (R : WQ) (rs : WR), Wat 12 R rs → ∃ l, compO (fun (_ : Int × Q2) => (some true)) (fun (i8 : Int × Q2) => (some i8.2)) R = some l ∧ IsL 220 l (rs.map fun w => w.2)
  | [], [], _ => ⟨[], rfl, trivial⟩
  | (m, q) :: R, (n, v) :: rs, ⟨_, h2, _, _, _, h6⟩ => by
    obtain ⟨l, e, i⟩ := amts_go R rs h6
    refine ⟨q :: l, ?_, h2.mono (by decide), i⟩
    show ((some q).bind fun y => (compO _ _ R).bind fun ys => some (y :: ys)) = _
    rw [Option.bind_some, e]
    rfl
  | [], _ :: _, h => h.elim
  | _ :: _, [], h => h.elim
theorem sum_ofR {l : List Q2} {vs : List Rat} (hl : IsL 220 l vs) (ll : l.length ≤ 16) : ∃ q, N_sum_of_ratios l = some q ∧ Is 4000 q vs.sum := by
  have zi : Is 4 ((0 : Int), (1 : Int)) ((0 : Int) : Rat) := is_int (by decide) (by decide)
  obtain ⟨r, r1, r2⟩ := sumP_is l vs ((0 : Int), (1 : Int)) _ 4 hl zi (by omega)
  have z : ((0 : Int) : Rat) = 0 := rfl
  have e : (0 : Rat) + vs.sum = vs.sum := by grind
  rw [z, e] at r2
  refine ⟨r, ?_, r2.mono (by omega)⟩
  unfold N_sum_of_ratios
  refine bindE (a := ((0 : Int), (1 : Int))) rfl (bindE r1 rfl)
theorem tot_pos {rs : WR} (h : ∀ w ∈ rs, 0 < w.2) (ne : rs ≠ []) : 0 < totW rs := by
  cases rs with
  | nil => exact absurd rfl ne
  | cons w rs =>
    have a := h w List.mem_cons_self
    have b := tot_nn (ws := rs) fun x hx => Rat.le_of_lt (h x (List.mem_cons_of_mem _ hx))
    show 0 < w.2 + totW rs
    grind
theorem mean_age_ok {j : Int} (hj : -1 ≤ j ∧ j ≤ 20) {R : WQ} {rs : WR} (hw : Wat 12 R rs) (hp : ∀ w ∈ rs, 0 < w.2) (hb : ∀ w ∈ rs, -1 ≤ w.1 ∧ w.1 ≤ j) (hl : R.length ≤ 16) : ∃ q, N_mean_age R j = some q ∧ Is 8000 q (meanW j rs) := by
  have ll := hw.len
  unfold N_mean_age meanW
  by_cases c : rs = []
  · have e : R = [] := List.eq_nil_of_length_eq_zero (by rw [ll, c]; rfl)
    have z : ((0 : Int) : Rat) = 0 := rfl
    rw [if_pos c, e]
    exact ⟨_, rfl, by rw [← z]; exact (is_int (n := 10) (by decide) (by decide)).mono (by decide)⟩
  · have e : R ≠ [] := fun z => c (List.eq_nil_of_length_eq_zero (by rw [← ll, z]; rfl))
    rw [if_neg c]
    obtain ⟨l, a1, a2⟩ := ages_go hj R rs hw hb
    obtain ⟨m, b1, b2⟩ := amts_go R rs hw
    have la : l.length ≤ 16 := by rw [a2.len, List.length_map, ← ll]; exact hl
    have lb : m.length ≤ 16 := by rw [b2.len, List.length_map, ← ll]; exact hl
    obtain ⟨s, s1, s2⟩ := sum_ofR a2 la
    obtain ⟨t, t1, t2⟩ := sum_ofR b2 lb
    obtain ⟨q, q1, q2⟩ := pdivided s2 t2 (tot_pos hp c) (by decide)
    refine ⟨q, ?_, q2⟩
    have ca : compL (fun (_ : Int × Q2) => (some true)) (fun (i4 : Int × Q2) => (N_times ((j - i4.1), (1 : Int)) i4.2)) R = some l := by unfold compL; rw [if_pos (by omega)]; exact a1
    have cb : compL (fun (_ : Int × Q2) => (some true)) (fun (i8 : Int × Q2) => (some i8.2)) R = some m := by unfold compL; rw [if_pos (by omega)]; exact b1
    rw [decide_eq_false e]
    show ((compL (fun (_ : Int × Q2) => (some true)) (fun (i4 : Int × Q2) => (N_times ((j - i4.1), (1 : Int)) i4.2)) R).bind fun a7 => N_sum_of_ratios a7).bind _ = _
    rw [ca, Option.bind_some, s1, Option.bind_some, Option.bind_some, cb, Option.bind_some, t1, Option.bind_some]
    exact q1
def avW : Nat → WR → List Int → List Rat → List Rat
  | j, ws, x :: xs, p :: ps => meanW j (relW p (inW j ws x)) :: avW (j + 1) (kepW p (inW j ws x)) xs ps
  | _, _, _, _ => []
def olW : Nat → WR → List Int → List Rat → List (Option Int)
  | j, ws, x :: xs, p :: ps => oldW j (kepW p (inW j ws x)) :: olW (j + 1) (kepW p (inW j ws x)) xs ps
  | _, _, _, _ => []
theorem old_is {j : Int} {K : WQ} {ks : WR} (h : Wat 12 K ks) : (iteO (some (decide (K = ([] : WQ)))) (some none) (((some j).bind fun x8 => ((atI K (0 : Int)).bind fun x7 => some x7.1).bind fun y9 => some (x8 - y9)).bind fun x10 => some (some x10))) = some (oldW j ks) := by
  cases K with
  | nil => cases ks with
    | nil => rfl
    | cons _ _ => exact h.elim
  | cons k K => cases ks with
    | nil => exact h.elim
    | cons w ks =>
      have a : atI (k :: K) (0 : Int) = some k := Ty.atI_nat (l := k :: K) (i := 0) (by rw [List.length_cons]; omega)
      rw [a, decide_eq_false (by simp)]
      obtain ⟨m, q⟩ := k
      obtain ⟨n, v⟩ := w
      have e : m = n := h.1
      rw [e]
      rfl
noncomputable def aB (i2 : Int × (WQ × WQ)) : Option Q2 := N_mean_age i2.2.1 i2.1
noncomputable def oB (i2 : Int × (WQ × WQ)) : Option (Option Int) := (iteO (some (decide (i2.2.2 = ([] : WQ)))) (some none) (((some i2.1).bind fun x8 => ((atI i2.2.2 (0 : Int)).bind fun x7 => some x7.1).bind fun y9 => some (x8 - y9)).bind fun x10 => some (some x10)))
theorem told_go {C : Rat} : ∀ (xs : List Int) (ps : List Rat) (j k : Nat) (ws : WR) (ms : List (WQ × WQ)) (h : Rat), Flows xs → Lvl C k h xs ps → Nn ws → totW ws = h → Mon ((j : Int) - 1) ws → WM ms (monW j ws xs ps) → j + xs.length ≤ 12 → ws.length ≤ j + 1 →
    ∃ as, compO (fun (_ : Int × (WQ × WQ)) => (some true)) aB (enumN j ms) = some as ∧ IsL 8000 as (avW j ws xs ps) ∧ compO (fun (_ : Int × (WQ × WQ)) => (some true)) oB (enumN j ms) = some (olW j ws xs ps) ∧ ms.length = xs.length
  | [], [], j, k, ws, ms, h, _, _, _, _, _, hm, _, _ => by
    cases ms with
    | nil => exact ⟨[], rfl, trivial, rfl, rfl⟩
    | cons _ _ => exact hm.elim
  | x :: xs, p :: ps, j, k, ws, ms, h, hx, ⟨p0, pd, l0, l1, lv⟩, hn, ht, hj, hm, hlen, hw => by
    rw [List.length_cons] at hlen
    have xx := hx x List.mem_cons_self
    have x0 : (0 : Rat) ≤ (x : Rat) := c0 xx.1
    have W : Nn (inW j ws x) := fun w hw => by
      rcases List.mem_append.mp hw with z | z
      · exact hn w z
      · rw [List.mem_singleton.mp z]; exact x0
    have tt := tot_in j ws x
    have kt := kep_tot p0 W (r := p) (by rw [tt, ht]; grind)
    rw [tt, ht] at kt
    have Mn := hj.next (x := x)
    obtain ⟨k1, k2⟩ := kep_mem p0 W
    obtain ⟨r1, r2⟩ := rel_mem p0 W
    cases ms with
    | nil => exact hm.elim
    | cons b ms =>
      obtain ⟨g1, g2, g3⟩ := hm
      have Mk := Mn.sub k2
      have Mr := Mn.sub r2
      have lr : b.1.length ≤ 16 := by
        have := r2.length_le
        rw [g1.len]
        show (relW p (inW j ws x)).length ≤ 16
        simp at this
        omega
      obtain ⟨q, q1, q2⟩ := mean_age_ok (j := (j : Int)) (by omega) g1 r1 Mr.bd lr
      have lk : (kepW p (inW j ws x)).length ≤ j + 1 + 1 := by
        have := k2.length_le
        simp at this
        omega
      obtain ⟨as, a1, a2, a3, a4⟩ := told_go xs ps (j + 1) (k + 1) (kepW p (inW j ws x)) ms _ (fun y hy => hx y (List.mem_cons_of_mem _ hy)) lv (fun w hw => Rat.le_of_lt (k1 w hw)) kt (by rw [show (((j + 1 : Nat) : Int) - 1) = (j : Int) by omega]; exact Mk) g3 (by omega) lk
      refine ⟨q :: as, ?_, ⟨q2, a2⟩, ?_, by rw [List.length_cons, a4, List.length_cons]⟩
      · show ((N_mean_age b.1 (j : Int)).bind fun y => (compO _ aB (enumN (j + 1) ms)).bind fun ys => some (y :: ys)) = _
        rw [q1, Option.bind_some, a1]
        rfl
      · show ((oB ((j : Int), b)).bind fun y => (compO _ oB (enumN (j + 1) ms)).bind fun ys => some (y :: ys)) = _
        rw [show oB ((j : Int), b) = some (oldW (j : Int) (kepW p (inW j ws x))) from old_is g2, Option.bind_some, a3]
        rfl
  | [], _ :: _, _, _, _, _, _, _, h, _, _, _, _, _, _ => h.elim
  | _ :: _, [], _, _, _, _, _, _, h, _, _, _, _, _, _ => h.elim
theorem fold_bind {α σ γ : Type} {Bd : α → σ → Option σ} {l : List α} {s s' : σ} {K : σ → Option γ} {R : Option γ} (h1 : foldO Bd l s = some s') (h2 : K s' = R) : (foldO Bd l s).bind K = R := by rw [h1]; exact h2
theorem law_sum_ok {n : Nat} (hn : n ≤ 200) : ∀ (L : List Q2), L.length ≤ 12 → (∀ p ∈ L, Sz n p) → ∃ s, N__law_sum L = some s ∧ val s = (L.map val).sum ∧ Sz 3000 s := by
  have go : ∀ (L : List Q2) (k : Nat) (a : Q2), Sz (k * (n + 1) + 1) a → k + L.length ≤ 12 → (∀ p ∈ L, Sz n p) → ∃ s, foldO (fun i s => (N__law_plus s i).bind fun t => some t) L a = some s ∧ val s = val a + (L.map val).sum ∧ Sz 3000 s := by
    intro L
    induction L with
    | nil =>
      intro k a ha hk _
      refine ⟨a, rfl, ?_, ha.mono ?_⟩
      · show val a = val a + 0
        grind
      · have : k * (n + 1) ≤ 12 * 201 := Nat.mul_le_mul (by simpa using hk) (by omega)
        omega
    | cons p L ih =>
      intro k a ha hk hp
      rw [List.length_cons] at hk
      have hb : k * (n + 1) ≤ 12 * 201 := Nat.mul_le_mul (by omega) (by omega)
      obtain ⟨r, r1, r2, r3⟩ := law_plus_ok ha (hp p List.mem_cons_self) (by omega)
      obtain ⟨s, s1, s2, s3⟩ := ih (k + 1) r (r3.mono (by rw [Nat.succ_mul]; omega)) (by omega) fun y hy => hp y (List.mem_cons_of_mem _ hy)
      refine ⟨s, ?_, ?_, s3⟩
      · rw [foldO_cons, r1]
        exact s1
      · rw [s2, r2, List.map_cons, List.sum_cons]
        grind
  intro L hl hp
  obtain ⟨s, s1, s2, s3⟩ := go L 0 ((0 : Int), (1 : Int)) (sz_int (by exact Nat.two_pow_pos _) (by omega)) (by omega) hp
  refine ⟨s, ?_, ?_, s3⟩
  · unfold N__law_sum
    rw [Option.bind_some]
    refine fold_bind s1 rfl
  · rw [s2, val_int]
    show (0 : Rat) + _ = _
    grind
theorem dy_is2 {k n : Nat} {p : Q2} {v : Rat} (h : Is n p v) (hd : Dy k v) (hk : k ≤ 12) (h0 : -200000 ≤ v) (h1 : v ≤ 200000) : Is 44 p v := by
  obtain ⟨i, hi⟩ := hd
  have hp := pow4_pos k
  have hc : (0 : Rat) < ((4 ^ k : Int) : Rat) := cast_pos hp
  have b4 : (4 : Int) ^ k ≤ 4 ^ 12 := by
    have : (4 : Nat) ^ k ≤ 4 ^ 12 := Nat.pow_le_pow_right (by decide) hk
    exact_mod_cast this
  have i1 : i ≤ 200000 * 4 ^ k := by
    have : (i : Rat) ≤ ((200000 * 4 ^ k : Int) : Rat) := by
      rw [← hi, Rat.intCast_mul]
      exact Rat.mul_le_mul_of_nonneg_right h1 (Rat.le_of_lt hc)
    exact Rat.intCast_le_intCast.mp this
  have i0 : -200000 * 4 ^ k ≤ i := by
    have : ((-200000 * 4 ^ k : Int) : Rat) ≤ (i : Rat) := by
      rw [← hi, Rat.intCast_mul]
      exact Rat.mul_le_mul_of_nonneg_right h0 (Rat.le_of_lt hc)
    exact Rat.intCast_le_intCast.mp this
  have e12 : (4 : Int) ^ 12 = 16777216 := by decide
  have s1 : i.natAbs < 2 ^ 44 := by
    have : (2 : Nat) ^ 44 = 17592186044416 := by decide
    omega
  have s2 : ((4 : Int) ^ k).natAbs < 2 ^ 44 := by
    have : (2 : Nat) ^ 44 = 17592186044416 := by decide
    omega
  have hr : Is 44 (rt i (4 ^ k)) v := ⟨rt_sz hp s1 s2, by rw [rt_val hp, ← hi]; rw [Rat.mul_div_cancel (Rat.ne_of_gt hc)]⟩
  rw [h.uniq hr]
  exact hr
theorem Dy.mulI {k : Nat} {a : Rat} (j : Int) (ha : Dy k a) : Dy k ((j : Rat) * a) := by
  obtain ⟨i, hi⟩ := ha
  refine ⟨j * i, ?_⟩
  rw [Rat.intCast_mul, ← hi]
  grind
abbrev un (j : Int) (l : WQ) : WQ := l.map fun x => (j - x.1, x.2)
noncomputable def iB40 (i41 : Int × Q2) (s39 : Q2 × Q2 × WQ) : Option (Q2 × Q2 × WQ) := ((iteO (N__law_less s39.2.1 i41.2) (some s39.2.1) (some i41.2)).bind fun share_42 => (((some s39.1).bind fun a44 => (N__law_by (i41.1, (1 : Int)) share_42).bind fun a45 => N__law_plus a44 a45).bind fun whole_43 => ((N__law_plus s39.2.1 (((0 : Int) - share_42.1), share_42.2)).bind fun rest_46 => (((some i41.1).bind fun x55 => (N__law_plus i41.2 (((0 : Int) - share_42.1), share_42.2)).bind fun y56 => some (x55, y56)).bind fun x58 => (appO s39.2.2 x58).bind fun later_57 => some (whole_43, rest_46, later_57)))))
theorem inv_is {n : Nat} {q : Q2} {v : Rat} (h : Is n q v) (hv : 0 < v) : Is n (q.2, q.1) (1 / v) := by
  have q1 : 0 < q.1 := (val_pos_iff h.sz.pos).mp (by rw [h.eq]; exact hv)
  refine ⟨⟨q1, h.sz.bot, h.sz.top, by rw [Nat.gcd_comm]; exact h.sz.low⟩, ?_⟩
  have a := cast_ne h.sz.pos
  have b := cast_ne q1
  rw [← h.eq]
  unfold val
  show (q.2 : Rat) / (q.1 : Rat) = 1 / ((q.1 : Rat) / (q.2 : Rat))
  grind
theorem lef_zero : ∀ {ws : WR} {r : Rat}, 0 ≤ r → Nn ws → r ≤ totW ws → lefW r ws = 0
  | [], r, r0, _, h => by
    have h' : r ≤ 0 := h
    show r = 0
    grind
  | (m, a) :: ws, r, r0, hn, h => by
    have a0 : 0 ≤ a := hn _ List.mem_cons_self
    have n' : Nn ws := fun x hx => hn x (List.mem_cons_of_mem _ hx)
    obtain ⟨i1, i2, i3⟩ := tk_in r0 a0
    have h' : r ≤ a + totW ws := h
    have t0 := tot_nn n'
    show lefW (r - tk' r a) ws = 0
    refine lef_zero (by grind) n' ?_
    unfold tk'
    split <;> grind
theorem rel_tot : ∀ {ws : WR} {r : Rat}, 0 ≤ r → Nn ws → totW (relW r ws) = r - lefW r ws
  | [], r, _, _ => by
    show (0 : Rat) = r - r
    grind
  | (m, a) :: ws, r, r0, hn => by
    have a0 : 0 ≤ a := hn _ List.mem_cons_self
    have n' : Nn ws := fun x hx => hn x (List.mem_cons_of_mem _ hx)
    obtain ⟨i1, i2, i3⟩ := tk_in r0 a0
    have i := rel_tot (ws := ws) (r := r - tk' r a) (by grind) n'
    show totW ((if tk' r a = 0 then [] else [(m, tk' r a)]) ++ relW (r - tk' r a) ws) = r - lefW (r - tk' r a) ws
    rw [tot_app, i]
    split
    · have e : totW ([] : WR) = 0 := rfl
      rw [e]
      grind
    · have e : totW [(m, tk' r a)] = tk' r a + 0 := rfl
      rw [e]
      grind
theorem num_app (j : Int) (a b : WR) : numW j (a ++ b) = numW j a + numW j b := by
  unfold numW
  rw [List.map_append, sumRA]
theorem num_one (j m : Int) (v : Rat) : numW j [(m, v)] = ((j - m : Int) : Rat) * v := by
  show ((j - m : Int) : Rat) * v + 0 = _
  grind
theorem num_nil (j : Int) : numW j [] = 0 := rfl
theorem num_cons (j m : Int) (a : Rat) (ws : WR) : numW j ((m, a) :: ws) = ((j - m : Int) : Rat) * a + numW j ws := rfl
theorem num_parts {j : Int} : ∀ {ws : WR} {r : Rat}, numW j (relW r ws) + numW j (kepW r ws) = numW j ws
  | [], r => by
    show (0 : Rat) + 0 = 0
    grind
  | (m, a) :: ws, r => by
    have i := num_parts (j := j) (ws := ws) (r := r - tk' r a)
    show numW j ((if tk' r a = 0 then [] else [(m, tk' r a)]) ++ relW (r - tk' r a) ws) + numW j ((if tk' r a = a then [] else [(m, a - tk' r a)]) ++ kepW (r - tk' r a) ws) = _
    rw [num_app, num_app, num_cons]
    have e1 : numW j (if tk' r a = 0 then [] else [(m, tk' r a)]) = ((j - m : Int) : Rat) * tk' r a := by
      split
      · rename_i c
        rw [c, num_nil]
        grind
      · exact num_one _ _ _
    have e2 : numW j (if tk' r a = a then [] else [(m, a - tk' r a)]) = ((j - m : Int) : Rat) * (a - tk' r a) := by
      split
      · rename_i c
        rw [c, num_nil]
        grind
      · exact num_one _ _ _
    rw [e1, e2]
    grind
theorem num_next (j : Int) : ∀ ws : WR, numW (j + 1) ws = numW j ws + totW ws
  | [] => by
    show (0 : Rat) = 0 + 0
    grind
  | (m, a) :: ws => by
    have i := num_next j ws
    have e : ((j + 1 - m : Int) : Rat) = ((j - m : Int) : Rat) + 1 := by
      rw [show j + 1 - m = (j - m) + 1 by omega, Rat.intCast_add]
      rfl
    rw [num_cons, num_cons, i, e]
    show _ = _ + (a + totW ws)
    grind
theorem num_in' (j : Nat) (ws : WR) (x : Int) : numW j (inW j ws x) = numW ((j : Int) - 1) ws + totW ws := by
  have e := num_next ((j : Int) - 1) ws
  rw [show (j : Int) - 1 + 1 = j by omega] at e
  rw [num_app, num_one, e, Int.sub_self]
  have z : ((0 : Int) : Rat) = 0 := rfl
  rw [z]
  grind
theorem mean_num {j : Int} {p : Rat} {ws : WR} (p0 : 0 ≤ p) (hn : Nn ws) (ht : p ≤ totW ws) : meanW j (relW p ws) * p = numW j (relW p ws) ∧ (0 < p → meanW j (relW p ws) = numW j (relW p ws) * (1 / p)) ∧ (p = 0 → meanW j (relW p ws) = 0) := by
  have t := rel_tot p0 hn
  rw [lef_zero p0 hn ht] at t
  have t' : totW (relW p ws) = p := by grind
  unfold meanW
  split
  · rename_i c
    have pz : p = 0 := by
      rw [c] at t'
      exact t'.symm
    rw [c, pz, num_nil]
    refine ⟨by grind, fun h => absurd h (Rat.lt_irrefl), fun _ => rfl⟩
  · rename_i c
    have pp := tot_pos (rel_mem p0 hn).1 c
    rw [t'] at pp ⊢
    refine ⟨Rat.div_mul_cancel (Rat.ne_of_gt pp), fun _ => ?_, fun z => by rw [z] at pp; exact absurd pp (Rat.lt_irrefl)⟩
    grind
theorem store_go {j : Int} (hj : 0 ≤ j ∧ j ≤ 12) : ∀ (l : WQ) (ws : WR) (w r : Rat) (qw q : Q2) (L : WQ), Wat 12 (un j l) ws → (∀ x ∈ ws, -1 ≤ x.1 ∧ x.1 ≤ j) → Is 44 qw w → Dy 12 w → 0 ≤ w → w + 13 * r ≤ 100000 → Is 40 q r → Dy 12 r → 0 ≤ r → r ≤ 3000 → L.length + l.length ≤ 1000 →
    ∃ qw' q' L', foldO iB40 l (qw, q, L) = some (qw', q', L ++ L') ∧ Is 44 qw' (w + numW j (relW r ws)) ∧ Is 40 q' (lefW r ws) ∧ L'.length = l.length ∧ Wat 12 (un j (L'.filter fun x => decide (0 < x.2.1))) (kepW r ws)
  | [], [], w, r, qw, q, L, _, _, hw, _, _, _, hq, _, _, _, _ => ⟨qw, q, [], by rw [List.append_nil]; rfl, by show Is 44 qw (w + 0); rw [show w + (0 : Rat) = w by grind]; exact hw, hq, rfl, trivial⟩
  | (ag, p) :: l, (n, a) :: ws, w, r, qw, q, L, ⟨h1, h2, h3, h4, h5, h6⟩, hb, hw, dw, w0, w1, hq, hd, r0, r1, lL => by
    rw [List.length_cons] at lL
    have b : -1 ≤ n ∧ n ≤ j := hb _ List.mem_cons_self
    have h1' : j - ag = n := h1
    have eag : ag = j - n := by omega
    subst eag
    have h2 : Is 40 p a := h2
    have sh : (iteO (N__law_less q p) (some q) (some p)) = some (if r < a then q else p) := by
      rw [lless hq h2 (by decide)]
      by_cases c : r < a
      · rw [if_pos c, decide_eq_true c]; rfl
      · rw [if_neg c, decide_eq_false c]; rfl
    obtain ⟨t, ht⟩ : ∃ t, (if r < a then q else p) = t := ⟨_, rfl⟩
    rw [ht] at sh
    have tv : Is 40 t (tk' r a) ∧ Dy 12 (tk' r a) := by
      unfold tk'
      by_cases c : r < a
      · rw [if_pos c] at ht
        rw [← ht, if_neg (Rat.not_lt.mpr (Rat.le_of_lt c))]
        exact ⟨hq, hd⟩
      · rw [if_neg c] at ht
        rw [← ht]
        split
        · exact ⟨h2, h3⟩
        · have e : a = r := by grind
          rw [← e]
          exact ⟨h2, h3⟩
    obtain ⟨i1, i2, i3⟩ := tk_in r0 h4
    have ji : Is 10 (j - n, (1 : Int)) ((j - n : Int) : Rat) := is_int (by omega) (by decide)
    have jn : (0 : Rat) ≤ ((j - n : Int) : Rat) := c0 (by omega)
    have jm : ((j - n : Int) : Rat) ≤ ((13 : Int) : Rat) := Rat.intCast_le_intCast.mpr (by omega)
    have e13 : ((13 : Int) : Rat) = 13 := rfl
    rw [e13] at jm
    have m0 := Rat.mul_nonneg jn i1
    have m1 := Rat.mul_le_mul_of_nonneg_right jm i1
    obtain ⟨u, u1, u2⟩ := lby ji tv.1 (by decide)
    obtain ⟨v, v1, v2⟩ := lplus hw u2 (by decide)
    have vd := dw.add (tv.2.mulI (j - n))
    have v3 := dy_is2 v2 vd (by decide) (by grind) (by grind)
    obtain ⟨x, x1, x2⟩ := lplus hq (is_neg tv.1) (by decide)
    have e1 : r + -tk' r a = r - tk' r a := by grind
    rw [e1] at x2
    have xd := hd.sub tv.2
    have x3 := dy_is x2 xd (by decide) (by grind) (by grind)
    obtain ⟨y, y1, y2⟩ := lplus h2 (is_neg tv.1) (by decide)
    have e2 : a + -tk' r a = a - tk' r a := by grind
    rw [e2] at y2
    have yd := h3.sub tv.2
    have y3 := dy_is y2 yd (by decide) (by grind) (by grind)
    have ap : ∀ (s : WQ) (z : Int × Q2), s.length ≤ 1000 → appO s z = some (s ++ [z]) := fun s z h => by unfold appO; rw [if_pos (by omega)]
    have st : iB40 (j - n, p) (qw, q, L) = some (v, x, L ++ [(j - n, y)]) := by
      unfold iB40
      rw [sh]
      simp only [Option.bind_some]
      rw [u1, Option.bind_some, v1, Option.bind_some, x1, Option.bind_some, y1]
      simp only [Option.bind_some]
      rw [ap L _ (by omega)]
      rfl
    obtain ⟨qw', q', L', g1, g2, g3, g4, g5⟩ := store_go hj l ws (w + ((j - n : Int) : Rat) * tk' r a) (r - tk' r a) v x (L ++ [(j - n, y)]) h6 (fun z hz => hb z (List.mem_cons_of_mem _ hz)) v3 vd (by grind) (by grind) x3 xd (by grind) (by grind) (by rw [List.length_append, List.length_singleton]; omega)
    refine ⟨qw', q', (j - n, y) :: L', ?_, ?_, g3, by rw [List.length_cons, List.length_cons, g4], ?_⟩
    · show (iB40 (j - n, p) (qw, q, L)).bind (foldO iB40 l) = _
      rw [st, Option.bind_some, g1, List.append_assoc]
      rfl
    · show Is 44 qw' (w + numW j ((if tk' r a = 0 then [] else [(n, tk' r a)]) ++ relW (r - tk' r a) ws))
      have e : numW j (if tk' r a = 0 then [] else [(n, tk' r a)]) = ((j - n : Int) : Rat) * tk' r a := by
        split
        · rename_i c
          rw [c, num_nil]
          grind
        · exact num_one _ _ _
      rw [num_app, e]
      rw [show w + (((j - n : Int) : Rat) * tk' r a + numW j (relW (r - tk' r a) ws)) = w + ((j - n : Int) : Rat) * tk' r a + numW j (relW (r - tk' r a) ws) by grind]
      exact g2
    · show Wat 12 (un j (((j - n, y) :: L').filter fun x => decide (0 < x.2.1))) ((if tk' r a = a then [] else [(n, a - tk' r a)]) ++ kepW (r - tk' r a) ws)
      have sg : (0 < y.1) ↔ 0 < a - tk' r a := by rw [← val_pos_iff y3.sz.pos, y3.eq]
      by_cases c : tk' r a = a
      · have : ¬ 0 < y.1 := fun z => by
          have := sg.mp z
          grind
        rw [List.filter_cons, if_neg (by simpa using this), if_pos c, List.nil_append]
        exact g5
      · have : 0 < y.1 := sg.mpr (by grind)
        rw [List.filter_cons, if_pos (by simpa using this), if_neg c]
        exact ⟨by show j - (j - n) = n; omega, y3, yd, by grind, by grind, g5⟩
  | [], _ :: _, _, _, _, _, _, h, _, _, _, _, _, _, _, _, _, _ => h.elim
  | _ :: _, [], _, _, _, _, _, h, _, _, _, _, _, _, _, _, _, _ => h.elim
end Ty
namespace DN
open PySem PySem.Spec PyProof.Rows L2
end DN
namespace Ty
open PySem PySem.Spec PyProof.Rows L2 DN
theorem iteF {α : Type} {c : Option Bool} {A B r : Option α} (h : c = some false) (g : B = r) : iteO c A B = r := by rw [h]; exact g
theorem iteT {α : Type} {c : Option Bool} {A B r : Option α} (h : c = some true) (g : A = r) : iteO c A B = r := by rw [h]; exact g
theorem bindJ_i {β σ : Type} {A : Option (β ⊕ σ)} {K : σ → Option β} {s : σ} {r : Option β} (h : A = some (.inr s)) (g : K s = r) : bindJ A K = r := by
  rw [h]; exact g
theorem alike_rows {l : List Q2} (h : l.length ≤ 1000000) : alikeT 3 (eR (e2 eI eI)) (eR (e2 eI eI)) l l = some true := by
  have := alk_R (alk_2 (alk_I 1) (alk_I 1)) l l h
  rw [decide_eq_true rfl] at this
  exact this
def dot : List Int → List Int → Int
  | x :: xs, c :: cs => x * c + dot xs cs
  | _, _ => 0
end Ty
namespace L40
open PySem PySem.Spec PyProof.Rows L2 DN Ty
theorem enumN_len {α : Type} : ∀ (k : Nat) (l : List α), (enumN k l).length = l.length
  | _, [] => rfl
  | k, x :: r => by show (enumN (k + 1) r).length + 1 = r.length + 1; rw [enumN_len]
theorem ages_is {d : DamT} (h : DamIn 12 d) {l : List Q2} {ps : List Rat} (hp : PlanOf d l) (hl : IsL 40 l ps) (lv : Lvl (d.1 : Rat) 0 (d.2.1 : Rat) d.2.2.2 ps) : ∃ as, N_ages d l = some as ∧ IsL 8000 as (avW 0 [(-1, (d.2.1 : Rat))] d.2.2.2 ps) ∧ N_oldest d l = some (olW 0 [(-1, (d.2.1 : Rat))] d.2.2.2 ps) := by
  have l1 := h.l1; have s0 := h.s0
  obtain ⟨ms, m1, m2⟩ := waters_is h hp hl lv
  obtain ⟨as, a1, a2, a3, a4⟩ := told_go d.2.2.2 ps 0 0 [(-1, (d.2.1 : Rat))] ms (d.2.1 : Rat) h.fl lv (fun w hw => by rw [List.mem_singleton.mp hw]; exact c0 s0) (by show (d.2.1 : Rat) + 0 = (d.2.1 : Rat); grind) ⟨fun w hw => by rw [List.mem_singleton.mp hw]; exact ⟨Int.le_refl _, by show (-1 : Int) ≤ ((0 : Nat) : Int) - 1; decide⟩, List.pairwise_singleton _ _⟩ m2 (by omega) (by simp)
  refine ⟨as, ?_, a2, ?_⟩
  · unfold N_ages
    rw [m1]
    show (compL (fun (_ : Int × (WQ × WQ)) => (some true)) aB (enumN 0 ms)).bind (fun x3 => some x3) = _
    unfold compL
    rw [if_pos (by rw [enumN_len, a4]; omega), a1]
    rfl
  · unfold N_oldest
    rw [m1]
    show (compL (fun (_ : Int × (WQ × WQ)) => (some true)) oB (enumN 0 ms)).bind (fun x3 => some x3) = _
    unfold compL
    rw [if_pos (by rw [enumN_len, a4]; omega), a3]
    rfl
noncomputable def B40 (X : List Int) (PL : List Q2) (i20 : Int) (s18 : WQ × List Q2 × List (Option Int)) : Option (Bool ⊕ (WQ × List Q2 × List (Option Int))) := ((((some (0 : Int)).bind fun x28 => ((atI X i20).bind fun x26 => (some (1 : Int)).bind fun x27 => some (x26, x27)).bind fun y29 => some (x28, y29)).bind fun x31 => (appO s18.1 x31).bind fun store_30 => some store_30).bind fun s21 => ((atI PL i20).bind fun rest_34 => (some ((0 : Int), (1 : Int))).bind fun whole_35 => (some ([] : (List (Int × (Int × Int))))).bind fun later_36 => ((foldO iB40 s21 (whole_35, rest_34, later_36)).bind fun s37 => (iteO (some (!decide (s37.2.1 = ((0 : Int), (1 : Int))))) ((some false).bind fun v107 => some (.inl v107)) (((iteO (((atI PL i20).bind fun x65 => some x65.1).bind fun x68 => (some (0 : Int)).bind fun y69 => some (decide (y69 < x68))) ((some s37.1).bind fun a78 => (((atI PL i20).bind fun x72 => some x72.2).bind fun x76 => ((atI PL i20).bind fun x75 => some x75.1).bind fun x77 => some (x76, x77)).bind fun a79 => N__law_by a78 a79) (some ((0 : Int), (1 : Int)))).bind fun x81 => (appO s18.2.1 x81).bind fun due_80 => some due_80).bind fun s61 => ((compL (fun (i83 : (Int × (Int × Int))) => (some (decide ((0 : Int) < i83.2.1)))) (fun (i83 : (Int × (Int × Int))) => (some i83)) s37.2.2).bind fun left_82 => (((iteO (some (!decide (left_82 = ([] : (List (Int × (Int × Int))))))) (((atI left_82 (0 : Int)).bind fun x96 => some x96.1).bind fun x97 => some (some x97)) (some none)).bind fun x99 => (appO s18.2.2 x99).bind fun old_98 => some old_98).bind fun s90 => (((compL (fun (i101 : (Int × (Int × Int))) => (some true)) (fun (i101 : (Int × (Int × Int))) => (some ((i101.1 + (1 : Int)), i101.2))) left_82).bind fun store_100 => some (store_100, s61, s90)).bind fun s106 => some (.inr s106)))))))))
def fiW : Nat → WR → List Int → List Rat → WR
  | j, ws, x :: xs, p :: ps => fiW (j + 1) (kepW p (inW j ws x)) xs ps
  | _, ws, _, _ => ws
theorem ages_sum {C : Rat} : ∀ (xs : List Int) (ps : List Rat) (j k : Nat) (ws : WR) (h : Rat), Flows xs → Lvl C k h xs ps → Nn ws → totW ws = h →
    numW ((j : Int) - 1) ws + ((h :: lvs h xs ps).take xs.length).sum = (List.zipWith (fun a p => a * p) (avW j ws xs ps) ps).sum + numW ((j : Int) + xs.length - 1) (fiW j ws xs ps)
  | [], [], j, k, ws, h, _, _, _, _ => by
    show numW ((j : Int) - 1) ws + 0 = 0 + numW ((j : Int) + 0 - 1) ws
    rw [show (j : Int) + 0 - 1 = (j : Int) - 1 by omega]
    grind
  | x :: xs, p :: ps, j, k, ws, h, hx, ⟨p0, pd, l0, l1, lv⟩, hn, ht => by
    have x0 : (0 : Rat) ≤ (x : Rat) := c0 (hx x List.mem_cons_self).1
    have W : Nn (inW j ws x) := fun w hw => by
      rcases List.mem_append.mp hw with z | z
      · exact hn w z
      · rw [List.mem_singleton.mp z]; exact x0
    have tt := tot_in j ws x
    have le : p ≤ totW (inW j ws x) := by rw [tt, ht]; grind
    have kt := kep_tot p0 W le
    rw [tt, ht] at kt
    obtain ⟨k1, k2⟩ := kep_mem p0 W (r := p)
    have i := ages_sum xs ps (j + 1) (k + 1) (kepW p (inW j ws x)) _ (fun y hy => hx y (List.mem_cons_of_mem _ hy)) lv (fun w hw => Rat.le_of_lt (k1 w hw)) kt
    have m := (mean_num (j := (j : Int)) p0 W le).1
    have np := num_parts (j := (j : Int)) (ws := inW j ws x) (r := p)
    have ni := num_in' j ws x
    rw [ht] at ni
    rw [show (((j + 1 : Nat) : Int) - 1) = (j : Int) by omega, show (((j + 1 : Nat) : Int) + (xs.length : Int) - 1) = (j : Int) + ((x :: xs).length : Int) - 1 by rw [List.length_cons]; omega] at i
    have e1 : ((h :: lvs h (x :: xs) (p :: ps)).take (x :: xs).length).sum = h + (((h + (x : Rat) - p) :: lvs (h + (x : Rat) - p) xs ps).take xs.length).sum := by
      rw [List.length_cons, List.take_succ_cons]
      rfl
    have e2 : (List.zipWith (fun a p => a * p) (avW j ws (x :: xs) (p :: ps)) (p :: ps)).sum = meanW j (relW p (inW j ws x)) * p + (List.zipWith (fun a p => a * p) (avW (j + 1) (kepW p (inW j ws x)) xs ps) ps).sum := rfl
    have e3 : fiW j ws (x :: xs) (p :: ps) = fiW (j + 1) (kepW p (inW j ws x)) xs ps := rfl
    rw [e1, e2, e3, m]
    grind
  | [], _ :: _, _, _, _, _, _, h, _, _ => h.elim
  | _ :: _, [], _, _, _, _, _, h, _, _ => h.elim
theorem un_len (j : Int) (l : WQ) : (un j l).length = l.length := List.length_map _
theorem months40 {C : Rat} (hC : C ≤ 1000) : ∀ (xs : List Int) (l : List Q2) (ps : List Rat) (j k : Nat) (X : List Int) (PL : List Q2) (store : WQ) (ws : WR) (due : List Q2) (old : List (Option Int)) (h : Rat), Flows xs → IsL 40 l ps → Lvl C k h xs ps → k + xs.length ≤ 12 → j + xs.length ≤ 12 → X.drop j = xs → PL.drop j = l → Wat 12 (un j store) ws → totW ws = h → h ≤ 1000 → ws.length ≤ j + 1 → Mon ((j : Int) - 1) ws → due.length ≤ j → old.length ≤ j →
    ∃ store' D, foldJ (B40 X PL) ((List.range' j xs.length).map fun i : Nat => (0 + (i : Int))) (store, due, old) = some (.inr (store', due ++ D, old ++ olW j ws xs ps)) ∧ IsL 84 D (avW j ws xs ps) ∧ Wat 12 (un ((j : Int) + xs.length) store') (fiW j ws xs ps) ∧ (fiW j ws xs ps).length ≤ j + xs.length + 1 ∧ Mon ((j : Int) + xs.length - 1) (fiW j ws xs ps) ∧ (∀ C' : Rat, 1000 ≤ C' → totW (fiW j ws xs ps) ≤ C')
  | [], [], [], j, k, X, PL, store, ws, due, old, h, _, _, _, _, _, _, _, hw, ht, h1, hn, hm, _, _ => ⟨store, [], by rw [List.append_nil]; show some _ = _; rw [show olW j ws [] [] = [] from rfl, List.append_nil], trivial, by show Wat 12 (un ((j : Int) + ((0 : Nat) : Int)) store) ws; rw [show (j : Int) + ((0 : Nat) : Int) = j by omega]; exact hw, by show ws.length ≤ _; simpa using hn, by show Mon ((j : Int) + ((0 : Nat) : Int) - 1) ws; rw [show (j : Int) + ((0 : Nat) : Int) - 1 = j - 1 by omega]; exact hm, fun C' hc => by show totW ws ≤ C'; rw [ht]; grind⟩
  | x :: xs, q :: l, p :: ps, j, k, X, PL, store, ws, due, old, h, hx, hl, ⟨p0, pd, l0, l1, lv⟩, hk, hj, hX, hP, hw, ht, h1, hn, hm, ld, lo => by
    rw [List.length_cons] at hk hj
    have xx := hx x List.mem_cons_self
    have xi : Is 40 (x, (1 : Int)) (x : Rat) := is_int (by omega) (by decide)
    have x0 : (0 : Rat) ≤ (x : Rat) := c0 xx.1
    have x1 : (x : Rat) ≤ 1000 := Rat.intCast_le_intCast.mpr xx.2
    have wn := hw.nn
    have sl := hw.len
    rw [un_len] at sl
    have W : Wat 12 (un j (store ++ [((0 : Int), (x, (1 : Int)))])) (inW j ws x) := by
      show Wat 12 (List.map _ (store ++ _)) _
      rw [List.map_append]
      exact hw.app ⟨by show (j : Int) - 0 = j; omega, xi, Dy.int 12 x, x0, by grind, trivial⟩
    have tt := tot_in j ws x
    have le : p ≤ totW (inW j ws x) := by rw [tt, ht]; grind
    have kt := kep_tot p0 W.nn le
    rw [tt, ht] at kt
    have Mn := hm.next (x := x)
    obtain ⟨k1, k2⟩ := kep_mem p0 W.nn (r := p)
    have kn : (kepW p (inW j ws x)).length ≤ ws.length + 1 := by
      have := k2.length_le
      simpa using this
    have zi : Is 44 ((0 : Int), (1 : Int)) ((0 : Int) : Rat) := is_int (by decide) (by decide)
    have z : ((0 : Int) : Rat) = 0 := rfl
    rw [z] at zi
    obtain ⟨qw, q', L, g1, g2, g3, g4, g5⟩ := store_go (j := (j : Int)) (by omega) (store ++ [((0 : Int), (x, (1 : Int)))]) (inW j ws x) 0 p ((0 : Int), (1 : Int)) q [] W Mn.bd zi (Dy.int 12 0) Rat.le_refl (by grind) hl.1 (pd.le (by omega)) p0 (by grind) (by rw [List.length_append, List.length_singleton, List.length_nil]; omega)
    rw [lef_zero p0 W.nn le] at g3
    have q0 : q' = ((0 : Int), (1 : Int)) := g3.uniq zi
    subst q0
    have e0 : (0 : Rat) + numW j (relW p (inW j ws x)) = numW j (relW p (inW j ws x)) := by grind
    rw [e0] at g2
    have Lc : (store ++ [((0 : Int), (x, (1 : Int)))]).length ≤ 30 := by rw [List.length_append, List.length_singleton]; omega
    obtain ⟨m1, m2, m3⟩ := mean_num (j := (j : Int)) p0 W.nn le
    obtain ⟨du, du1, du2⟩ : ∃ du, (iteO (((some q).bind fun x65 => some x65.1).bind fun x68 => (some (0 : Int)).bind fun y69 => some (decide (y69 < x68))) ((some qw).bind fun a78 => (((some q).bind fun x72 => some x72.2).bind fun x76 => ((some q).bind fun x75 => some x75.1).bind fun x77 => some (x76, x77)).bind fun a79 => N__law_by a78 a79) (some ((0 : Int), (1 : Int)))) = some du ∧ Is 84 du (meanW j (relW p (inW j ws x))) := by
      simp only [Option.bind_some]
      by_cases c : 0 < p
      · have : 0 < q.1 := (val_pos_iff hl.1.sz.pos).mp (by rw [hl.1.eq]; exact c)
        obtain ⟨u, u1, u2⟩ := lby g2 (inv_is hl.1 c) (by decide)
        rw [decide_eq_true this]
        refine ⟨u, u1, ?_⟩
        rw [m2 c]
        exact u2
      · have pz : p = 0 := by grind
        have : ¬ 0 < q.1 := fun y => c (by rw [← hl.1.eq]; exact (val_pos_iff hl.1.sz.pos).mpr y)
        rw [decide_eq_false this, m3 pz]
        exact ⟨_, rfl, zi.mono (by decide)⟩
    have lf : compL (fun (i83 : (Int × (Int × Int))) => (some (decide ((0 : Int) < i83.2.1)))) (fun (i83 : (Int × (Int × Int))) => (some i83)) L = some (L.filter fun x => decide (0 < x.2.1)) := compL_filter (by omega) fun _ _ => rfl
    obtain ⟨F, hF⟩ : ∃ F, (L.filter fun x => decide (0 < x.2.1)) = F := ⟨_, rfl⟩
    rw [hF] at g5 lf
    have fl : F.length = (kepW p (inW j ws x)).length := by rw [← g5.len, un_len]
    have od : (iteO (some (!decide (F = ([] : WQ)))) (((atI F (0 : Int)).bind fun x96 => some x96.1).bind fun x97 => some (some x97)) (some none)) = some (oldW j (kepW p (inW j ws x))) := by
      cases F with
      | nil =>
        cases hk : kepW p (inW j ws x) with
        | nil => rfl
        | cons w r => rw [hk] at fl; cases fl
      | cons f F =>
        cases hk : kepW p (inW j ws x) with
        | nil => rw [hk] at fl; cases fl
        | cons w r =>
          rw [hk] at g5
          have e : (j : Int) - f.1 = w.1 := g5.1
          have a : atI (f :: F) (0 : Int) = some f := Ty.atI_nat (l := f :: F) (i := 0) (by simp)
          rw [decide_eq_false (by simp), a]
          show some (some f.1) = some (some ((j : Int) - w.1))
          rw [show (j : Int) - w.1 = f.1 by omega]
    have st' : compL (fun (i101 : (Int × (Int × Int))) => (some true)) (fun (i101 : (Int × (Int × Int))) => (some ((i101.1 + (1 : Int)), i101.2))) F = some (F.map fun y => (y.1 + 1, y.2)) := compL_all (by omega) fun _ _ => rfl
    have Wn : Wat 12 (un ((j + 1 : Nat) : Int) (F.map fun y => (y.1 + 1, y.2))) (kepW p (inW j ws x)) := by
      have e : un ((j + 1 : Nat) : Int) (F.map fun y => (y.1 + 1, y.2)) = un j F := by
        unfold un
        rw [List.map_map]
        refine List.map_congr_left fun y _ => ?_
        show (((j + 1 : Nat) : Int) - (y.1 + 1), y.2) = ((j : Int) - y.1, y.2)
        rw [show ((j + 1 : Nat) : Int) - (y.1 + 1) = (j : Int) - y.1 by omega]
      rw [e]
      exact g5
    have jX : j < X.length := by
      have : (X.drop j).length = xs.length + 1 := by rw [hX]; rfl
      rw [List.length_drop] at this
      omega
    have jP : j < PL.length := by
      have : (PL.drop j).length = l.length + 1 := by rw [hP]; rfl
      rw [List.length_drop] at this
      omega
    have aX : atI X (0 + (j : Int)) = some x := by
      rw [Ty.atI_nat jX]
      rw [List.drop_eq_getElem_cons jX] at hX
      exact congrArg some (List.cons.inj hX).1
    have aP : atI PL (0 + (j : Int)) = some q := by
      rw [Ty.atI_nat jP]
      rw [List.drop_eq_getElem_cons jP] at hP
      exact congrArg some (List.cons.inj hP).1
    have ap : ∀ {α : Type} (s : List α) (z : α), s.length ≤ 1000 → appO s z = some (s ++ [z]) := fun s z h => by unfold appO; rw [if_pos (by omega)]
    have step : B40 X PL (0 + (j : Int)) (store, due, old) = some (.inr (F.map (fun y => (y.1 + 1, y.2)), due ++ [du], old ++ [oldW j (kepW p (inW j ws x))])) := by
      simp only [Option.bind_some] at du1 od
      unfold B40
      rw [aX, aP]
      simp only [Option.bind_some]
      rw [ap store _ (by omega)]
      simp only [Option.bind_some]
      rw [g1, List.nil_append]
      simp only [Option.bind_some]
      refine iteF rfl ?_
      rw [du1, Option.bind_some, ap due _ (by omega)]
      simp only [Option.bind_some]
      rw [lf]
      simp only [Option.bind_some]
      rw [od, Option.bind_some, ap old _ (by omega)]
      simp only [Option.bind_some]
      rw [st']
      rfl
    obtain ⟨store', D, s1, s2, s3, s4, s5, s6⟩ := months40 hC xs l ps (j + 1) (k + 1) X PL (F.map fun y => (y.1 + 1, y.2)) (kepW p (inW j ws x)) (due ++ [du]) (old ++ [oldW j (kepW p (inW j ws x))]) _ (fun y hy => hx y (List.mem_cons_of_mem _ hy)) hl.2 lv (by omega) (by omega) (by rw [← List.drop_drop, hX]; rfl) (by rw [← List.drop_drop, hP]; rfl) Wn kt (by grind) (by omega) (by rw [show (((j + 1 : Nat) : Int) - 1) = (j : Int) by omega]; exact Mn.sub k2) (by rw [List.length_append, List.length_singleton]; omega) (by rw [List.length_append, List.length_singleton]; omega)
    have ej : ((j + 1 : Nat) : Int) + (xs.length : Int) = (j : Int) + ((x :: xs).length : Int) := by rw [List.length_cons]; omega
    rw [ej] at s3 s5
    refine ⟨store', du :: D, ?_, ⟨du2, s2⟩, s3, by rw [List.length_cons]; show (fiW (j + 1) _ xs ps).length ≤ _; omega, s5, s6⟩
    show (B40 X PL (0 + (j : Int)) (store, due, old)).bind (thenJ (foldJ (B40 X PL) ((List.range' (j + 1) xs.length).map fun i : Nat => (0 + (i : Int))))) = _
    rw [step]
    show foldJ (B40 X PL) _ _ = _
    rw [s1, List.append_assoc, List.append_assoc]
    rfl
  | [], [], _ :: _, _, _, _, _, _, _, _, _, _, _, _, h, _, _, _, _, _, _, _, _, _, _, _ => h.elim
  | [], _ :: _, [], _, _, _, _, _, _, _, _, _, _, h, _, _, _, _, _, _, _, _, _, _, _, _ => h.elim
  | [], _ :: _, _ :: _, _, _, _, _, _, _, _, _, _, _, _, h, _, _, _, _, _, _, _, _, _, _, _ => h.elim
  | _ :: _, _, [], _, _, _, _, _, _, _, _, _, _, _, h, _, _, _, _, _, _, _, _, _, _, _ => h.elim
  | _ :: _, [], _ :: _, _, _, _, _, _, _, _, _, _, _, h, _, _, _, _, _, _, _, _, _, _, _, _ => h.elim
theorem isl_val {n : Nat} : ∀ {l : List Q2} {vs : List Rat}, IsL n l vs → l.map val = vs ∧ ∀ p ∈ l, Sz n p
  | [], [], _ => ⟨rfl, fun p hp => nomatch hp⟩
  | q :: l, v :: vs, h => by
    obtain ⟨a, b⟩ := isl_val h.2
    refine ⟨by rw [List.map_cons, a, h.1.eq], fun p hp => ?_⟩
    rcases List.mem_cons.mp hp with e | e
    · rw [e]; exact h.1.sz
    · exact b p e
  | [], _ :: _, h => h.elim
  | _ :: _, [], h => h.elim
theorem isl_sum {n : Nat} (hn : n ≤ 200) {l : List Q2} {vs : List Rat} (h : IsL n l vs) (hl : l.length ≤ 12) : ∃ s, N__law_sum l = some s ∧ Is 3000 s vs.sum := by
  obtain ⟨a, b⟩ := isl_val h
  obtain ⟨s, s1, s2, s3⟩ := law_sum_ok hn l hl b
  exact ⟨s, s1, s3, by rw [s2, a]⟩
theorem isl_take {n : Nat} : ∀ (k : Nat) {l : List Q2} {vs : List Rat}, IsL n l vs → IsL n (l.take k) (vs.take k)
  | 0, _, _, _ => by rw [List.take_zero, List.take_zero]; trivial
  | _ + 1, [], [], _ => trivial
  | k + 1, _ :: _, _ :: _, h => ⟨h.1, isl_take k h.2⟩
  | _ + 1, [], _ :: _, h => h.elim
  | _ + 1, _ :: _, [], h => h.elim
noncomputable def bS (H : List Q2) (i127 : Int) (s125 : Q2) : Option Q2 := (((some s125).bind fun a131 => (atI H i127).bind fun a132 => N__law_plus a131 a132).bind fun before_128 => some before_128)
theorem before_go : ∀ (l : List Q2) (vs : List Rat) (H : List Q2) (j : Nat) (s : Q2) (v : Rat) (b : Nat), IsL 40 l vs → (∀ i (h : i < l.length), atI H (0 + ((j + i : Nat) : Int)) = some l[i]) → Is b s v → b + 41 * l.length ≤ 8000 → ∃ r, foldO (bS H) ((List.range' j l.length).map fun i : Nat => (0 + (i : Int))) s = some r ∧ Is 8000 r (v + vs.sum)
  | [], [], H, j, s, v, b, _, _, hs, hb => ⟨s, rfl, by rw [show v + ([] : List Rat).sum = v by show v + 0 = v; grind]; exact hs.mono (by simpa using hb)⟩
  | q :: l, w :: vs, H, j, s, v, b, hl, ha, hs, hb => by
    rw [List.length_cons] at hb
    obtain ⟨t, t1, t2⟩ := lplus hs hl.1 (by omega)
    obtain ⟨r, r1, r2⟩ := before_go l vs H (j + 1) t (v + w) _ hl.2 (fun i h => by
      have := ha (i + 1) (by rw [List.length_cons]; omega)
      rw [show j + 1 + i = j + (i + 1) by omega]
      exact this) t2 (by omega)
    refine ⟨r, ?_, by rw [List.sum_cons, show v + (w + vs.sum) = v + w + vs.sum by grind]; exact r2⟩
    have a0 := ha 0 (by rw [List.length_cons]; omega)
    rw [Nat.add_zero] at a0
    show (bS H (0 + (j : Int)) s).bind (foldO (bS H) ((List.range' (j + 1) l.length).map fun i : Nat => (0 + (i : Int)))) = _
    have e : bS H (0 + (j : Int)) s = some t := by
      unfold bS
      rw [a0]
      show (N__law_plus s q).bind _ = _
      rw [t1]
      rfl
    rw [e]
    exact r1
  | [], _ :: _, _, _, _, _, _, h, _, _, _ => h.elim
  | _ :: _, [], _, _, _, _, _, h, _, _, _ => h.elim
theorem mul_go : ∀ (D P : List Q2) (as ps : List Rat) (DD PP : List Q2) (j : Nat), IsL 84 D as → IsL 40 P ps → as.length = ps.length → (∀ i (h : i < D.length), atI DD (0 + ((j + i : Nat) : Int)) = some D[i]) → (∀ i (h : i < P.length), atI PP (0 + ((j + i : Nat) : Int)) = some P[i]) →
    ∃ R, compO (fun (_ : Int) => (some true)) (fun (i137 : Int) => ((atI DD i137).bind fun a142 => (atI PP i137).bind fun a143 => N__law_by a142 a143)) ((List.range' j P.length).map fun i : Nat => (0 + (i : Int))) = some R ∧ IsL 124 R (List.zipWith (fun a p => a * p) as ps)
  | [], [], [], [], _, _, _, _, _, _, _, _ => ⟨[], rfl, trivial⟩
  | q :: D, p :: P, a :: as, v :: ps, DD, PP, j, hd, hp, hl, h1, h2 => by
    obtain ⟨R, r1, r2⟩ := mul_go D P as ps DD PP (j + 1) hd.2 hp.2 (by simpa using hl) (fun i h => by
      have := h1 (i + 1) (by rw [List.length_cons]; omega)
      rw [show j + 1 + i = j + (i + 1) by omega]
      exact this) (fun i h => by
      have := h2 (i + 1) (by rw [List.length_cons]; omega)
      rw [show j + 1 + i = j + (i + 1) by omega]
      exact this)
    obtain ⟨t, t1, t2⟩ := lby hd.1 hp.1 (by decide)
    have a0 := h1 0 (by rw [List.length_cons]; omega)
    have b0 := h2 0 (by rw [List.length_cons]; omega)
    rw [Nat.add_zero] at a0 b0
    refine ⟨t :: R, ?_, t2, r2⟩
    show (((atI DD (0 + (j : Int))).bind fun a142 => (atI PP (0 + (j : Int))).bind fun a143 => N__law_by a142 a143).bind fun y => (compO _ _ ((List.range' (j + 1) P.length).map fun i : Nat => (0 + (i : Int)))).bind fun ys => some (y :: ys)) = _
    rw [a0, b0]
    show ((N__law_by q p).bind _) = _
    rw [t1, Option.bind_some, r1]
    rfl
  | [], [], [], _ :: _, _, _, _, _, h, _, _, _ => h.elim
  | [], [], _ :: _, _, _, _, _, h, _, _, _, _ => h.elim
  | [], _ :: _, [], [], _, _, _, _, h, _, _, _ => h.elim
  | [], _ :: _, [], _ :: _, _, _, _, _, _, h, _, _ => by simp at h
  | [], _ :: _, _ :: _, _, _, _, _, h, _, _, _, _ => h.elim
  | _ :: _, _, [], _, _, _, _, h, _, _, _, _ => h.elim
  | _ :: _, [], _ :: _, [], _, _, _, _, _, h, _, _ => by simp at h
  | _ :: _, [], _ :: _, _ :: _, _, _, _, _, h, _, _, _ => h.elim
  | _ :: _, _ :: _, _ :: _, [], _, _, _, _, _, h, _, _ => by simp at h
theorem rest_go {n : Int} (hn : 0 ≤ n ∧ n ≤ 20) : ∀ (S : WQ) (ws : WR), Wat 12 (un n S) ws → (∀ w ∈ ws, -1 ≤ w.1 ∧ w.1 ≤ n) → ∃ R, compO (fun (_ : Int × Q2) => (some true)) (fun (i146 : Int × Q2) => (N__law_by ((i146.1 - (1 : Int)), (1 : Int)) i146.2)) S = some R ∧ IsL 60 R (ws.map fun w => ((n - 1 - w.1 : Int) : Rat) * w.2)
  | [], [], _, _ => ⟨[], rfl, trivial⟩
  | (a, q) :: S, (m, v) :: ws, ⟨h1, h2, _, _, _, h6⟩, hb => by
    have e : n - a = m := h1
    have b : -1 ≤ m ∧ m ≤ n := hb _ List.mem_cons_self
    obtain ⟨R, r1, r2⟩ := rest_go hn S ws h6 fun w hw => hb w (List.mem_cons_of_mem _ hw)
    have ji : Is 10 (a - 1, (1 : Int)) ((a - 1 : Int) : Rat) := is_int (by omega) (by decide)
    obtain ⟨t, t1, t2⟩ := lby ji h2 (by decide)
    rw [show a - 1 = n - 1 - m by omega] at t2
    refine ⟨t :: R, ?_, t2.mono (by decide), r2⟩
    show ((N__law_by ((a - (1 : Int)), (1 : Int)) q).bind fun y => (compO _ _ S).bind fun ys => some (y :: ys)) = _
    rw [t1, Option.bind_some, r1]
    rfl
  | [], _ :: _, h, _ => h.elim
  | _ :: _, [], h, _ => h.elim
theorem alk_OI : Alk 2 (eO eI) := fun a b => by
  cases a with
  | none => cases b with
    | none => rfl
    | some b => rfl
  | some a => cases b with
    | none => rfl
    | some b =>
      have := alk_I 2 a b
      rw [show decide (some a = some b) = decide (a = b) by simp]
      exact this
theorem alike_old {l : List (Option Int)} (h : l.length ≤ 1000000) : alikeT 3 (eR (eO eI)) (eR (eO eI)) l l = some true := by
  have := alk_R alk_OI l l h
  rw [decide_eq_true rfl] at this
  exact this
theorem avW_len {C : Rat} : ∀ (xs : List Int) (ps : List Rat) (j k : Nat) (ws : WR) (h : Rat), Lvl C k h xs ps → (avW j ws xs ps).length = xs.length ∧ (olW j ws xs ps).length = xs.length ∧ (lvs h xs ps).length = xs.length
  | [], [], _, _, _, _, _ => ⟨rfl, rfl, rfl⟩
  | x :: xs, p :: ps, j, k, ws, h, lv => by
    obtain ⟨a, b, c⟩ := avW_len xs ps (j + 1) (k + 1) (kepW p (inW j ws x)) _ lv.2.2.2.2
    refine ⟨?_, ?_, ?_⟩
    · show (avW (j + 1) _ xs ps).length + 1 = _; rw [a]; rfl
    · show (olW (j + 1) _ xs ps).length + 1 = _; rw [b]; rfl
    · show (lvs _ xs ps).length + 1 = _; rw [c]; rfl
  | [], _ :: _, _, _, _, _, h => h.elim
  | _ :: _, [], _, _, _, _, h => h.elim
theorem tail_ok {d : DamT} (h7 : DamIn 7 d) (h : DamIn 12 d) {l : List Q2} (hp : PlanOf d l) : N_tail d l = some true := by
  obtain ⟨ps, hl, lv, he⟩ := hp
  have c1 := h.c1; have s0 := h.s0; have s1 := h.s1; have n7 := h7.l1
  have ll : l.length = d.2.2.2.length := by rw [hl.len, lv.len]
  have sr : (0 : Rat) ≤ (d.2.1 : Rat) := c0 s0
  have s2 : (d.2.1 : Rat) ≤ 1000 := Rat.intCast_le_intCast.mpr (show d.2.1 ≤ 1000 by omega)
  have si : Is 40 (d.2.1, (1 : Int)) (d.2.1 : Rat) := is_int (by omega) (by decide)
  obtain ⟨as, a1, a2, a3⟩ := ages_is h ⟨ps, hl, lv, he⟩ hl lv
  have W0 : Wat 12 (un ((0 : Nat) : Int) [((1 : Int), (d.2.1, (1 : Int)))]) [((-1 : Int), (d.2.1 : Rat))] := ⟨rfl, si, Dy.int 12 _, sr, by grind, trivial⟩
  have T0 : totW [((-1 : Int), (d.2.1 : Rat))] = (d.2.1 : Rat) := by show (d.2.1 : Rat) + 0 = _; grind
  obtain ⟨S, D, b1, b2, b3, b4, b5, b6⟩ := months40 (Rat.intCast_le_intCast.mpr c1) d.2.2.2 l ps 0 0 d.2.2.2 l [((1 : Int), (d.2.1, (1 : Int)))] [((-1 : Int), (d.2.1 : Rat))] [] [] (d.2.1 : Rat) h.fl hl lv (by omega) (by omega) rfl rfl W0 T0 s2 (by simp) ⟨fun w hw => by rw [List.mem_singleton.mp hw]; exact ⟨Int.le_refl _, by show (-1 : Int) ≤ ((0 : Nat) : Int) - 1; decide⟩, List.pairwise_singleton _ _⟩ (Nat.le_refl _) (Nat.le_refl _)
  rw [List.nil_append, List.nil_append] at b1
  have eD : as = D := IsL.uniq a2 b2
  subst eD
  obtain ⟨n1, n2, n3⟩ := avW_len d.2.2.2 ps 0 0 [((-1 : Int), (d.2.1 : Rat))] _ lv
  obtain ⟨hs, l1, l2⟩ := law_levels_ok h hl lv
  rw [if_pos he] at l2
  have rg : range1O (l.length : Int) = some ((List.range' 0 l.length).map fun i : Nat => (0 + (i : Int))) := by rw [range1_nat (by omega), List.range_eq_range']
  have AS := ages_sum d.2.2.2 ps 0 0 [((-1 : Int), (d.2.1 : Rat))] _ h.fl lv (fun w hw => by rw [List.mem_singleton.mp hw]; exact sr) T0
  have hl1 : hs.length = d.2.2.2.length := by rw [l1.len, n3]
  have ca : catO [(d.2.1, (1 : Int))] hs = some ((d.2.1, (1 : Int)) :: hs) := by
    unfold catO
    rw [if_pos (by rw [List.length_singleton]; omega)]
    rfl
  have HL : IsL 40 (((d.2.1, (1 : Int)) :: hs).take d.2.2.2.length) (((d.2.1 : Rat) :: lvs (d.2.1 : Rat) d.2.2.2 ps).take d.2.2.2.length) := isl_take _ ⟨si, l1⟩
  have tl : (((d.2.1, (1 : Int)) :: hs).take d.2.2.2.length).length = l.length := by
    rw [List.length_take, List.length_cons]
    omega
  have zi : Is 40 ((0 : Int), (1 : Int)) ((0 : Int) : Rat) := is_int (by decide) (by decide)
  obtain ⟨bf, f1, f2⟩ := before_go _ _ ((d.2.1, (1 : Int)) :: hs) 0 ((0 : Int), (1 : Int)) _ 40 HL (fun i hi => by
    rw [tl] at hi
    rw [Nat.zero_add, Ty.atI_nat (by rw [List.length_cons]; omega), List.getElem_take]) zi (by rw [tl]; omega)
  rw [tl] at f1
  obtain ⟨R, r1, r2⟩ := mul_go as l _ ps as l 0 b2 hl (by rw [n1, lv.len]) (fun i hi => by rw [Nat.zero_add, Ty.atI_nat hi]) (fun i hi => by rw [Nat.zero_add, Ty.atI_nat hi])
  have Rl : R.length ≤ 12 := by
    rw [r2.len, List.length_zipWith, n1, lv.len]
    omega
  obtain ⟨sp, p1, p2⟩ := isl_sum (by decide) r2 Rl
  have bn : ∀ w ∈ fiW 0 [((-1 : Int), (d.2.1 : Rat))] d.2.2.2 ps, -1 ≤ w.1 ∧ w.1 ≤ ((0 : Nat) : Int) + (d.2.2.2.length : Int) := fun w hw => by
    have := b5.bd w hw
    omega
  obtain ⟨R2, q1, q2⟩ := rest_go (n := ((0 : Nat) : Int) + (d.2.2.2.length : Int)) (by omega) S _ b3 bn
  have Sl : S.length ≤ 8 := by
    have := b3.len
    rw [un_len] at this
    omega
  have R2l : R2.length ≤ 12 := by
    rw [q2.len, List.length_map]
    omega
  obtain ⟨rs, t1, t2⟩ := isl_sum (by decide) q2 R2l
  obtain ⟨fi, g1, g2⟩ := lplus p2 t2 (by decide)
  have eq : bf = fi := by
    refine f2.uniq (m := 3000 + 3000 + 1) ?_
    have z : ((0 : Int) : Rat) = 0 := rfl
    have e0 : numW (((0 : Nat) : Int) - 1) [((-1 : Int), (d.2.1 : Rat))] = 0 := by
      rw [num_one, show ((0 : Nat) : Int) - 1 - (-1) = 0 by decide, z, Rat.zero_mul]
    rw [e0] at AS
    rw [z, AS]
    exact g2
  have asl : as.length ≤ 1000000 := by rw [b2.len, n1]; omega
  have oll : (olW 0 [((-1 : Int), (d.2.1 : Rat))] d.2.2.2 ps).length ≤ 1000000 := by rw [n2]; omega
  have cR : compL (fun (i137 : Int) => (some true)) (fun (i137 : Int) => ((atI as i137).bind fun a142 => (atI l i137).bind fun a143 => N__law_by a142 a143)) ((List.range' 0 l.length).map fun i : Nat => (0 + (i : Int))) = some R := by
    unfold compL
    rw [if_pos (by rw [List.length_map, List.length_range']; omega)]
    exact r1
  have cS : compL (fun (i146 : (Int × (Int × Int))) => (some true)) (fun (i146 : (Int × (Int × Int))) => (N__law_by ((i146.1 - (1 : Int)), (1 : Int)) i146.2)) S = some R2 := by
    unfold compL
    rw [if_pos (by omega)]
    exact q1
  unfold N_tail
  simp only [Option.bind_some]
  refine bindJ_i (s := (S, as, olW 0 [((-1 : Int), (d.2.1 : Rat))] d.2.2.2 ps)) ?_ ?_
  · rw [rg, Option.bind_some, ll]
    exact b1
  · show iteO (orO (((N_ages d l).bind fun a111 => alikeT 3 (eR (e2 eI eI)) (eR (e2 eI eI)) a111 as).bind fun b113 => some (!b113)) (((N_oldest d l).bind fun a115 => alikeT 3 (eR (eO eI)) (eR (eO eI)) a115 (olW 0 [((-1 : Int), (d.2.1 : Rat))] d.2.2.2 ps)).bind fun b117 => some (!b117))) (some false) _ = _
    rw [a1, a3, Option.bind_some, Option.bind_some, alike_rows asl, alike_old oll]
    refine iteF rfl ?_
    rw [l2, Option.bind_some]
    show (catO [(d.2.1, (1 : Int))] hs).bind _ = _
    rw [ca, Option.bind_some, rg, Option.bind_some]
    show (foldO (bS ((d.2.1, (1 : Int)) :: hs)) _ _).bind _ = _
    rw [f1, Option.bind_some, Option.bind_some]
    show ((compL _ (fun (i137 : Int) => ((atI as i137).bind fun a142 => (atI l i137).bind fun a143 => N__law_by a142 a143)) _).bind _).bind _ = _
    rw [cR, Option.bind_some, p1, Option.bind_some]
    show ((compL _ _ S).bind _).bind _ = _
    rw [cS, Option.bind_some, t1, Option.bind_some, g1, Option.bind_some, eq, decide_eq_true rfl]
theorem TheLaw : Law := by
  intro d hd
  have h12 : DamIn 12 d := ⟨hd.c0, hd.c1, hd.s0, hd.s1, hd.e0, hd.e1, hd.fl, hd.l0, by have := hd.l1; omega⟩
  exact ⟨h12, rfl, fun l hp => tail_ok hd h12 hp⟩
end L40
set_option maxHeartbeats 0
namespace L40
open PySem PySem.Spec PyProof.Rows L2 DN Ty
theorem facts {w : World} {K : PySem.W.Frag} {h : Heap} {mg : Str → Option Value} {f : Addr} (X : K.In h) (G : h.Ns mainGlobals mg) (hfa : mg ("law" : Str) = some (.ref f)) (c : He.SaysX fas fns [] tfs exs w h K) : LamX.LawAtS PySem.Challenge.rw_damworks_k40_whole_ages w K CX0 10 63 "script" mg f h := by
  have e := hfa.symm.trans (He.glo_ok X G (c.t.d.fact 39 (f := .glo "law") rfl))
  cases e
  have T : Txt K mg := ⟨He.free_ok X G (c.t.d.fact 40 (f := .free "abs") rfl), He.free_ok X G (c.t.d.fact 41 (f := .free "all") rfl), He.free_ok X G (c.t.d.fact 42 (f := .free "any") rfl), He.free_ok X G (c.t.d.fact 43 (f := .free "bool") rfl), He.free_ok X G (c.t.d.fact 44 (f := .free "enumerate") rfl), He.free_ok X G (c.t.d.fact 45 (f := .free "int") rfl), He.free_ok X G (c.t.d.fact 46 (f := .free "isinstance") rfl), He.free_ok X G (c.t.d.fact 47 (f := .free "len") rfl), He.free_ok X G (c.t.d.fact 48 (f := .free "list") rfl), He.free_ok X G (c.t.d.fact 49 (f := .free "range") rfl), He.free_ok X G (c.t.d.fact 50 (f := .free "str") rfl), He.free_ok X G (c.t.d.fact 51 (f := .free "tuple") rfl), He.free_ok X G (c.t.d.fact 52 (f := .free "zip") rfl), PySem.W.mg_of X G (He.eqO_ok (show He.eqO (PySem.W.nsIn K mainGlobals "gcd") (some (some (.builtin "math.gcd"))) = true from c.more)), He.int_ok X G (c.t.d.fact 53 (f := .int "MOST_MONTHS" 12) rfl), He.int_ok X G (c.t.d.fact 54 (f := .int "MOST_WATER" 1000) rfl)⟩
  obtain ⟨fd_is_whole, E_is_whole⟩ := c.t.d.def_ 0 (d := dd "is_whole" 6) rfl
  obtain ⟨cd_is_whole, D_is_whole⟩ := df_of (st := top 6) E_is_whole
  obtain ⟨fd_is_between, E_is_between⟩ := c.t.d.def_ 1 (d := dd "is_between" 7) rfl
  obtain ⟨cd_is_between, D_is_between⟩ := df_of (st := top 7) E_is_between
  obtain ⟨fd_is_row_between, E_is_row_between⟩ := c.t.d.def_ 2 (d := dd "is_row_between" 8) rfl
  have D_is_row_between := df_gen (st := top 8) E_is_row_between
  obtain ⟨fd_is_ratio, E_is_ratio⟩ := c.t.d.def_ 3 (d := dd "is_ratio" 9) rfl
  obtain ⟨cd_is_ratio, D_is_ratio⟩ := df_of (st := top 9) E_is_ratio
  obtain ⟨fd_is_row_of_ratios, E_is_row_of_ratios⟩ := c.t.d.def_ 4 (d := dd "is_row_of_ratios" 10) rfl
  have D_is_row_of_ratios := df_gen (st := top 10) E_is_row_of_ratios
  obtain ⟨fd_ratio, E_ratio⟩ := c.t.d.def_ 5 (d := dd "ratio" 11) rfl
  obtain ⟨cd_ratio, D_ratio⟩ := df_of (st := top 11) E_ratio
  obtain ⟨fd_plus, E_plus⟩ := c.t.d.def_ 6 (d := dd "plus" 12) rfl
  obtain ⟨cd_plus, D_plus⟩ := df_of (st := top 12) E_plus
  obtain ⟨fd_minus, E_minus⟩ := c.t.d.def_ 7 (d := dd "minus" 13) rfl
  obtain ⟨cd_minus, D_minus⟩ := df_of (st := top 13) E_minus
  obtain ⟨fd_times, E_times⟩ := c.t.d.def_ 8 (d := dd "times" 14) rfl
  obtain ⟨cd_times, D_times⟩ := df_of (st := top 14) E_times
  obtain ⟨fd_divided, E_divided⟩ := c.t.d.def_ 9 (d := dd "divided" 15) rfl
  obtain ⟨cd_divided, D_divided⟩ := df_of (st := top 15) E_divided
  obtain ⟨fd_sum_of_ratios, E_sum_of_ratios⟩ := c.t.d.def_ 10 (d := dd "sum_of_ratios" 16) rfl
  obtain ⟨cd_sum_of_ratios, D_sum_of_ratios⟩ := df_of (st := top 16) E_sum_of_ratios
  obtain ⟨fd_is_less, E_is_less⟩ := c.t.d.def_ 11 (d := dd "is_less" 17) rfl
  obtain ⟨cd_is_less, D_is_less⟩ := df_of (st := top 17) E_is_less
  obtain ⟨fd_least_ratio, E_least_ratio⟩ := c.t.d.def_ 12 (d := dd "least_ratio" 18) rfl
  obtain ⟨cd_least_ratio, D_least_ratio⟩ := df_of (st := top 18) E_least_ratio
  obtain ⟨fd_is_inflows, E_is_inflows⟩ := c.t.d.def_ 13 (d := dd "is_inflows" 22) rfl
  obtain ⟨cd_is_inflows, D_is_inflows⟩ := df_of (st := top 22) E_is_inflows
  obtain ⟨fd_is_dam, E_is_dam⟩ := c.t.d.def_ 14 (d := dd "is_dam" 23) rfl
  obtain ⟨cd_is_dam, D_is_dam⟩ := df_of (st := top 23) E_is_dam
  obtain ⟨fd_check_dam, E_check_dam⟩ := c.t.d.def_ 15 (d := dd "check_dam" 24) rfl
  obtain ⟨cd_check_dam, D_check_dam⟩ := df_of (st := top 24) E_check_dam
  obtain ⟨fd_levels_from, E_levels_from⟩ := c.t.d.def_ 16 (d := dd "levels_from" 25) rfl
  obtain ⟨cd_levels_from, D_levels_from⟩ := df_of (st := top 25) E_levels_from
  obtain ⟨fd_levels_behind, E_levels_behind⟩ := c.t.d.def_ 17 (d := dd "levels_behind" 26) rfl
  obtain ⟨cd_levels_behind, D_levels_behind⟩ := df_of (st := top 26) E_levels_behind
  obtain ⟨fd_can_hold, E_can_hold⟩ := c.t.d.def_ 18 (d := dd "can_hold" 27) rfl
  have D_can_hold := df_gen (st := top 27) E_can_hold
  obtain ⟨fd_is_plan, E_is_plan⟩ := c.t.d.def_ 19 (d := dd "is_plan" 28) rfl
  obtain ⟨cd_is_plan, D_is_plan⟩ := df_of (st := top 28) E_is_plan
  obtain ⟨fd_check_plan, E_check_plan⟩ := c.t.d.def_ 20 (d := dd "check_plan" 29) rfl
  obtain ⟨cd_check_plan, D_check_plan⟩ := df_of (st := top 29) E_check_plan
  obtain ⟨fd_parted, E_parted⟩ := c.t.d.def_ 21 (d := dd "parted" 31) rfl
  obtain ⟨cd_parted, D_parted⟩ := df_of (st := top 31) E_parted
  obtain ⟨fd_waters_of_months, E_waters_of_months⟩ := c.t.d.def_ 22 (d := dd "waters_of_months" 32) rfl
  obtain ⟨cd_waters_of_months, D_waters_of_months⟩ := df_of (st := top 32) E_waters_of_months
  obtain ⟨fd_mean_age, E_mean_age⟩ := c.t.d.def_ 23 (d := dd "mean_age" 33) rfl
  obtain ⟨cd_mean_age, D_mean_age⟩ := df_of (st := top 33) E_mean_age
  obtain ⟨fd_ages, E_ages⟩ := c.t.d.def_ 24 (d := dd "ages" 34) rfl
  obtain ⟨cd_ages, D_ages⟩ := df_of (st := top 34) E_ages
  obtain ⟨fd_oldest, E_oldest⟩ := c.t.d.def_ 25 (d := dd "oldest" 35) rfl
  obtain ⟨cd_oldest, D_oldest⟩ := df_of (st := top 35) E_oldest
  obtain ⟨fd__law_alike, E__law_alike⟩ := c.t.d.def_ 26 (d := dd "_law_alike" 39) rfl
  obtain ⟨cd__law_alike, D__law_alike⟩ := df_of (st := top 39) E__law_alike
  obtain ⟨fd__law_ratio, E__law_ratio⟩ := c.t.d.def_ 27 (d := dd "_law_ratio" 40) rfl
  obtain ⟨cd__law_ratio, D__law_ratio⟩ := df_of (st := top 40) E__law_ratio
  obtain ⟨fd__law_plus, E__law_plus⟩ := c.t.d.def_ 28 (d := dd "_law_plus" 41) rfl
  obtain ⟨cd__law_plus, D__law_plus⟩ := df_of (st := top 41) E__law_plus
  obtain ⟨fd__law_by, E__law_by⟩ := c.t.d.def_ 29 (d := dd "_law_by" 42) rfl
  obtain ⟨cd__law_by, D__law_by⟩ := df_of (st := top 42) E__law_by
  obtain ⟨fd__law_sum, E__law_sum⟩ := c.t.d.def_ 30 (d := dd "_law_sum" 43) rfl
  obtain ⟨cd__law_sum, D__law_sum⟩ := df_of (st := top 43) E__law_sum
  obtain ⟨fd__law_less, E__law_less⟩ := c.t.d.def_ 31 (d := dd "_law_less" 44) rfl
  obtain ⟨cd__law_less, D__law_less⟩ := df_of (st := top 44) E__law_less
  obtain ⟨fd__law_is_ratio, E__law_is_ratio⟩ := c.t.d.def_ 32 (d := dd "_law_is_ratio" 45) rfl
  obtain ⟨cd__law_is_ratio, D__law_is_ratio⟩ := df_of (st := top 45) E__law_is_ratio
  obtain ⟨fd__law_levels, E__law_levels⟩ := c.t.d.def_ 33 (d := dd "_law_levels" 50) rfl
  obtain ⟨cd__law_levels, D__law_levels⟩ := df_of (st := top 50) E__law_levels
  obtain ⟨fd__law_taken, E__law_taken⟩ := c.t.d.def_ 34 (d := dd "_law_taken" 37) rfl
  obtain ⟨cd__law_taken, D__law_taken⟩ := df_of (st := top 37) E__law_taken
  obtain ⟨fd__law_pick, E__law_pick⟩ := c.t.d.def_ 35 (d := dd "_law_pick" 38) rfl
  obtain ⟨cd__law_pick, D__law_pick⟩ := df_of (st := top 38) E__law_pick
  obtain ⟨fd__law_flow, E__law_flow⟩ := c.t.d.def_ 36 (d := dd "_law_flow" 46) rfl
  obtain ⟨cd__law_flow, D__law_flow⟩ := df_of (st := top 46) E__law_flow
  obtain ⟨fd__law_dam, E__law_dam⟩ := c.t.d.def_ 37 (d := dd "_law_dam" 47) rfl
  obtain ⟨cd__law_dam, D__law_dam⟩ := df_of (st := top 47) E__law_dam
  obtain ⟨fd__law_draw, E__law_draw⟩ := c.t.d.def_ 38 (d := dd "_law_draw" 52) rfl
  obtain ⟨cd__law_draw, D__law_draw⟩ := df_of (st := top 52) E__law_draw
  obtain ⟨fd_law, E_law⟩ := c.t.d.def_ 39 (d := dd "law" 53) rfl
  obtain ⟨cd_law, D_law⟩ := df_of (st := top 53) E_law
  have dis : decide (∀ P ∈ lsOf K tls, P.1 ∉ (tgs.map (He.cT K)).map (·.2) ∧ ∀ Q ∈ lsOf K tls, Q.1 = P.1 → Q = P) = true := decide_eq_true (fun P hP => nomatch hP)
  refine end_at2 (tg := tgs) (tl := tls) (of_decide_eq_true dis) (tf_ok X c) (FunD.bindsA (ps := ["script"]) E_law (fun _ _ _ _ _ _ us hl => match us, hl with | [_], _ => rfl)) fun base XB GB TB => ?_
  have tb_is_row_between := TB _ (List.mem_map_of_mem (f := He.cT K) (show (("is_row_between", none) : He.Defn) ∈ tfs by simp [tfs, tgs]))
  have tm_is_row_between : (He.cT K ("is_row_between", none)).2 ∈ (tgs.map (He.cT K)).map (·.2) := List.mem_map_of_mem (List.mem_map_of_mem (by simp [tgs]))
  have tb_is_row_of_ratios := TB _ (List.mem_map_of_mem (f := He.cT K) (show (("is_row_of_ratios", none) : He.Defn) ∈ tfs by simp [tfs, tgs]))
  have tm_is_row_of_ratios : (He.cT K ("is_row_of_ratios", none)).2 ∈ (tgs.map (He.cT K)).map (·.2) := List.mem_map_of_mem (List.mem_map_of_mem (by simp [tgs]))
  have tb_can_hold := TB _ (List.mem_map_of_mem (f := He.cT K) (show (("can_hold", none) : He.Defn) ∈ tfs by simp [tfs, tgs]))
  have tm_can_hold : (He.cT K ("can_hold", none)).2 ∈ (tgs.map (He.cT K)).map (·.2) := List.mem_map_of_mem (List.mem_map_of_mem (by simp [tgs]))
  have b_is_whole : Binds K fd_is_whole ["value"] [] := FunD.bindsN E_is_whole fun _ _ _ _ _ _ us hl => match us, hl with | [_], _ => rfl
  have C_is_whole : CF PySem.Challenge.rw_damworks_k40_whole_ages.prog w K mg base ⟨(tgs.map (He.cT K)).map (·.2), lsOf K tls⟩ 1 "is_whole" 1 Ty.S_is_whole := CF.of (He.glo_ok X G (c.t.d.fact 0 (f := .glo "is_whole") rfl)) D_is_whole.kp b_is_whole (ok_is_whole T D_is_whole )
  have b_is_between : Binds K fd_is_between ["value", "least", "most"] [] := FunD.bindsN E_is_between fun _ _ _ _ _ _ us hl => match us, hl with | [_, _, _], _ => rfl
  have C_is_between : CF PySem.Challenge.rw_damworks_k40_whole_ages.prog w K mg base ⟨(tgs.map (He.cT K)).map (·.2), lsOf K tls⟩ 2 "is_between" 3 Ty.S_is_between := CF.of (He.glo_ok X G (c.t.d.fact 1 (f := .glo "is_between") rfl)) D_is_between.kp b_is_between (ok_is_between T D_is_between C_is_whole)
  have b_is_row_between : Binds K fd_is_row_between ["value", "least", "most"] [] := FunD.bindsN E_is_row_between fun _ _ _ _ _ _ us hl => match us, hl with | [_, _, _], _ => rfl
  have C_is_row_between : CF PySem.Challenge.rw_damworks_k40_whole_ages.prog w K mg base ⟨(tgs.map (He.cT K)).map (·.2), lsOf K tls⟩ 4 "is_row_between" 3 Ty.S_is_row_between := CF.of (He.glo_ok X G (c.t.d.fact 2 (f := .glo "is_row_between") rfl)) D_is_row_between.kp b_is_row_between (ok_is_row_between T tb_is_row_between tm_is_row_between D_is_row_between C_is_between)
  have b_is_ratio : Binds K fd_is_ratio ["value"] [] := FunD.bindsN E_is_ratio fun _ _ _ _ _ _ us hl => match us, hl with | [_], _ => rfl
  have C_is_ratio : CF PySem.Challenge.rw_damworks_k40_whole_ages.prog w K mg base ⟨(tgs.map (He.cT K)).map (·.2), lsOf K tls⟩ 2 "is_ratio" 1 Ty.S_is_ratio := CF.of (He.glo_ok X G (c.t.d.fact 3 (f := .glo "is_ratio") rfl)) D_is_ratio.kp b_is_ratio (ok_is_ratio T D_is_ratio C_is_whole)
  have b_is_row_of_ratios : Binds K fd_is_row_of_ratios ["value", "count"] [] := FunD.bindsN E_is_row_of_ratios fun _ _ _ _ _ _ us hl => match us, hl with | [_, _], _ => rfl
  have C_is_row_of_ratios : CF PySem.Challenge.rw_damworks_k40_whole_ages.prog w K mg base ⟨(tgs.map (He.cT K)).map (·.2), lsOf K tls⟩ 4 "is_row_of_ratios" 2 Ty.S_is_row_of_ratios := CF.of (He.glo_ok X G (c.t.d.fact 4 (f := .glo "is_row_of_ratios") rfl)) D_is_row_of_ratios.kp b_is_row_of_ratios (ok_is_row_of_ratios T tb_is_row_of_ratios tm_is_row_of_ratios D_is_row_of_ratios C_is_ratio)
  have b_ratio : Binds K fd_ratio ["top", "bottom"] [] := FunD.bindsN E_ratio fun _ _ _ _ _ _ us hl => match us, hl with | [_, _], _ => rfl
  have C_ratio : CF PySem.Challenge.rw_damworks_k40_whole_ages.prog w K mg base ⟨(tgs.map (He.cT K)).map (·.2), lsOf K tls⟩ 1 "ratio" 2 Ty.S_ratio := CF.of (He.glo_ok X G (c.t.d.fact 5 (f := .glo "ratio") rfl)) D_ratio.kp b_ratio (ok_ratio T D_ratio )
  have b_plus : Binds K fd_plus ["one", "other"] [] := FunD.bindsN E_plus fun _ _ _ _ _ _ us hl => match us, hl with | [_, _], _ => rfl
  have C_plus : CF PySem.Challenge.rw_damworks_k40_whole_ages.prog w K mg base ⟨(tgs.map (He.cT K)).map (·.2), lsOf K tls⟩ 2 "plus" 2 Ty.S_plus := CF.of (He.glo_ok X G (c.t.d.fact 6 (f := .glo "plus") rfl)) D_plus.kp b_plus (ok_plus T D_plus C_ratio)
  have b_minus : Binds K fd_minus ["one", "other"] [] := FunD.bindsN E_minus fun _ _ _ _ _ _ us hl => match us, hl with | [_, _], _ => rfl
  have C_minus : CF PySem.Challenge.rw_damworks_k40_whole_ages.prog w K mg base ⟨(tgs.map (He.cT K)).map (·.2), lsOf K tls⟩ 2 "minus" 2 Ty.S_minus := CF.of (He.glo_ok X G (c.t.d.fact 7 (f := .glo "minus") rfl)) D_minus.kp b_minus (ok_minus T D_minus C_ratio)
  have b_times : Binds K fd_times ["one", "other"] [] := FunD.bindsN E_times fun _ _ _ _ _ _ us hl => match us, hl with | [_, _], _ => rfl
  have C_times : CF PySem.Challenge.rw_damworks_k40_whole_ages.prog w K mg base ⟨(tgs.map (He.cT K)).map (·.2), lsOf K tls⟩ 2 "times" 2 Ty.S_times := CF.of (He.glo_ok X G (c.t.d.fact 8 (f := .glo "times") rfl)) D_times.kp b_times (ok_times T D_times C_ratio)
  have b_divided : Binds K fd_divided ["one", "other"] [] := FunD.bindsN E_divided fun _ _ _ _ _ _ us hl => match us, hl with | [_, _], _ => rfl
  have C_divided : CF PySem.Challenge.rw_damworks_k40_whole_ages.prog w K mg base ⟨(tgs.map (He.cT K)).map (·.2), lsOf K tls⟩ 2 "divided" 2 Ty.S_divided := CF.of (He.glo_ok X G (c.t.d.fact 9 (f := .glo "divided") rfl)) D_divided.kp b_divided (ok_divided T D_divided C_ratio)
  have b_sum_of_ratios : Binds K fd_sum_of_ratios ["ratios"] [] := FunD.bindsN E_sum_of_ratios fun _ _ _ _ _ _ us hl => match us, hl with | [_], _ => rfl
  have C_sum_of_ratios : CF PySem.Challenge.rw_damworks_k40_whole_ages.prog w K mg base ⟨(tgs.map (He.cT K)).map (·.2), lsOf K tls⟩ 3 "sum_of_ratios" 1 Ty.S_sum_of_ratios := CF.of (He.glo_ok X G (c.t.d.fact 10 (f := .glo "sum_of_ratios") rfl)) D_sum_of_ratios.kp b_sum_of_ratios (ok_sum_of_ratios T D_sum_of_ratios C_plus)
  have b_is_less : Binds K fd_is_less ["one", "other"] [] := FunD.bindsN E_is_less fun _ _ _ _ _ _ us hl => match us, hl with | [_, _], _ => rfl
  have C_is_less : CF PySem.Challenge.rw_damworks_k40_whole_ages.prog w K mg base ⟨(tgs.map (He.cT K)).map (·.2), lsOf K tls⟩ 1 "is_less" 2 Ty.S_is_less := CF.of (He.glo_ok X G (c.t.d.fact 11 (f := .glo "is_less") rfl)) D_is_less.kp b_is_less (ok_is_less T D_is_less )
  have b_least_ratio : Binds K fd_least_ratio ["ratios"] [] := FunD.bindsN E_least_ratio fun _ _ _ _ _ _ us hl => match us, hl with | [_], _ => rfl
  have C_least_ratio : CF PySem.Challenge.rw_damworks_k40_whole_ages.prog w K mg base ⟨(tgs.map (He.cT K)).map (·.2), lsOf K tls⟩ 2 "least_ratio" 1 Ty.S_least_ratio := CF.of (He.glo_ok X G (c.t.d.fact 12 (f := .glo "least_ratio") rfl)) D_least_ratio.kp b_least_ratio (ok_least_ratio T D_least_ratio C_is_less)
  have b_is_inflows : Binds K fd_is_inflows ["value"] [] := FunD.bindsN E_is_inflows fun _ _ _ _ _ _ us hl => match us, hl with | [_], _ => rfl
  have C_is_inflows : CF PySem.Challenge.rw_damworks_k40_whole_ages.prog w K mg base ⟨(tgs.map (He.cT K)).map (·.2), lsOf K tls⟩ 5 "is_inflows" 1 Ty.S_is_inflows := CF.of (He.glo_ok X G (c.t.d.fact 13 (f := .glo "is_inflows") rfl)) D_is_inflows.kp b_is_inflows (ok_is_inflows T D_is_inflows C_is_row_between)
  have b_is_dam : Binds K fd_is_dam ["value"] [] := FunD.bindsN E_is_dam fun _ _ _ _ _ _ us hl => match us, hl with | [_], _ => rfl
  have C_is_dam : CF PySem.Challenge.rw_damworks_k40_whole_ages.prog w K mg base ⟨(tgs.map (He.cT K)).map (·.2), lsOf K tls⟩ 6 "is_dam" 1 Ty.S_is_dam := CF.of (He.glo_ok X G (c.t.d.fact 14 (f := .glo "is_dam") rfl)) D_is_dam.kp b_is_dam (ok_is_dam T D_is_dam C_is_between C_is_inflows)
  have b_check_dam : Binds K fd_check_dam ["dam"] [] := FunD.bindsN E_check_dam fun _ _ _ _ _ _ us hl => match us, hl with | [_], _ => rfl
  have C_check_dam : CF PySem.Challenge.rw_damworks_k40_whole_ages.prog w K mg base ⟨(tgs.map (He.cT K)).map (·.2), lsOf K tls⟩ 7 "check_dam" 1 Ty.S_check_dam := CF.of (He.glo_ok X G (c.t.d.fact 15 (f := .glo "check_dam") rfl)) D_check_dam.kp b_check_dam (ok_check_dam T D_check_dam C_is_dam)
  have b_levels_from : Binds K fd_levels_from ["start", "coming", "releases"] [] := FunD.bindsN E_levels_from fun _ _ _ _ _ _ us hl => match us, hl with | [_, _, _], _ => rfl
  have C_levels_from : CF PySem.Challenge.rw_damworks_k40_whole_ages.prog w K mg base ⟨(tgs.map (He.cT K)).map (·.2), lsOf K tls⟩ 3 "levels_from" 3 Ty.S_levels_from := CF.of (He.glo_ok X G (c.t.d.fact 16 (f := .glo "levels_from") rfl)) D_levels_from.kp b_levels_from (ok_levels_from T D_levels_from C_minus C_plus)
  have b_levels_behind : Binds K fd_levels_behind ["dam", "releases"] [] := FunD.bindsN E_levels_behind fun _ _ _ _ _ _ us hl => match us, hl with | [_, _], _ => rfl
  have C_levels_behind : CF PySem.Challenge.rw_damworks_k40_whole_ages.prog w K mg base ⟨(tgs.map (He.cT K)).map (·.2), lsOf K tls⟩ 4 "levels_behind" 2 Ty.S_levels_behind := CF.of (He.glo_ok X G (c.t.d.fact 17 (f := .glo "levels_behind") rfl)) D_levels_behind.kp b_levels_behind (ok_levels_behind T D_levels_behind C_levels_from)
  have b_can_hold : Binds K fd_can_hold ["dam", "behind"] [] := FunD.bindsN E_can_hold fun _ _ _ _ _ _ us hl => match us, hl with | [_, _], _ => rfl
  have C_can_hold : CF PySem.Challenge.rw_damworks_k40_whole_ages.prog w K mg base ⟨(tgs.map (He.cT K)).map (·.2), lsOf K tls⟩ 3 "can_hold" 2 Ty.S_can_hold := CF.of (He.glo_ok X G (c.t.d.fact 18 (f := .glo "can_hold") rfl)) D_can_hold.kp b_can_hold (ok_can_hold T tb_can_hold tm_can_hold D_can_hold C_is_less)
  have b_is_plan : Binds K fd_is_plan ["dam", "value"] [] := FunD.bindsN E_is_plan fun _ _ _ _ _ _ us hl => match us, hl with | [_, _], _ => rfl
  have C_is_plan : CF PySem.Challenge.rw_damworks_k40_whole_ages.prog w K mg base ⟨(tgs.map (He.cT K)).map (·.2), lsOf K tls⟩ 5 "is_plan" 2 Ty.S_is_plan := CF.of (He.glo_ok X G (c.t.d.fact 19 (f := .glo "is_plan") rfl)) D_is_plan.kp b_is_plan (ok_is_plan T D_is_plan C_is_row_of_ratios C_can_hold C_levels_behind)
  have b_check_plan : Binds K fd_check_plan ["dam", "plan"] [] := FunD.bindsN E_check_plan fun _ _ _ _ _ _ us hl => match us, hl with | [_, _], _ => rfl
  have C_check_plan : CF PySem.Challenge.rw_damworks_k40_whole_ages.prog w K mg base ⟨(tgs.map (He.cT K)).map (·.2), lsOf K tls⟩ 6 "check_plan" 2 Ty.S_check_plan := CF.of (He.glo_ok X G (c.t.d.fact 20 (f := .glo "check_plan") rfl)) D_check_plan.kp b_check_plan (ok_check_plan T D_check_plan C_is_plan)
  have b_parted : Binds K fd_parted ["waters", "release"] [] := FunD.bindsN E_parted fun _ _ _ _ _ _ us hl => match us, hl with | [_, _], _ => rfl
  have C_parted : CF PySem.Challenge.rw_damworks_k40_whole_ages.prog w K mg base ⟨(tgs.map (He.cT K)).map (·.2), lsOf K tls⟩ 3 "parted" 2 Ty.S_parted := CF.of (He.glo_ok X G (c.t.d.fact 21 (f := .glo "parted") rfl)) D_parted.kp b_parted (ok_parted T D_parted C_least_ratio C_minus)
  have b_waters_of_months : Binds K fd_waters_of_months ["dam", "plan"] [] := FunD.bindsN E_waters_of_months fun _ _ _ _ _ _ us hl => match us, hl with | [_, _], _ => rfl
  have C_waters_of_months : CF PySem.Challenge.rw_damworks_k40_whole_ages.prog w K mg base ⟨(tgs.map (He.cT K)).map (·.2), lsOf K tls⟩ 8 "waters_of_months" 2 Ty.S_waters_of_months := CF.of (He.glo_ok X G (c.t.d.fact 22 (f := .glo "waters_of_months") rfl)) D_waters_of_months.kp b_waters_of_months (ok_waters_of_months T D_waters_of_months C_check_dam C_check_plan C_parted)
  have b_mean_age : Binds K fd_mean_age ["released", "month"] [] := FunD.bindsN E_mean_age fun _ _ _ _ _ _ us hl => match us, hl with | [_, _], _ => rfl
  have C_mean_age : CF PySem.Challenge.rw_damworks_k40_whole_ages.prog w K mg base ⟨(tgs.map (He.cT K)).map (·.2), lsOf K tls⟩ 4 "mean_age" 2 Ty.S_mean_age := CF.of (He.glo_ok X G (c.t.d.fact 23 (f := .glo "mean_age") rfl)) D_mean_age.kp b_mean_age (ok_mean_age T D_mean_age C_sum_of_ratios C_times C_divided)
  have b_ages : Binds K fd_ages ["dam", "plan"] [] := FunD.bindsN E_ages fun _ _ _ _ _ _ us hl => match us, hl with | [_, _], _ => rfl
  have C_ages : CF PySem.Challenge.rw_damworks_k40_whole_ages.prog w K mg base ⟨(tgs.map (He.cT K)).map (·.2), lsOf K tls⟩ 9 "ages" 2 Ty.S_ages := CF.of (He.glo_ok X G (c.t.d.fact 24 (f := .glo "ages") rfl)) D_ages.kp b_ages (ok_ages T D_ages C_waters_of_months C_mean_age)
  have b_oldest : Binds K fd_oldest ["dam", "plan"] [] := FunD.bindsN E_oldest fun _ _ _ _ _ _ us hl => match us, hl with | [_, _], _ => rfl
  have C_oldest : CF PySem.Challenge.rw_damworks_k40_whole_ages.prog w K mg base ⟨(tgs.map (He.cT K)).map (·.2), lsOf K tls⟩ 9 "oldest" 2 Ty.S_oldest := CF.of (He.glo_ok X G (c.t.d.fact 25 (f := .glo "oldest") rfl)) D_oldest.kp b_oldest (ok_oldest T D_oldest C_waters_of_months)
  have b__law_alike : Binds K fd__law_alike ["found", "due"] [] := FunD.bindsN E__law_alike fun _ _ _ _ _ _ us hl => match us, hl with | [_, _], _ => rfl
  have C0 : CF PySem.Challenge.rw_damworks_k40_whole_ages.prog w K mg base ⟨(tgs.map (He.cT K)).map (·.2), lsOf K tls⟩ 1 "_law_alike" 2 (Ty.S__law_alike 0) := CF.of (He.glo_ok X G (c.t.d.fact 26 (f := .glo "_law_alike") rfl)) D__law_alike.kp b__law_alike (ok__law_alike T D__law_alike)
  have C1 : CF PySem.Challenge.rw_damworks_k40_whole_ages.prog w K mg base ⟨(tgs.map (He.cT K)).map (·.2), lsOf K tls⟩ 2 "_law_alike" 2 (Ty.S__law_alike 1) := CF.of (He.glo_ok X G (c.t.d.fact 26 (f := .glo "_law_alike") rfl)) D__law_alike.kp b__law_alike (okr__law_alike T D__law_alike C0)
  have C2 : CF PySem.Challenge.rw_damworks_k40_whole_ages.prog w K mg base ⟨(tgs.map (He.cT K)).map (·.2), lsOf K tls⟩ 3 "_law_alike" 2 (Ty.S__law_alike 2) := CF.of (He.glo_ok X G (c.t.d.fact 26 (f := .glo "_law_alike") rfl)) D__law_alike.kp b__law_alike (okr__law_alike T D__law_alike C1)
  have C__law_alike : CF PySem.Challenge.rw_damworks_k40_whole_ages.prog w K mg base ⟨(tgs.map (He.cT K)).map (·.2), lsOf K tls⟩ 4 "_law_alike" 2 (Ty.S__law_alike 3) := CF.of (He.glo_ok X G (c.t.d.fact 26 (f := .glo "_law_alike") rfl)) D__law_alike.kp b__law_alike (okr__law_alike T D__law_alike C2)
  have b__law_ratio : Binds K fd__law_ratio ["top", "bottom"] [] := FunD.bindsN E__law_ratio fun _ _ _ _ _ _ us hl => match us, hl with | [_, _], _ => rfl
  have C__law_ratio : CF PySem.Challenge.rw_damworks_k40_whole_ages.prog w K mg base ⟨(tgs.map (He.cT K)).map (·.2), lsOf K tls⟩ 1 "_law_ratio" 2 Ty.S__law_ratio := CF.of (He.glo_ok X G (c.t.d.fact 27 (f := .glo "_law_ratio") rfl)) D__law_ratio.kp b__law_ratio (ok__law_ratio (fun _ => FUEL) T D__law_ratio )
  have b__law_plus : Binds K fd__law_plus ["one", "other"] [] := FunD.bindsN E__law_plus fun _ _ _ _ _ _ us hl => match us, hl with | [_, _], _ => rfl
  have C__law_plus : CF PySem.Challenge.rw_damworks_k40_whole_ages.prog w K mg base ⟨(tgs.map (He.cT K)).map (·.2), lsOf K tls⟩ 2 "_law_plus" 2 Ty.S__law_plus := CF.of (He.glo_ok X G (c.t.d.fact 28 (f := .glo "_law_plus") rfl)) D__law_plus.kp b__law_plus (ok__law_plus T D__law_plus C__law_ratio)
  have b__law_by : Binds K fd__law_by ["one", "other"] [] := FunD.bindsN E__law_by fun _ _ _ _ _ _ us hl => match us, hl with | [_, _], _ => rfl
  have C__law_by : CF PySem.Challenge.rw_damworks_k40_whole_ages.prog w K mg base ⟨(tgs.map (He.cT K)).map (·.2), lsOf K tls⟩ 2 "_law_by" 2 Ty.S__law_by := CF.of (He.glo_ok X G (c.t.d.fact 29 (f := .glo "_law_by") rfl)) D__law_by.kp b__law_by (ok__law_by T D__law_by C__law_ratio)
  have b__law_sum : Binds K fd__law_sum ["some"] [] := FunD.bindsN E__law_sum fun _ _ _ _ _ _ us hl => match us, hl with | [_], _ => rfl
  have C__law_sum : CF PySem.Challenge.rw_damworks_k40_whole_ages.prog w K mg base ⟨(tgs.map (He.cT K)).map (·.2), lsOf K tls⟩ 3 "_law_sum" 1 Ty.S__law_sum := CF.of (He.glo_ok X G (c.t.d.fact 30 (f := .glo "_law_sum") rfl)) D__law_sum.kp b__law_sum (ok__law_sum T D__law_sum C__law_plus)
  have b__law_less : Binds K fd__law_less ["one", "other"] [] := FunD.bindsN E__law_less fun _ _ _ _ _ _ us hl => match us, hl with | [_, _], _ => rfl
  have C__law_less : CF PySem.Challenge.rw_damworks_k40_whole_ages.prog w K mg base ⟨(tgs.map (He.cT K)).map (·.2), lsOf K tls⟩ 1 "_law_less" 2 Ty.S__law_less := CF.of (He.glo_ok X G (c.t.d.fact 31 (f := .glo "_law_less") rfl)) D__law_less.kp b__law_less (ok__law_less T D__law_less )
  have b__law_is_ratio : Binds K fd__law_is_ratio ["value"] [] := FunD.bindsN E__law_is_ratio fun _ _ _ _ _ _ us hl => match us, hl with | [_], _ => rfl
  have C__law_is_ratio : CF PySem.Challenge.rw_damworks_k40_whole_ages.prog w K mg base ⟨(tgs.map (He.cT K)).map (·.2), lsOf K tls⟩ 2 "_law_is_ratio" 1 Ty.S__law_is_ratio := CF.of (He.glo_ok X G (c.t.d.fact 32 (f := .glo "_law_is_ratio") rfl)) D__law_is_ratio.kp b__law_is_ratio (ok__law_is_ratio T D__law_is_ratio C__law_ratio)
  have b__law_levels : Binds K fd__law_levels ["dam", "plan"] [] := FunD.bindsN E__law_levels fun _ _ _ _ _ _ us hl => match us, hl with | [_, _], _ => rfl
  have C__law_levels : CF PySem.Challenge.rw_damworks_k40_whole_ages.prog w K mg base ⟨(tgs.map (He.cT K)).map (·.2), lsOf K tls⟩ 3 "_law_levels" 2 Ty.S__law_levels := CF.of (He.glo_ok X G (c.t.d.fact 33 (f := .glo "_law_levels") rfl)) D__law_levels.kp b__law_levels (ok__law_levels T D__law_levels C__law_is_ratio C__law_plus C__law_less)
  have b__law_taken : Binds K fd__law_taken ["row", "many"] [] := FunD.bindsN E__law_taken fun _ _ _ _ _ _ us hl => match us, hl with | [_, _], _ => rfl
  have C__law_taken : CW PySem.Challenge.rw_damworks_k40_whole_ages.prog w K mg base ⟨(tgs.map (He.cT K)).map (·.2), lsOf K tls⟩ 1 "_law_taken" 1 cTaken := ⟨_, fd__law_taken, _, (He.glo_ok X G (c.t.d.fact 34 (f := .glo "_law_taken") rfl)), D__law_taken.kp, b__law_taken, ok_taken T D__law_taken ⟩
  have b__law_pick : Binds K fd__law_pick ["row", "things"] [] := FunD.bindsN E__law_pick fun _ _ _ _ _ _ us hl => match us, hl with | [_, _], _ => rfl
  have C__law_pick : CW PySem.Challenge.rw_damworks_k40_whole_ages.prog w K mg base ⟨(tgs.map (He.cT K)).map (·.2), lsOf K tls⟩ 2 "_law_pick" 1 cPick := ⟨_, fd__law_pick, _, (He.glo_ok X G (c.t.d.fact 35 (f := .glo "_law_pick") rfl)), D__law_pick.kp, b__law_pick, ok_pick T D__law_pick C__law_taken⟩
  have b__law_flow : Binds K fd__law_flow ["row"] [] := FunD.bindsN E__law_flow fun _ _ _ _ _ _ us hl => match us, hl with | [_], _ => rfl
  have C__law_flow : CW PySem.Challenge.rw_damworks_k40_whole_ages.prog w K mg base ⟨(tgs.map (He.cT K)).map (·.2), lsOf K tls⟩ 3 "_law_flow" 0 cFlow := ⟨_, fd__law_flow, _, (He.glo_ok X G (c.t.d.fact 36 (f := .glo "_law_flow") rfl)), D__law_flow.kp, b__law_flow, ok_flow T D__law_flow C__law_taken C__law_pick⟩
  have b__law_dam : Binds K fd__law_dam ["row", "most"] [] := FunD.bindsN E__law_dam fun _ _ _ _ _ _ us hl => match us, hl with | [_, _], _ => rfl
  have C__law_dam : CW PySem.Challenge.rw_damworks_k40_whole_ages.prog w K mg base ⟨(tgs.map (He.cT K)).map (·.2), lsOf K tls⟩ 4 "_law_dam" 1 cDam := ⟨_, fd__law_dam, _, (He.glo_ok X G (c.t.d.fact 37 (f := .glo "_law_dam") rfl)), D__law_dam.kp, b__law_dam, ok_dam T D__law_dam C__law_pick C__law_taken C__law_flow⟩
  have b__law_draw : Binds K fd__law_draw ["row", "dam"] [] := FunD.bindsN E__law_draw fun _ _ _ _ _ _ us hl => match us, hl with | [_, _], _ => rfl
  have C__law_draw : CW PySem.Challenge.rw_damworks_k40_whole_ages.prog w K mg base ⟨(tgs.map (He.cT K)).map (·.2), lsOf K tls⟩ 4 "_law_draw" 1 cDraw := ⟨_, fd__law_draw, _, (He.glo_ok X G (c.t.d.fact 38 (f := .glo "_law_draw") rfl)), D__law_draw.kp, b__law_draw, ok_draw T D__law_draw C__law_plus C__law_by C__law_levels C__law_pick⟩
  exact ok_law T D_law  C__law_less C__law_plus C__law_by C__law_alike C_ages C_oldest C__law_levels C__law_sum C__law_dam C__law_draw (law_of TheLaw)
end L40
open PySem PySem.W PySem.Calls PyProof.Rows
theorem PySem.Challenge.cw_damworks_k40_whole_ages_holds : PySem.Challenge.rw_damworks_k40_whole_ages.Holds := by
  w_on; o_law
  refine HandSHeadRun.head_imp (r := L40.TheRow) (q := view L40.TheRow.prog [0, 53]) (H := L40.hk) (ob := L40.ob) (M := 9000) (loose := L40.others) (d := HandSHeadRun.topDef L40.TheRow.prog 53) (kwd := []) L40.ob_eq
    L40.run (by kernel_rfl) (by kernel_rfl) (by kernel_rfl) (by rfl) (by first | assumption | decide +kernel) (by decide +kernel) ⟨rfl, rfl, rfl, rfl, rfl, by decide +kernel⟩ ?hw ?hc
  case hw => w_witness2
  case hc =>
    refine LamX.walk_ofTsE (l := PySem.Challenge.rw_damworks_k40_whole_ages) (n := 63) (k := 10) (x := "script") (CX := fun _ => L2.CX0) rfl (by decide) (by kernel_rfl) ⟨rfl, by decide, by decide⟩ ?F (fun _ _ _ _ _ z => z)
    intro w mg fa h Y G hmg0
    obtain ⟨K, KX, c⟩ := Y
    have hmg : mg ("law" : PySem.Str) = some (.ref fa) := by
      have e : (HandSHeadRun.topDef L40.TheRow.prog 53).name = ("law" : PySem.Str) := by kernel_rfl
      rw [← e]
      exact hmg0
    exact ⟨K, KX, L40.facts KX G hmg c⟩
