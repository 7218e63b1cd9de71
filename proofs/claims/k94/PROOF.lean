import PyProof.Rows.All
import Wide.All
import OpenK.AllK
import Wide.FinOn
import HandS.Words
import HandS.Defaults
import HandS.EndTab
import HandS.HeadWalk
import HandS.Head0
import HandS.Head1
import HandS.Head2
import HandS.HeadHook4
import HandS.Head3
import HandS.ForMost
import HandS.AnyAll
import HandS.GenOver
import HandS.Lambda
import HandS.Wide
import HandS.IsInst
import HandS.Deep
import HandS.TupMul
import HandS.Gcd
import HandS.TupAny
import KE.KTupSum
import HandS.Style
import HandS.Zip
import KE.GoesMore
import KE.GoesEnum
import KE.DataMinMax
import HandS.Rev
import PyProof.Rows.ListCopyD
import KE.KDictZip
import PyProof.CollectWalk
import PyProof.ListNew
import HandS.ListItems
import HandS.WordsExc
import HandS.ExcIs
import HandS.TryOnly
import HandS.SortKw
import KE.GoesEnumKw
import KE.SortData
import KE.SortKeyHeap
import HandS.SetFor
import HandS.Strs
import HandS.Flow
import KE.GoesZip
import PyProof.ListRange
import HandS.Sort
import PySem.Challenge.RW_damworks_k94_across_more_pumping
set_option Elab.async false
set_option linter.all false
namespace DN
open PySem PySem.Spec PyProof.Rows L2
abbrev lsOf (K : PySem.W.Frag) (tl : List He.Defn) : List (Addr × Str) := tl.map fun d => ((He.cT K d).2, d.1 ++ (".<locals>.<lambda>" : Str))
end DN
set_option maxRecDepth 100000
set_option maxHeartbeats 0
namespace L94
open PySem PySem.Spec PyProof.Rows L2 DN
def top (i : Nat) : Stmt := PySem.Challenge.pw_damworks_k94_across_more_pumping.main.body.getD i (.Pass ⟨0, 0, 0, 0⟩)
def tgs : List He.Defn := [("is_row_between", none), ("is_row_of_ratios", none), ("is_pumping", none)]
def tls : List He.Defn := [("uses_of_water", none)]
def exs : PySem.W.Frag → Bool := fun K => (fun K => He.eqO (PySem.W.nsIn K mainGlobals "gcd") (some (some (.builtin "math.gcd")))) K && decide (∀ P ∈ lsOf K tls, P.1 ∉ (tgs.map (He.cT K)).map (·.2) ∧ ∀ Q ∈ lsOf K tls, Q.1 = P.1 → Q = P)
def dd (x : Str) (i : Nat) : He.DefD := ⟨(x, none), x, x, defArgs (top i), defBody (top i), defScope (top i), [], []⟩
def fns : List He.DefD := [dd "is_whole" 6, dd "is_between" 7, dd "is_row_between" 8, dd "is_ratio" 9, dd "is_row_of_ratios" 10, dd "ratio" 11, dd "plus" 12, dd "minus" 13, dd "times" 14, dd "is_less" 15, dd "part_of_steps" 17, dd "worth_on_curve" 18, dd "uses_of_water" 19, dd "curve_in_month" 20, dd "curve_before" 21, dd "curves_of_levels" 22, dd "level_curves" 23, dd "greatest_worth" 24, dd "best_hold" 25, dd "best_levels" 26, dd "releases_between" 27, dd "best_releases" 28, dd "is_share" 34, dd "is_house" 35, dd "check_house_and_prices" 36, dd "like_dam" 37, dd "found_profit" 38, dd "pump_profit" 39, dd "pump_plan" 40, dd "is_pumping" 41, dd "profit_of" 42, dd "shows_pumping" 43, dd "_law_ratio" 48, dd "_law_plus" 49, dd "_law_sum" 51, dd "_law_less" 52, dd "_law_taken" 45, dd "_law_pick" 46, dd "_law_house" 54, dd "law" 59]
def fas : List He.Fa := [.glo "is_whole", .glo "is_between", .glo "is_row_between", .glo "is_ratio", .glo "is_row_of_ratios", .glo "ratio", .glo "plus", .glo "minus", .glo "times", .glo "is_less", .glo "part_of_steps", .glo "worth_on_curve", .glo "uses_of_water", .glo "curve_in_month", .glo "curve_before", .glo "curves_of_levels", .glo "level_curves", .glo "greatest_worth", .glo "best_hold", .glo "best_levels", .glo "releases_between", .glo "best_releases", .glo "is_share", .glo "is_house", .glo "check_house_and_prices", .glo "like_dam", .glo "found_profit", .glo "pump_profit", .glo "pump_plan", .glo "is_pumping", .glo "profit_of", .glo "shows_pumping", .glo "_law_ratio", .glo "_law_plus", .glo "_law_sum", .glo "_law_less", .glo "_law_taken", .glo "_law_pick", .glo "_law_house", .glo "law", .free "abs", .free "all", .free "bool", .free "int", .free "isinstance", .free "len", .free "list", .free "max", .free "min", .free "range", .free "reversed", .free "sorted", .free "sum", .free "tuple", .free "zip", .int "MOST_OF_SHARE" 100, .int "MOST_PRICE" 1000, .int "MOST_PRICES" 6, .int "MOST_WATER" 1000]
def tfs : List He.Defn := tgs ++ tls
def others : List PySem.Str := (["DamError", "BadHouse", "BadPrices", "is_whole", "is_between", "is_row_between", "is_ratio", "is_row_of_ratios", "ratio", "plus"] : List PySem.Str) ++ (["minus", "times", "is_less", "part_of_steps", "worth_on_curve", "uses_of_water", "curve_in_month", "curve_before", "curves_of_levels", "level_curves"] : List PySem.Str) ++ (["greatest_worth", "best_hold", "best_levels", "releases_between", "best_releases", "MOST_WATER", "MOST_PRICE", "MOST_OF_SHARE", "MOST_PRICES", "is_share"] : List PySem.Str) ++ (["is_house", "check_house_and_prices", "like_dam", "found_profit", "pump_profit", "pump_plan", "is_pumping", "profit_of", "shows_pumping", "_law_taken"] : List PySem.Str) ++ (["_law_pick", "_law_alike", "_law_ratio", "_law_plus", "_law_by", "_law_sum", "_law_less", "_law_is_ratio", "_law_house", "_law_is_pumping"] : List PySem.Str) ++ (["_law_profit", "_law_over", "_law_pump_bound"] : List PySem.Str)
abbrev TheRow : PySem.W.OpenRow := PySem.W.OpenLaw.row PySem.Challenge.rw_damworks_k94_across_more_pumping
abbrev hk : PySem.W.Hook := He.hookX 2 fas fns [] tfs exs
def ob (s : PySem.W.SharedT) : He.AlX := He.obsX 2 fas fns [] tfs exs (HandSHeadRun.getT s)
theorem ob_eq (s : PySem.W.SharedT) : ob s = hk.obs s.abs := He.obsX_eq (HandSHeadRun.getT_eq s)
theorem run (w : World) : HandSHeadRun.RunEqI TheRow (PySem.W.view TheRow.prog [0, 59]) hk ob 9000 others w := by
  unfold HandSHeadRun.RunEqI
  kernel_rfl
end L94
set_option maxHeartbeats 4000000
namespace GA
open PySem PySem.Spec PyProof.Rows L2
abbrev St := L2.St
section
variable {prog : Program} {w : World} {A : Around} {R : Result → Shared → Prop} {I : Addr}
theorem all_loop {St : Nat → Shared → Prop} (turn : ∀ m s, St m s → wpAny (model prog w) A.in1 (pyNext (.ref I)) (fun r s' => match r with
      | none => R (.ok (.ret (.bool true))) s'
      | some v => ∃ b, v = .bool b ∧ if b = true then ∃ m', m' < m ∧ St m' s' else R (.ok (.ret (.bool b))) s') (fun _ _ => False) s) :
    ∀ m s, St m s → codeAny (model prog w) A (.builtin "all.loop" ⟨[.ref I], []⟩) R s := by
  intro m
  induction m using Nat.strongRecOn with
  | ind m ih =>
    intro s hst
    refine codeAny_builtin F.entry_all_loop ?_
    rw [Around.under_plainId F.plain_all_loop _]
    show wpAny _ A.in1 (pyNext (.ref I) >>= _) _ _ s
    refine wpAny_bind (wpAny_mono (turn m s hst) (fun r s' hr => ?_) fun _ _ z => False.elim z)
    cases r with
    | none => exact wpAny_bind (wpAny_rule (wpAny_pure hr))
    | some v =>
      obtain ⟨b, rfl, hb⟩ := hr
      refine wpAny_bind (wpAny_holding (wpAny_truthy_bool ?_))
      refine wpAny_bind (wpAny_letGo ?_)
      cases b with
      | true =>
        simp only [if_true] at hb ⊢
        obtain ⟨m', hm, hs⟩ := hb
        exact wpAny_pure ⟨plainId_quiet F.plain_all_loop _, ih m' hm s' hs⟩
      | false =>
        simp only [Bool.false_eq_true, if_false] at hb ⊢
        exact wpAny_bind (wpAny_rule (wpAny_pure hb))
end
abbrev gCx (X : Cx) (s : Shared) (H : Hp) (cenv : Env) (fp : List Addr) (pn : List (Addr × Obj)) : Cx :=
  { X with A := X.A.in1.in1.deeper cenv, s_0 := s, H_0 := H, env := cenv, outer := X.stack, stack := cenv :: X.stack, ex := fp, fn := fun _ => false, pn := pn, xe := fun _ _ => False }
section
variable {X : Cx} {pins : List (Addr × Obj)} {σ : St} {H : Hp} {s s' : Shared}
theorem inv_rest (I : Inv X pins σ H s) (k : ∀ b u, s.heap.get? b = some u → s'.heap.get? b = some u) (ho : s'.os = s.os) (hb : AllBare s'.gens) : Inv X pins σ H s' := by
  have J := I.step (H' := H) (h' := s'.heap) (g' := s'.gens) (t' := s'.toks) (d' := s'.drawn) (ch := []) (fun b hb => absurd hb (by simp)) (fun b o _ _ _ e _ => k b o e) (fun b o _ _ _ e _ => ⟨o.slots, k b o e⟩)
    (fun _ _ _ _ n => n) (fun b o _ e => ⟨o, k b o e⟩) (fun _ _ q => q) (fun _ _ _ q => q) (fun b ps q => ⟨#[], by rw [q]; simp⟩) (fun m hm => let ⟨o, es, ep, ho, r⟩ := hm; ⟨o, es, ep, k _ o ho, r⟩) (I.hok.kept k) hb
  rw [GxR.sh_eta s s' ho] at J
  exact J
structure Woken (s s' : Shared) : Prop where
  heap : s'.heap = s.heap
  os : s'.os = s.os
  bare : AllBare s'.gens
  size : s.gens.size ≤ s'.gens.size
theorem Woken.inv (W : Woken s s') (I : Inv X pins σ H s) : Inv X pins σ H s' := inv_rest I (fun b u e => by rw [W.heap]; exact e) W.os W.bare
theorem bare_set {G : Array GenState} (h : AllBare G) {g : Nat} {x : GenState} (hx : x.bare = true) : AllBare (G.setIfInBounds g x) := by
  intro y hy
  obtain ⟨i, hi, rfl⟩ := Array.mem_iff_getElem.mp hy
  have hi' : i < G.size := by simpa using hi
  rw [Array.getElem_setIfInBounds hi']
  split
  · exact hx
  · exact h _ (Array.getElem_mem hi')
theorem Woken.set (hb : AllBare s.gens) {g : Nat} {x : GenState} (hx : x.bare = true) : Woken s (s.setGen g x) := ⟨rfl, rfl, bare_set hb hx, by rw [GenW.setGen_size]; exact Nat.le_refl _⟩
end
section
variable {X : Cx} {s₁ : Shared} {H₁ : Hp} {cenv : Env} {fp : List Addr} {pn : List (Addr × Obj)}
def gY (X : Cx) (s₁ : Shared) (H₁ : Hp) (cenv : Env) (fp : List Addr) (pn : List (Addr × Obj)) (ev : Bool) (G0 : Nat) (Qx : Bool → Hp → Prop) : Protocol := fun n s₀ v s kap =>
  ∃ b σ' H', v = .bool b ∧ Inv (gCx X s₁ H₁ cenv fp pn) [] σ' H' s ∧ G0 ≤ s.gens.size ∧ if b = ev then ∀ s'', Woken s s'' → kap (.send .none) s'' else Qx b H'
def gP (X : Cx) (s₁ : Shared) (H₁ : Hp) (cenv : Env) (fp : List Addr) (pn : List (Addr × Obj)) (ev : Bool) (Qx : Bool → Hp → Prop) : Nat → Shared → Shared → Prop := fun _ _ s =>
  ∃ σ' H', Inv (gCx X s₁ H₁ cenv fp pn) [] σ' H' s ∧ Qx ev H'
def gR (X : Cx) (s₁ : Shared) (H₁ : Hp) (cenv : Env) (fp : List Addr) (pn : List (Addr × Obj)) (ev : Bool) (Qx : Bool → Hp → Prop) : GenEnd := fun n s₀ r s => r = .ok .next ∧ gP X s₁ H₁ cenv fp pn ev Qx n s₀ s
theorem seg_loop {elt tg iter : Expr} {scope : Scope} {pos : Pos} {it : Addr} {tn : Nat → Heap → Prop} {J : It} {g : TG} {te : TE} {σ : St} {vs : List Nat} {ev : Bool} {G0 : Nat} {Qx : Bool → Hp → Prop} {W : Nat → Nat → Hp → Prop}
    (hc : X.calm = true) (hco : cenv.scope.isCoroutine = false) (T : Turn X.prog X.w X.K tg J fp it tn) (pg : PG (gCx X s₁ H₁ cenv fp pn) tg g) (pe : PE (gCx X s₁ H₁ cenv fp pn) elt te)
    (hpn : ∀ b ∈ fp, ∀ p ∈ pn, p.1 ≠ b)
    (turn : ∀ i m H, W i m H → (J.stop i H ∧ Qx ev H) ∨ (J.go i H ∧ ∃ Nx : Hp → Prop, (∀ H', Nx H' → ∃ m', m' < m ∧ W (i + 1) m' H') ∧ ∀ x H', J.yld i H x H' → g x (wipe σ vs) H' fun σ2 H3 => wipe σ2 vs = wipe σ vs ∧
      te σ2 H3 fun y H4 => ∃ b, y = .bl b ∧ if b = ev then Nx H4 else Qx b H4)) :
    ∀ (n i m : Nat) (H : Hp) (s₀ s : Shared), m ≤ n → W i m H → Inv (gCx X s₁ H₁ cenv fp pn) [] (wipe σ vs) H s → tn i s.heap → (∀ b ∈ fp, H b = none) → G0 ≤ s.gens.size →
      Seg (model X.prog X.w) X.A.in1.in1 (gR X s₁ H₁ cenv fp pn ev Qx) (gY X s₁ H₁ cenv fp pn ev G0 Qx) (n + 1) s₀
        (.compLoop (.GeneratorExp elt [⟨tg, iter, [], 0⟩] scope pos) 0 (.ref it) .none cenv) ((model X.prog X.w).den (.compLoop (.GeneratorExp elt [⟨tg, iter, [], 0⟩] scope pos) 0 (.ref it) .none cenv)) [] s := by
  have stat : ∀ {σ' : St} {H' : Hp} {s' : Shared}, Inv (gCx X s₁ H₁ cenv fp pn) [] σ' H' s' → (∀ b ∈ fp, H' b = none) → ∀ b ∈ fp, FpOk (gCx X s₁ H₁ cenv fp pn) [] H' b := fun {σ' H' s'} I' hn b hb =>
    ⟨hn b hb, (I'.ok.exf b hb).1, I'.ok.exfs b hb, .inl hb, fun x c e => (I'.ok.exf b hb).2 x c e, fun p hp => by
      rcases List.mem_append.mp hp with hp | hp
      · exact hpn b hb p hp
      · exact absurd hp (by simp)⟩
  intro n
  induction n using Nat.strongRecOn with
  | ind n ih =>
    intro i m H s₀ s hm w I st nfp hG
    show Seg _ X.A.in1.in1 _ _ _ s₀ _ ((compTurn (.GeneratorExp elt [⟨tg, iter, [], 0⟩] scope pos) 0 (.ref it) .none cenv).onRaise (leaving cenv)) [] s
    rw [compTurn_gen, Sem.onRaise_eq_wrap]
    refine seg_bind_wrap (wpAny_standAt ?_)
    rcases turn i m H w with ⟨stop, qq⟩ | ⟨go, Nx, hNx, step⟩
    · have td := T.done (gCx X s₁ H₁ cenv fp pn) rfl rfl rfl hc i [] s _ H (fun _ _ => False) I (stat I nfp) st stop
      refine seg_bind_wrap (thnF td fun r s6 ⟨hr, I6⟩ => ?_)
      subst hr
      exact seg_end (.ok .next) ⟨rfl, _, _, I6, qq⟩
    · have ti := T.item (gCx X s₁ H₁ cenv fp pn) rfl rfl rfl hc i [] s _ H (fun _ _ => False) I (stat I nfp) st go
      refine seg_bind_wrap (thnF (GenW.wpAny_gsz hG (wpAny_mono ti (fun _ _ z hg => (⟨hg, z⟩ : G0 ≤ _ ∧ _)) fun _ _ z _ => z)) fun r s6 ⟨hG6, u, hr, h6⟩ => ?_)
      subst hr
      refine seg_bind_wrap (thnF (GenW.wpAny_gsz hG6 (wpAny_mono h6 (fun _ _ z hg => (⟨hg, z⟩ : G0 ≤ _ ∧ _)) fun _ _ z _ => z)) fun _ s7 ⟨hG7, x, H7, I7, r7, y7, st7, n7⟩ => ?_)
      have I7' := I7.pinned (stat I7 n7) (T.obj _ _ st7)
      refine seg_bind_wrap (thnF (GenW.wpAny_gsz hG7 (wpAny_mono (pg.run _ s7 _ H7 x u _ I7' r7 (step x H7 y7)) (fun _ _ z hg => (⟨hg, z⟩ : G0 ≤ _ ∧ _)) fun _ _ z _ => z)) fun _ s8 ⟨hG8, σ8, H8, I8, hw8, q8⟩ => ?_)
      refine seg_bind_wrap (wpAny_tests_nil ?_)
      simp only [if_true]
      have hy : ∀ v, yieldOut cenv v = yieldValue v := fun v => by simp only [yieldOut, hco, Bool.false_eq_true, if_false]
      simp only [hy]
      rw [Sem.bind_eq_wrap', Sem.bind_eq_wrap', Sem.wrap_wrap, Sem.wrap_wrap]
      refine seg_wrap (thnF (GenW.wpAny_gsz hG8 (wpAny_mono (pe.run _ s8 σ8 H8 _ I8 q8) (fun _ _ z hg => (⟨hg, z⟩ : G0 ≤ _ ∧ _)) fun _ _ z _ => z)) fun z s10 ⟨hG10, yv, H10, I10, r10, b, hb, nx⟩ => ?_)
      subst hb
      obtain rfl : z = Value.bool b := r10
      refine seg_at (seg_yield rfl rfl rfl ⟨b, σ8, H10, rfl, I10.unpinned (pins := []), hG10, ?_⟩)
      by_cases hb : b = ev
      · rw [if_pos hb] at nx ⊢
        intro s'' wk
        obtain ⟨m', hm', w'⟩ := hNx H10 nx
        obtain ⟨n', rfl⟩ : ∃ n', n = n' + 1 := ⟨n - 1, by omega⟩
        have pin' : ∀ b ∈ fp, ∀ o, s7.heap.get? b = some o → s10.heap.get? b = some o ∧ H10 b = none := fun b hb o e =>
          let z := I10.pin (b, o) (List.mem_append_right _ (List.mem_append_right _ (mem_pinsAt hb e)))
          ⟨z.1, z.2.1⟩
        have hl : (wipe σ vs).length = σ8.length := by rw [← hw8, wipe_length]
        have I11 : Inv (gCx X s₁ H₁ cenv fp pn) [] (wipe σ vs) H10 s10 := (I10.unpinned (pins := [])).weak hl fun j v e => by
          rw [← hw8] at e
          exact (wipe_some e).1
        refine seg_again rfl (ih n' (by omega) (i + 1) m' H10 s'' s'' (by omega) w' (wk.inv I11) ?_ (fun b hb => ?_) (Nat.le_trans hG10 wk.size))
        · exact T.keep _ _ _ st7 fun b hb o e => by rw [wk.heap]; exact (pin' b hb o e).1
        · obtain ⟨o, e, _⟩ := T.obj _ _ st7 b hb
          exact (pin' b hb o e).2
      · rw [if_neg hb] at nx ⊢
        exact nx
theorem seg_start {elt tg iter : Expr} {scope : Scope} {pos : Pos} {it : Addr} {tn : Nat → Heap → Prop} {J : It} {R : GenEnd} {Y : Protocol} {n : Nat} {s₀ s : Shared}
    (T : Turn X.prog X.w X.K tg J fp it tn) (st : tn 0 s.heap)
    (loop : Seg (model X.prog X.w) X.A.in1.in1 R Y n s₀ (.compLoop (.GeneratorExp elt [⟨tg, iter, [], 0⟩] scope pos) 0 (.ref it) .none cenv) ((model X.prog X.w).den (.compLoop (.GeneratorExp elt [⟨tg, iter, [], 0⟩] scope pos) 0 (.ref it) .none cenv)) [] s) :
    Seg (model X.prog X.w) X.A.in1.in1 R Y n s₀ (.compStart (.GeneratorExp elt [⟨tg, iter, [], 0⟩] scope pos) 0 (.ref it) .none cenv) ((model X.prog X.w).den (.compStart (.GeneratorExp elt [⟨tg, iter, [], 0⟩] scope pos) 0 (.ref it) .none cenv)) [] s := by
  show Seg _ X.A.in1.in1 _ _ _ s₀ _ ((compStart (.GeneratorExp elt [⟨tg, iter, [], 0⟩] scope pos) 0 (.ref it) .none cenv).onRaise (leaving cenv)) [] s
  unfold compStart
  rw [Sem.onRaise_eq_wrap]
  show Seg _ X.A.in1.in1 _ _ _ s₀ _ ((ask >>= _).wrap _ _ _ _) [] s
  refine seg_bind_wrap (wpAny_askSetting ?_)
  split
  · exact seg_again rfl loop
  · first
      | exact seg_bind_wrap (wpAny_rule (seg_bind_wrap (wpAny_standAt (seg_bind_wrap (T.self _ 0 s _ _ st (seg_again rfl loop))))))
      | (refine seg_bind_wrap (wpAny_rule ?_); show Seg _ X.A.in1.in1 _ _ _ s₀ _ ((standAt iter.pos >>= _).wrap _ _ _ _) [] s; exact seg_bind_wrap (wpAny_standAt (seg_bind_wrap (T.self _ 0 s _ _ st (seg_again rfl loop)))))
def Sleeps (X : Cx) (s₁ : Shared) (H₁ : Hp) (cenv : Env) (fp : List Addr) (pn : List (Addr × Obj)) (ev : Bool) (Qx : Bool → Hp → Prop) (a : Addr) (g : Nat) (m : Nat) (s : Shared) : Prop :=
  s.heap.IsGen a g ∧ s.heap.NoLimit ∧ AllBare s.gens ∧ ∃ gs, s.gens[g]? = some gs ∧ ∀ s'', Woken s s'' → gs.Goes (model X.prog X.w) X.A.in1.in1 (gR X s₁ H₁ cenv fp pn ev Qx) (gY X s₁ H₁ cenv fp pn ev (g + 1) Qx) m (.send .none) s''
theorem sleeps_next {ev : Bool} {Qx : Bool → Hp → Prop} {a : Addr} {g m : Nat} {s : Shared} {o : Obj} (hh : X.A.handled = none) (hdp : X.A.depth < recursionLimit) (hpn : pn = [(a, o)]) (hgen : ∀ h : Heap, h.get? a = some o → h.IsGen a g)
    (S : Sleeps X s₁ H₁ cenv fp pn ev Qx a g m s) :
    wpAny (model X.prog X.w) X.A.in1 (pyNext (.ref a)) (fun r s' => match r with
      | none => ∃ σ' H', Inv (gCx X s₁ H₁ cenv fp pn) [] σ' H' s' ∧ Qx ev H'
      | some v => ∃ b, v = .bool b ∧ if b = ev then ∃ m', m' < m ∧ Sleeps X s₁ H₁ cenv fp pn ev Qx a g m' s' else ∃ σ' H', Inv (gCx X s₁ H₁ cenv fp pn) [] σ' H' s' ∧ Qx b H') (fun _ _ => False) s := by
  obtain ⟨hg, hl, hbr, gs, hgs, hgo⟩ := S
  refine wpAny_pyNext_genexpQ (A := X.A.in1) (n := m) (P := gP X s₁ H₁ cenv fp pn ev Qx) (Y := gY X s₁ H₁ cenv fp pn ev (g + 1) Qx) hh hl hdp hg hgs (hgo _ (Woken.set hbr rfl)) (fun v s2 gs' hb hv => ?_) (fun s2 hp h' hk => ?_)
  · obtain ⟨b, σ', H', hv1, I, hsz, hq⟩ := hv
    have wk : Woken s2 (s2.setGen g gs') := Woken.set I.bare hb
    refine ⟨b, hv1, ?_⟩
    by_cases hbe : b = ev
    · rw [if_pos hbe] at hq ⊢
      cases m with
      | zero => exact (hq s2 ⟨rfl, rfl, I.bare, Nat.le_refl _⟩).elim
      | succ k =>
        have I2 := wk.inv I
        refine ⟨k, Nat.lt_succ_self k, hgen _ (I2.pin (a, o) (by rw [show (gCx X s₁ H₁ cenv fp pn).pn = pn from rfl, hpn]; simp)).1, I2.nolimit, I2.bare, gs', ?_, fun s'' w2 => hq s'' ⟨w2.heap.trans wk.heap, w2.os.trans wk.os, w2.bare, Nat.le_trans wk.size w2.size⟩⟩
        have hlt : g < s2.gens.size := hsz
        simp only [Shared.setGen]
        rw [Array.getElem?_setIfInBounds_self]
        simp [hlt]
    · rw [if_neg hbe] at hq ⊢
      exact ⟨σ', H', wk.inv I, hq⟩
  · obtain ⟨σ', H', I, q⟩ := hp
    refine ⟨σ', H', inv_rest I hk rfl (bare_set I.bare rfl), q⟩
end
section
variable {X : Cx} {pins : List (Addr × Obj)} {σ : St} {H : Hp} {s s' : Shared}
theorem gen_begin {scope : Scope} {own : List (Str × Nat)} {fp : List Addr} {code : Value} {cenv : Env} {a : Addr} {o : Obj} {m : Str → Option Value} (I : Inv X pins σ H s) (ok : BlkOk X.N X.env.scope scope own) (hN : X.N.Nodup) (hcell : ∀ y ∈ scope.names, y.2 ≠ .cell)
    (hfp : ∀ b ∈ fp, FpOk X pins H b ∧ b < s.heap.objs.size) (hce : cenv = genEnv scope (cloFrom X.env.cells scope.names []) s.heap.objs.size code builtinsNs X.env)
    (kp : ∀ b o, s.heap.get? b = some o → s'.heap.get? b = some o) (ho : s'.os = s.os) (hb : AllBare s'.gens) (hns : s'.heap.Ns s.heap.objs.size m) (ha : s.heap.objs.size < a) (hga : s'.heap.get? a = some o) (hod : ∀ v, o.data ≠ .cell v) :
    Inv (gCx X s H cenv fp [(a, o)]) [] (wipe σ (own.map (·.2))) H s' := by
  have hfree : ∀ y ∈ scope.names, y.2 = .free → ∃ c, X.env.cells.lookup y.1 = some c := fun y hy e => by
    rcases ok.free y hy e with k | k
    · exact I.ok.has _ (.inl k)
    · exact I.ok.has _ (.inr k)
  have hL : cenv.locals = s.heap.objs.size := by rw [hce]; rfl
  have hcl : cenv.cells = cloFrom X.env.cells scope.names [] := by rw [hce]; rfl
  have hsc : cenv.scope = scope := by rw [hce]; rfl
  have cm : ∀ {y c}, cenv.cells.lookup y = some c → X.env.cells.lookup y = some c ∧ c < s.heap.objs.size := fun {y c} e => by
    rw [hcl] at e
    rcases cloFrom_mem (PySem.mem_of_lookup e) with hm | ⟨h1, rfl⟩
    · cases hm
    · obtain ⟨c, hc⟩ := hfree _ h1 rfl
      have hc : X.env.cells.lookup y = some c := hc
      rw [hc]
      obtain ⟨w, z⟩ := I.cell _ _ hc
      exact ⟨rfl, z.lt⟩
  have look : ∀ {y}, scope.names.lookup y = some .free → ∃ c, cenv.cells.lookup y = some c := fun {y} hl => by
    have hy : (y, NameKind.free) ∈ scope.names := PySem.mem_of_lookup hl
    rw [hcl]
    exact mem_lookup (cloFrom_has (cells := X.env.cells) (acc := []) hy)
  have okB : (gCx X s H cenv fp [(a, o)]).Ok := by
    refine ⟨I.ok.mod, by show cenv.scope.kind = _; rw [hsc]; exact ok.kind, by show cenv.globals = _; rw [hce]; exact I.ok.glob, by show cenv.builtins = _; rw [hce]; rfl, by show s.heap.objs.size ≤ cenv.locals; rw [hL]; exact Nat.le_refl _,
      fun y z c e1 e2 => I.ok.inj y z c (cm e1).1 (cm e2).1, fun y hy => ?_, fun y c z _ => absurd (show false = true from z) Bool.false_ne_true, fun h => I.ok.hd h, Around.frames_deeper (A := X.A.in1.in1) I.ok.frames, .inr ⟨rfl, by show cenv.frame = some cenv.locals; rw [hce]; rfl⟩, fun b hb => ⟨?_, fun y c e z => ?_⟩, I.bs, Nat.le_trans I.ok.bsz I.sz, fun b o e hb => ?_, fun b hb z => ?_, I.stack, I.stkFree⟩
    · show ∃ c, cenv.cells.lookup y = some c
      have hy : cenv.scope.names.lookup y = some .cell ∨ cenv.scope.names.lookup y = some .free := hy
      rw [hsc] at hy
      rcases hy with hy | hy
      · exact absurd rfl (hcell _ (PySem.mem_of_lookup hy))
      · exact look hy
    · show b ≠ cenv.locals
      rw [hL]; exact Nat.ne_of_lt (hfp b hb).2
    · have e : cenv.cells.lookup y = some c := e
      exact (hfp b hb).1.2.2.2.2.1 y c (cm e).1 z
    · rcases (hfp b hb).1.2.2.2.1 with z | z
      · exact I.ok.noex b o e z
      · exact absurd (Nat.lt_of_lt_of_le (Heap.lt_size e) (Nat.le_trans I.ok.bsz z)) (Nat.lt_irrefl _)
    · rcases List.mem_cons.mp (I.stkSub b z) with z | z
      · exact (hfp b hb).1.2.1 z
      · exact (hfp b hb).1.2.2.1 z
  have nofr : a ∉ frs X.stack := fun z => by
    rcases List.mem_cons.mp (I.stkSub _ z) with e | e
    · have h1 := I.lt
      rw [← e] at h1
      exact absurd (Nat.lt_trans h1 ha) (Nat.lt_irrefl _)
    · exact I.nofs (Nat.le_of_lt ha) e
  refine ⟨okB, ho, hb, Un.kept kp, ⟨m, ?_, fun i y av e1 e2 e3 => ?_⟩, fun y c e => ?_, ?_, fun y c e => ?_, fun p hp => ?_, I.hok.kept kp, by rw [wipe_length]; exact I.len⟩
  · show Heap.Ns _ cenv.locals _
    rw [hL]
    exact hns
  · obtain ⟨e2, hne⟩ := wipe_some e2
    have e3 : Vis cenv.scope y := e3
    rw [hsc] at e3
    have no : ∀ k, scope.names.lookup y = some k → ¬ (k = .local ∨ k = .cell) := fun k hk hh => by
      rcases ok.own _ (PySem.mem_of_lookup hk) hh with e' | e'
      · obtain ⟨p, hp, hpy⟩ := List.mem_map.mp e'
        have e3 := ok.ix p hp
        have : p.1 = y := hpy
        rw [this] at e3
        exact hne (List.mem_map.mpr ⟨p, hp, nodup_ix hN e3 e1⟩)
      · exact e' (List.mem_of_getElem? e1)
    have hfr : scope.names.lookup y = some .free := by
      rcases e3 with e3 | e3 | e3
      · exact absurd (.inl rfl) (no _ e3)
      · exact absurd (.inr rfl) (no _ e3)
      · exact e3
    obtain ⟨m', hn, hl⟩ := I.loc
    have hvis : Vis X.env.scope y := (ok.free _ (PySem.mem_of_lookup hfr) rfl).elim (fun k => .inr (.inl k)) (fun k => .inr (.inr k))
    obtain ⟨w', r, q⟩ := hl i y av e1 e2 hvis
    obtain ⟨c, h1⟩ := look hfr
    refine ⟨w', r, .inr ⟨.inr (by show cenv.scope.names.lookup y = _; rw [hsc]; exact hfr), c, h1, ?_⟩⟩
    have h2 := (cm h1).1
    rcases q with ⟨k, _⟩ | ⟨_, c', e', z⟩
    · have k : X.env.scope.names.lookup y = some .local := k
      rcases ok.free _ (PySem.mem_of_lookup hfr) rfl with k' | k' <;> rw [show X.env.scope.names.lookup y = _ from k'] at k <;> cases k
    · rw [h2] at e'; cases e'
      exact z.keeps kp
  · have e : cenv.cells.lookup y = some c := e
    obtain ⟨w', z⟩ := I.cell y c (cm e).1
    exact ⟨w', z.keeps kp⟩
  · show H cenv.locals = none
    rw [hL]; exact I.hok.fresh (Nat.le_refl _)
  · have e : cenv.cells.lookup y = some c := e
    exact I.freeC y c (cm e).1
  · have hp : p = (a, o) := by simpa using hp
    subst hp
    exact ⟨hga, I.hok.fresh (Nat.le_of_lt ha), by show a ≠ cenv.locals; rw [hL]; exact Nat.ne_of_gt ha, nofr, hod⟩
end
structure GenK (scope : Scope) : Prop where
  co : scope.isCoroutine = false
  cell : ∀ y ∈ scope.names, y.2 ≠ .cell
  dot : scope.names.lookup (".0" : Str) = some NameKind.local
def genKB (scope : Scope) : Bool := !scope.isCoroutine && (scope.names.all fun y => !decide (y.2 = .cell)) && decide (scope.names.lookup (".0" : Str) = some NameKind.local)
theorem genK_by {scope : Scope} (h : genKB scope = true) : GenK scope := by
  unfold genKB at h
  simp only [Bool.and_eq_true, Bool.not_eq_true', List.all_eq_true, decide_eq_true_eq, decide_eq_false_iff_not] at h
  exact ⟨h.1.1, h.1.2, h.2⟩
def GTurn (ev : Bool) (g : TG) (te : TE) (vs : List Nat) (σ : St) (Qx : Bool → Hp → Prop) (J : It) (H2 : Hp) : Prop :=
  ∃ W : Nat → Nat → Hp → Prop, (∃ m, W 0 m H2) ∧ ∀ i m H, W i m H → (J.stop i H ∧ Qx ev H) ∨ (J.go i H ∧ ∃ Nx : Hp → Prop, (∀ H', Nx H' → ∃ m', m' < m ∧ W (i + 1) m' H') ∧ ∀ x H', J.yld i H x H' → g x (wipe σ vs) H' fun σ2 H3 => wipe σ2 vs = wipe σ vs ∧
      te σ2 H3 fun y H4 => ∃ b, y = .bl b ∧ if b = ev then Nx H4 else Qx b H4)
def tGen (ev : Bool) (P : Addr) (wi : TI) (g : TG) (te : TE) (vs : List Nat) : TE := fun σ H Q => wi σ H fun J H1 => GxR.TabG H1 P ∧ ∀ H2, GxR.Tabbed P H1 H2 → GTurn ev g te vs σ (fun b H' => Q (.bl b) H') J H2
section
variable {X : Cx} {pins : List (Addr × Obj)} {σ : St} {H : Hp} {s : Shared}
theorem gen_make {ev : Bool} {c P : Addr} {elt tg iter : Expr} {scope : Scope} {own : List (Str × Nat)} {gpos : Pos} {wi : TI} {g : TG} {te : TE} {k : Nat} {Qx : Bool → Hp → Prop} {Q' : Value → Shared → Prop}
    (hr : Room k X.A) (TB : LamX.TabB X.base X.mg c P) (hcode : X.env.code = .ref c) (hc : X.calm = true) (hN : X.N.Nodup) (hi : PI X tg iter wi) (ok : BlkOk X.N X.env.scope scope own) (gk : GenK scope)
    (hg : ∀ (s : Shared) (H : Hp) (cl : List (Str × Addr)) (C : Addr) (code : Value) (fp : List Addr) (pn : List (Addr × Obj)), PG (gCx X s H (genEnv scope cl C code builtinsNs X.env) fp pn) tg g)
    (he : ∀ (s : Shared) (H : Hp) (cl : List (Str × Addr)) (C : Addr) (code : Value) (fp : List Addr) (pn : List (Addr × Obj)), PE (gCx X s H (genEnv scope cl C code builtinsNs X.env) fp pn) elt te)
    (hs : ∀ v, genFold iter X.env v = pure v) (I : Inv X pins σ H s) (h : wi σ H fun J H1 => GxR.TabG H1 P ∧ ∀ H2, GxR.Tabbed P H1 H2 → GTurn ev g te (own.map (·.2)) σ Qx J H2)
    (hQ : ∀ (a : Addr) (gn m : Nat) (s4 s5 : Shared) (H4 : Hp) (cenv : Env) (fp : List Addr) (o : Obj), Inv X pins σ H4 s4 → (∀ b ∈ fp, FpOk X pins H4 b) → (∀ h : Heap, h.get? a = some o → h.IsGen a gn) →
      Sleeps X s4 H4 cenv fp [(a, o)] ev Qx a gn m s5 → Q' (.ref a) s5) :
    wpAny (model X.prog X.w) X.A (eval (.GeneratorExp elt [⟨tg, iter, [], 0⟩] scope gpos) X.env) Q' X.xe s := by
  have hfree : ∀ y ∈ scope.names, y.2 = .free → ∃ c, X.env.cells.lookup y.1 = some c := fun y hy e => by
    rcases ok.free y hy e with k | k
    · exact I.ok.has _ (.inl k)
    · exact I.ok.has _ (.inr k)
  refine wpAny_GeneratorExp_make gk.co (closure_ok hfree) gk.cell gk.dot ok.kind (by have := hr.dp; omega) ?_ hs
  refine thn (hi.run pins s σ H _ I h) fun xv s1 hx => thn hx fun itv s2 h2 => ?_
  obtain ⟨it, fp, tn, J, H2, e, I2, T, st2, f2, ⟨ps, hP, ht⟩, q2⟩ := h2
  subst e
  have hPs : s2.heap.get? P = some { cls := .none, data := .fields ps } := I2.hok P _ hP
  have cd : PySem.W.CodeHd s2.heap c P := TB.code.keeps I2.bk
  have nP : ∀ b ∈ fp, b ≠ P := fun b hb z => by
    have := (f2 b hb).1
    rw [z, hP] at this
    cases this
  have cont : ∀ (code : Value) (h3 : Heap) (tk : Nat) (ps' : Array Value), Heap.ExtBut P s2.heap h3 → s2.heap.objs.size ≤ h3.objs.size → h3.get? P = some { cls := .none, data := .fields ps' } → (∃ more, ps' = ps ++ more) → TriplesOk ps'.toList →
      wpAny (model X.prog X.w) X.A (builtinsFor X.env.globals X.env.builtins) (fun bi s₄ => ∀ (h' : Heap), (h'.Ns s₄.heap.objs.size fun y => if y = Str.ofString ".0" then some (.ref it) else none) → Heap.SameBut s₄.heap.objs.size (s₄.heap.push { cls := Value.type "frame", data := Data.dict #[] }) h' →
          Q' (Value.ref h'.objs.size) { heap := h'.push { cls := Value.type "generator", data := Data.fields #[Value.int (↑s₄.gens.size) 0, Value.str (Str.ofString "<genexpr>") (s₄.toks + 1), Value.str (X.env.qual ++ Str.ofString "<genexpr>") (s₄.toks + 1 + 1)] }, gens := s₄.gens.push (GenState.fresh (Code.compStart (elt.GeneratorExp [⟨tg, iter, [], 0⟩] scope gpos) 0 (.ref it) Value.none (genEnv scope (cloFrom X.env.cells scope.names []) s₄.heap.objs.size code bi X.env))), drawn := s₄.drawn, toks := s₄.toks + 1 + 1 + 1, os := s₄.os }) X.xe { s2 with heap := h3, toks := tk } := by
    intro code h3 tk ps' hx hsz hP3 hmore ht3
    obtain ⟨bm, ob, e1, e2, e3, e4, e5, e6, e7, e8⟩ := TB.bm
    have keep3 : ∀ b u, b ≠ P → s2.heap.get? b = some u → h3.get? b = some u := fun b u hb e => hx b u hb e
    refine wpAny_builtinsFor (m := X.mg) (by rw [I2.ok.glob]; exact (I2.mod.glob.keeps I2.bk).extBut hx TB.gP) e1 e2 (keep3 _ _ e4 (I2.bk _ _ e5)) e6 e7 e8 ?_
    intro h' hn' hs'
    obtain ⟨more, em⟩ := hmore
    have I4 := GxR.inv_tab (more := more) (h' := h3) (g' := s2.gens) (d' := s2.drawn) (t' := tk) I2 hP keep3 (by rw [← em]; exact hP3) I2.bare
    generalize hH4 : upd H2 P (.tbl (ps ++ more)) = H4 at I4
    have tb : GxR.Tabbed P H2 H4 := by
      rw [← hH4]
      exact ⟨⟨ps ++ more, upd_same, by rw [← em]; exact ht3⟩, fun b hb => upd_ne hb⟩
    obtain ⟨W, ⟨m0, w0⟩, turn⟩ := q2 H4 tb
    have f4 : ∀ b ∈ fp, FpOk X pins H4 b ∧ b < h3.objs.size := fun b hb => by
      obtain ⟨o, eo, _⟩ := T.obj _ _ st2 b hb
      refine ⟨⟨?_, (f2 b hb).2⟩, Nat.lt_of_lt_of_le (Heap.lt_size eo) hsz⟩
      rw [← hH4, upd_ne (nP b hb)]
      exact (f2 b hb).1
    have st3 : tn 0 h3 := T.keep _ _ _ st2 fun b hb o e => keep3 b o (nP b hb) e
    have hC : h'.objs.size = h3.objs.size + 1 := by rw [hs'.1, Heap.size_push]
    have kp' : ∀ b o, h3.get? b = some o → h'.get? b = some o := fun b o e => hs'.extBut b o (Nat.ne_of_lt (Heap.lt_size e)) (Heap.get?_push_of_some _ e)
    generalize hob : ({ cls := Value.type "generator", data := Data.fields #[Value.int (↑s2.gens.size) 0, Value.str (Str.ofString "<genexpr>") (tk + 1), Value.str (X.env.qual ++ Str.ofString "<genexpr>") (tk + 1 + 1)] } : Obj) = og
    have hbg : AllBare (s2.gens.push (GenState.fresh (Code.compStart (elt.GeneratorExp [⟨tg, iter, [], 0⟩] scope gpos) 0 (.ref it) Value.none (genEnv scope (cloFrom X.env.cells scope.names []) h3.objs.size code builtinsNs X.env)))) := AllBare.push I2.bare rfl
    generalize hcenv : genEnv scope (cloFrom X.env.cells scope.names []) h3.objs.size code builtinsNs X.env = cenv at hbg
    have goal := hQ h'.objs.size s2.gens.size (m0 + 1) { s2 with heap := h3, toks := tk }
      { heap := h'.push og, gens := s2.gens.push (GenState.fresh (Code.compStart (elt.GeneratorExp [⟨tg, iter, [], 0⟩] scope gpos) 0 (.ref it) Value.none cenv)), drawn := s2.drawn, toks := tk + 1 + 1 + 1, os := s2.os } H4 cenv fp og I4 (fun b hb => (f4 b hb).1)
      (fun h e => by subst hob; exact ⟨_, _, _, e, rfl, rfl, rfl⟩)
    show Q' (Value.ref h'.objs.size) _
    have hget : (h'.push og).get? h'.objs.size = some og := Heap.get?_push_size _ (by subst hob; rfl)
    have kp5 : ∀ b o, h3.get? b = some o → (h'.push og).get? b = some o := fun b o e => Heap.get?_push_of_some _ (kp' b o e)
    have I5 : Inv (gCx X { s2 with heap := h3, toks := tk } H4 cenv fp [(h'.objs.size, og)]) [] (wipe σ (own.map (·.2))) H4 { heap := h'.push og, gens := s2.gens.push (GenState.fresh (Code.compStart (elt.GeneratorExp [⟨tg, iter, [], 0⟩] scope gpos) 0 (.ref it) Value.none cenv)), drawn := s2.drawn, toks := tk + 1 + 1 + 1, os := s2.os } :=
      gen_begin (code := code) I4 ok hN gk.cell f4 hcenv.symm kp5 rfl hbg (hn'.push _) (by show h3.objs.size < h'.objs.size; omega) hget (fun v z => by subst hob; cases z)
    have hgoal := goal ⟨⟨og, _, _, hget, by subst hob; rfl, by subst hob; rfl, by subst hob; rfl⟩, I5.nolimit, hbg, _, Array.getElem?_push_size .., fun s'' wk => ⟨rfl, ?_⟩⟩
    · exact hgoal
    · have I6 := wk.inv I5
      have st6 : tn 0 s''.heap := by
        rw [wk.heap]
        exact T.keep _ _ _ st3 fun b _ o e => kp5 b o e
      have pg := hg { s2 with heap := h3, toks := tk } H4 (cloFrom X.env.cells scope.names []) h3.objs.size code fp [(h'.objs.size, og)]
      have pe := he { s2 with heap := h3, toks := tk } H4 (cloFrom X.env.cells scope.names []) h3.objs.size code fp [(h'.objs.size, og)]
      rw [hcenv] at pg pe
      refine seg_start T st6 (seg_loop (G0 := s2.gens.size + 1) hc (by rw [← hcenv]; exact gk.co) T pg pe (fun b hb p hp => ?_) turn m0 0 m0 H4 s'' s'' (Nat.le_refl _) w0 I6 st6 (fun b hb => (f4 b hb).1.1) ?_)
      · have hp : p = (h'.objs.size, og) := by simpa using hp
        subst hp
        show h'.objs.size ≠ b
        have h1 : b < h3.objs.size := (f4 b hb).2
        have h2 : h'.objs.size = h3.objs.size + 1 := hC
        exact Nat.ne_of_gt (by rw [h2]; exact Nat.lt_succ_of_lt h1)
      · have := wk.size
        simp only [Array.size_push] at this
        exact this
  refine ⟨I2.nolimit, ?_⟩
  cases hf : codeAmong gpos ps.toList with
  | none =>
    refine wpAny_genexprCodeX hcode (cd.code hPs ht) (cd.tab hPs) hf fun c' h' tk hx hge hlt hco' _ htab' _ => ?_
    obtain ⟨o1, vs, f1, tf, fl, tgg, inF, tx, tt, op, _, _, _, _, _, _, _, _, _, htr, _⟩ := hco'
    exact cont _ h' tk _ hx (Nat.le_trans hge (Nat.le_of_lt hlt)) htab'.2 ⟨_, rfl⟩ htr
  | some cv =>
    refine wpAny_genexprCode_hit hcode (cd.code hPs ht) hf ?_
    exact cont cv s2.heap s2.toks ps (Heap.ExtBut.refl _ _) (Nat.le_refl _) hPs ⟨#[], by simp⟩ ht
theorem back_to {s4 s' : Shared} {H4 H' : Hp} {σ' : St} {cenv : Env} {fp : List Addr} {pn : List (Addr × Obj)} (I4 : Inv X pins σ H4 s4) (f4 : ∀ b ∈ fp, FpOk X pins H4 b) (I : Inv (gCx X s4 H4 cenv fp pn) [] σ' H' s') : Inv X pins σ H' s' :=
  I4.call' (ch := fp) I.os I.base I.hok I.bare fun b hb => ⟨(f4 b hb).2.2.2.1, (f4 b hb).2.1, (f4 b hb).2.2.2.2.1, (f4 b hb).2.2.2.2.2⟩
theorem pe_allG {c P : Addr} {elt tg iter : Expr} {scope : Scope} {own : List (Str × Nat)} {p pos gpos : Pos} {wi : TI} {g : TG} {te : TE} {k : Nat}
    (hr : Room k X.A) (hgl : Gl X "all") (hm : X.mg "all" = none) (hb : bootBuiltins "all" = some (.builtin "all")) (TB : LamX.TabB X.base X.mg c P) (hcode : X.env.code = .ref c) (hc : X.calm = true) (hN : X.N.Nodup) (hi : PI X tg iter wi) (ok : BlkOk X.N X.env.scope scope own) (gk : GenK scope)
    (hg : ∀ (s : Shared) (H : Hp) (cl : List (Str × Addr)) (C : Addr) (code : Value) (fp : List Addr) (pn : List (Addr × Obj)), PG (gCx X s H (genEnv scope cl C code builtinsNs X.env) fp pn) tg g)
    (he : ∀ (s : Shared) (H : Hp) (cl : List (Str × Addr)) (C : Addr) (code : Value) (fp : List Addr) (pn : List (Addr × Obj)), PE (gCx X s H (genEnv scope cl C code builtinsNs X.env) fp pn) elt te)
    (hs : ∀ v, genFold iter X.env v = pure v := by intro _; rfl)
    (hst : starEach [.GeneratorExp elt [⟨tg, iter, [], 0⟩] scope gpos] X.env = (false, eval (.GeneratorExp elt [⟨tg, iter, [], 0⟩] scope gpos) X.env) :: starEach [] X.env := by rfl) :
    PE X (.Call (.Name "all" p) [.GeneratorExp elt [⟨tg, iter, [], 0⟩] scope gpos] [] pos) (tGen true P wi g te (own.map (·.2))) := by
  refine ⟨fun pins s σ H Q I h => ?_⟩
  refine wpAny_Call_Name_kw (ld_blt I hgl hm hb ?_)
  refine PyProof.Rows.callWith_builtin1 ?_ hst (by rfl)
  rw [hst]
  show wpAny _ _ (spliced ((false, eval (.GeneratorExp elt [⟨tg, iter, [], 0⟩] scope gpos) X.env) :: backTo pos (starEach [] X.env))) _ _ s
  refine Calls.spliced_cons (gen_make (ev := true) hr TB hcode hc hN hi ok gk hg he hs I h fun a gn m s4 s5 H4 cenv fp o I4 f4 hgen S => ?_)
  refine Calls.spliced_nil ?_
  refine call_function_tree F.kind_all F.plain_all F.entry_all (F.args_all1 _) ?_
  unfold Builtin.«all»
  refine wpAny_bind (m := oneArg "all" _) (wpAny_pure ?_)
  refine wpAny_bind (wpAny_pyIter_gen S.1 ?_)
  refine wpAny_pure ⟨plainId_quiet F.plain_all_loop _, all_loop (St := Sleeps X s4 H4 cenv fp [(a, o)] true _ a gn) (fun m s S => ?_) m s5 S⟩
  refine wpAny_mono (sleeps_next hr.hd hr.depth rfl hgen S) (fun r s' hr => ?_) fun _ _ z => z
  cases r with
  | none =>
    obtain ⟨σ', H', J, q⟩ := hr
    exact ⟨.bl true, H', back_to I4 f4 J, rfl, q⟩
  | some v =>
    obtain ⟨b, hv, hb⟩ := hr
    refine ⟨b, hv, ?_⟩
    by_cases hbt : b = true
    · rw [if_pos hbt] at hb ⊢
      exact hb
    · rw [if_neg hbt] at hb ⊢
      obtain ⟨σ', H', J, q⟩ := hb
      exact ⟨.bl b, H', back_to I4 f4 J, rfl, q⟩
end
end GA
namespace DN
open PySem PySem.Spec PyProof.Rows L2
abbrev St := L2.St
mutual
inductive Dp (K : PySem.W.Frag) (H : Hp) : V → PyData → Prop
  | non : Dp K H .non .none
  | bl (b : Bool) : Dp K H (.bl b) (.bool b)
  | int (i : Int) : Dp K H (.int i) (.int i)
  | str (x : Str) : Dp K H (.str x) (.str x)
  | lst {a : Addr} {xs : List V} {ds : List PyData} : SqL K H a xs → DpAll K H xs ds → Dp K H (.ref a) (.list ds)
  | tup {a : Addr} {xs : List V} {ds : List PyData} : SqT K H a xs → DpAll K H xs ds → Dp K H (.ref a) (.tuple ds)
  | dct {a : Addr} : H a = some (.dK []) → Dp K H (.ref a) (.dict [])
inductive DpAll (K : PySem.W.Frag) (H : Hp) : List V → List PyData → Prop
  | nil : DpAll K H [] []
  | cons {v : V} {vs : List V} {d : PyData} {ds : List PyData} : Dp K H v d → DpAll K H vs ds → DpAll K H (v :: vs) (d :: ds)
end
mutual
theorem Dp.toC {K : PySem.W.Frag} {H : Hp} : ∀ {v : V} {d : PyData}, Dp K H v d → PyData.canLay0 d = true → L2.Dp K H v d
  | _, _, .non, _ => .non
  | _, _, .bl b, _ => .bl b
  | _, _, .int i, _ => .int i
  | _, _, .str s, _ => .str s
  | _, _, .lst s a, h => .lst s (DpAll.toC a (by unfold PyData.canLay0 at h; exact h))
  | _, _, .tup s a, h => .tup s (DpAll.toC a (by unfold PyData.canLay0 at h; exact h))
  | _, _, .dct _, h => by unfold PyData.canLay0 at h; cases h
theorem DpAll.toC {K : PySem.W.Frag} {H : Hp} : ∀ {vs : List V} {ds : List PyData}, DpAll K H vs ds → PyData.canLayAll0 ds = true → L2.DpAll K H vs ds
  | _, _, .nil, _ => .nil
  | _, _, .cons h t, c => by
    unfold PyData.canLayAll0 at c
    rw [Bool.and_eq_true] at c
    exact .cons (Dp.toC h c.1) (DpAll.toC t c.2)
end
theorem Dp.toL {K : PySem.W.Frag} {H : Hp} {v : V} {d : PyData} (h : Dp K H v d) (s : SeqAt.shaped d = true) : L2.Dp K H v d := h.toC (SeqAt.canLay_of_shaped s)
def hide (H : Hp) (O : List Addr) : Hp := fun b => if b ∈ O then none else H b
theorem hide_some {H : Hp} {O : List Addr} {b : Addr} {o : HO} (h : hide H O b = some o) : b ∉ O ∧ H b = some o := by
  unfold hide at h
  split at h
  · cases h
  · exact ⟨by assumption, h⟩
theorem hide_of {H : Hp} {O : List Addr} {b : Addr} {o : HO} (n : b ∉ O) (h : H b = some o) : hide H O b = some o := by
  unfold hide
  rw [if_neg n]
  exact h
def Xt (H H' : Hp) : Prop := ∀ b o, H b = some o → H' b = some o ∨ ∃ ps qs, o = .tbl ps ∧ H' b = some (.tbl qs)
theorem Xt.get {H H' : Hp} (x : Xt H H') : ∀ b o, H b = some o → (∀ ps, o ≠ .tbl ps) → H' b = some o := fun b o h n => (x b o h).elim id fun ⟨ps, _, e, _⟩ => absurd e (n ps)
theorem Xt.refl (H : Hp) : Xt H H := fun _ _ h => .inl h
theorem Xt.trans {H H1 H2 : Hp} (a : Xt H H1) (b : Xt H1 H2) : Xt H H2 := fun c o h => by
  rcases a c o h with e | ⟨ps, qs, e, e1⟩
  · exact b c o e
  · rcases b c _ e1 with e2 | ⟨ps', qs', _, e2⟩
    · exact .inr ⟨ps, qs, e, e2⟩
    · exact .inr ⟨ps, qs', e, e2⟩
theorem Xt.upd {H : Hp} {p : Addr} {o : HO} (h : H p = none) : Xt H (upd H p o) := fun b u e => by
  rw [upd_ne (ne_of_none e h)]
  exact .inl e
theorem Xt.there {H H' : Hp} (x : Xt H H') {b : Addr} (h : H' b = none) : H b = none := by
  cases e : H b with
  | none => rfl
  | some o =>
    rcases x b o e with q | ⟨_, _, _, q⟩ <;> rw [h] at q <;> cases q
structure TsT where
  gs : List Addr
  ls : List (Addr × Str)
def Tb (Ts : TsT) (H : Hp) : Prop := (∀ P ∈ Ts.gs, GxR.TabG H P) ∧ (∀ P ∈ Ts.ls, LamX.TabS H P.1 P.2) ∧ ∀ P ∈ Ts.ls, P.1 ∉ Ts.gs ∧ ∀ Q ∈ Ts.ls, Q.1 = P.1 → Q = P
theorem Tb.upd {Ts : TsT} {H : Hp} {p : Addr} {o : HO} (t : Tb Ts H) (h : ∀ u, H p = some u → (∀ ps, u ≠ .tbl ps) ∧ ∀ c q, u ≠ LamX.CodeO c q) : Tb Ts (upd H p o) := by
  obtain ⟨t1, t2, t3⟩ := t
  refine ⟨fun P hP => ?_, fun P hP => ?_, t3⟩
  · obtain ⟨ps, e, q⟩ := t1 P hP
    refine ⟨ps, ?_, q⟩
    rw [upd_ne (fun z => (h _ (by rw [← z]; exact e)).1 ps rfl)]
    exact e
  · obtain ⟨ps, e, q, r⟩ := t2 P hP
    refine ⟨ps, ?_, q, fun pos cv hc => ?_⟩
    · rw [upd_ne (fun z => (h _ (by rw [← z]; exact e)).1 ps rfl)]
      exact e
    · obtain ⟨c, e1, e2⟩ := r pos cv hc
      refine ⟨c, e1, ?_⟩
      rw [upd_ne (fun z => (h _ (by rw [← z]; exact e2)).2 c P.2 rfl)]
      exact e2
theorem lst_noc {xs : List V} : (∀ ps, HO.lst xs ≠ .tbl ps) ∧ ∀ c q, HO.lst xs ≠ LamX.CodeO c q := ⟨(fun _ z => nomatch z), fun c q (z : HO.lst xs = LamX.CodeO c q) => by unfold LamX.CodeO at z; cases z⟩
theorem Tb.kept {Ts : TsT} {H H' : Hp} (t : Tb Ts H) (k : ∀ b o, H b = some o → H' b = some o) : Tb Ts H' :=
  ⟨fun P hP => let ⟨ps, e, q⟩ := t.1 P hP; ⟨ps, k _ _ e, q⟩, fun P hP => (t.2.1 P hP).ext k, t.2.2⟩
theorem Tb.new {Ts : TsT} {H : Hp} {p : Addr} {o : HO} (t : Tb Ts H) (h : H p = none) : Tb Ts (L2.upd H p o) := t.upd fun u z => by rw [h] at z; cases z
theorem sqL_mono {K : PySem.W.Frag} {H H' : Hp} {a : Addr} {xs : List V} (h : ∀ o, (∀ ps, o ≠ .tbl ps) → H a = some o → H' a = some o) (s : SqL K H a xs) : SqL K H' a xs := by
  rcases s with (e | ⟨o, e⟩) | e
  · exact .inl (.inl (h _ (fun _ z => nomatch z) e))
  · exact .inl (.inr ⟨o, h _ (fun _ z => nomatch z) e⟩)
  · exact .inr e
theorem sqT_mono {K : PySem.W.Frag} {H H' : Hp} {a : Addr} {xs : List V} (h : ∀ o, (∀ ps, o ≠ .tbl ps) → H a = some o → H' a = some o) (s : SqT K H a xs) : SqT K H' a xs := by
  rcases s with (e | ⟨o, e⟩) | e
  · exact .inl (.inl (h _ (fun _ z => nomatch z) e))
  · exact .inl (.inr ⟨o, h _ (fun _ z => nomatch z) e⟩)
  · exact .inr e
mutual
theorem Dp.mono {K : PySem.W.Frag} {H H' : Hp} (x : Xt H H') : ∀ {v : V} {d : PyData}, Dp K H v d → Dp K H' v d
  | _, _, .non => .non
  | _, _, .bl b => .bl b
  | _, _, .int i => .int i
  | _, _, .str s => .str s
  | _, _, .lst s a => .lst (sqL_mono (fun o n e => x.get _ o e n) s) (DpAll.mono x a)
  | _, _, .tup s a => .tup (sqT_mono (fun o n e => x.get _ o e n) s) (DpAll.mono x a)
  | _, _, .dct e => .dct (x.get _ _ e (fun _ z => nomatch z))
theorem DpAll.mono {K : PySem.W.Frag} {H H' : Hp} (x : Xt H H') : ∀ {vs : List V} {ds : List PyData}, DpAll K H vs ds → DpAll K H' vs ds
  | _, _, .nil => .nil
  | _, _, .cons h t => .cons (Dp.mono x h) (DpAll.mono x t)
end
theorem hide_mono {H H' : Hp} {O : List Addr} (x : Xt H H') : Xt (hide H O) (hide H' O) := fun b o h => by
  obtain ⟨h1, h2⟩ := hide_some h
  rcases x b o h2 with e | ⟨ps, qs, e, e1⟩
  · exact .inl (hide_of h1 e)
  · exact .inr ⟨ps, qs, e, hide_of h1 e1⟩
theorem hide_sub {H : Hp} {O O' : List Addr} (s : ∀ b ∈ O', b ∈ O) : Xt (hide H O) (hide H O') := fun b o h => by
  obtain ⟨h1, h2⟩ := hide_some h
  exact .inl (hide_of (fun z => h1 (s b z)) h2)
theorem hide_out {H : Hp} {O : List Addr} : Xt (hide H O) H := fun b o h => .inl (hide_some h).2
theorem hide_upd {H : Hp} {O : List Addr} {a : Addr} {o : HO} (h : a ∈ O) : Xt (hide H O) (hide (upd H a o) O) := fun b u e => by
  obtain ⟨h1, h2⟩ := hide_some e
  exact .inl <| hide_of h1 (by rw [upd_ne (fun z => h1 (by rw [z]; exact h))]; exact h2)
theorem DpAll.len {K : PySem.W.Frag} {H : Hp} : ∀ {vs : List V} {ds : List PyData}, DpAll K H vs ds → vs.length = ds.length
  | _, _, .nil => rfl
  | _, _, .cons _ t => by rw [List.length_cons, List.length_cons, DpAll.len t]
theorem DpAll.get {K : PySem.W.Frag} {H : Hp} : ∀ {vs : List V} {ds : List PyData} {i : Nat} {v : V}, DpAll K H vs ds → vs[i]? = some v → ∃ d, ds[i]? = some d ∧ Dp K H v d
  | _, _, _, _, .nil, e => by simp at e
  | _, _, 0, _, .cons h _, e => by simp at e; subst e; exact ⟨_, rfl, h⟩
  | _, _, i + 1, v, .cons _ t, e => by
    obtain ⟨d, h1, h2⟩ := DpAll.get (i := i) (v := v) t (by simpa using e)
    exact ⟨d, by simpa using h1, h2⟩
theorem DpAll.get' {K : PySem.W.Frag} {H : Hp} : ∀ {vs : List V} {ds : List PyData} {i : Nat} {d : PyData}, DpAll K H vs ds → ds[i]? = some d → ∃ v, vs[i]? = some v ∧ Dp K H v d
  | _, _, _, _, .nil, e => by simp at e
  | _, _, 0, _, .cons h _, e => by simp at e; subst e; exact ⟨_, rfl, h⟩
  | _, _, i + 1, v, .cons _ t, e => by
    obtain ⟨d, h1, h2⟩ := DpAll.get' (i := i) t (by simpa using e)
    exact ⟨d, by simpa using h1, h2⟩
theorem DpAll.app {K : PySem.W.Frag} {H : Hp} : ∀ {vs ws : List V} {ds es : List PyData}, DpAll K H vs ds → DpAll K H ws es → DpAll K H (vs ++ ws) (ds ++ es)
  | _, _, _, _, .nil, s => s
  | _, _, _, _, .cons h t, s => .cons h (DpAll.app t s)
theorem DpAll.drop {K : PySem.W.Frag} {H : Hp} : ∀ {vs : List V} {ds : List PyData} (n : Nat), DpAll K H vs ds → DpAll K H (vs.drop n) (ds.drop n)
  | _, _, 0, r => r
  | _, _, _ + 1, .nil => .nil
  | _, _, n + 1, .cons _ t => DpAll.drop n t
theorem DpAll.take {K : PySem.W.Frag} {H : Hp} : ∀ {vs : List V} {ds : List PyData} (n : Nat), DpAll K H vs ds → DpAll K H (vs.take n) (ds.take n)
  | _, _, 0, _ => .nil
  | _, _, _ + 1, .nil => .nil
  | _, _, n + 1, .cons h t => .cons h (DpAll.take n t)
theorem DpAll.ints {K : PySem.W.Frag} {H : Hp} : ∀ {vs : List V} {ns : List Int}, DpAll K H vs (ns.map .int) → vs = ns.map V.int
  | _, [], .nil => rfl
  | _, n :: ns, .cons h t => by
    cases h
    rw [DpAll.ints t]
    rfl
theorem DpAll.of_ints {K : PySem.W.Frag} {H : Hp} : ∀ (ns : List Int), DpAll K H (ns.map V.int) (ns.map .int)
  | [] => .nil
  | n :: ns => .cons (.int n) (DpAll.of_ints ns)
inductive Slot where
  | no | dat (d : PyData) | own (ds : List PyData)
abbrev En := List Slot
structure Rep (K : PySem.W.Frag) (Ts : TsT) (He : Hp) (O : List Addr) (σ : St) (H : Hp) (en : En) : Prop where
  len : en.length = σ.length
  dat : ∀ (i : Nat) (d : PyData), en[i]? = some (Slot.dat d) → ∃ v, σ[i]? = some (some v) ∧ Dp K (hide H O) v d
  own : ∀ (i : Nat) (ds : List PyData), en[i]? = some (Slot.own ds) → ∃ a vs, σ[i]? = some (some (V.ref a)) ∧ a ∈ O ∧ He a = none ∧ H a = some (.lst vs) ∧ DpAll K (hide H O) vs ds
  inj : ∀ (i j : Nat) (ds es : List PyData) (a : Addr), en[i]? = some (Slot.own ds) → en[j]? = some (Slot.own es) → σ[i]? = some (some (V.ref a)) → σ[j]? = some (some (V.ref a)) → i = j
  occ : ∀ b ∈ O, H b ≠ none ∧ ∀ ps, H b ≠ some (.tbl ps)
  ext : Xt He H
  tabs : Tb Ts H
section
variable {K : PySem.W.Frag} {Ts : TsT} {He : Hp} {O : List Addr} {σ : St} {H H' : Hp} {en : En}
theorem Rep.go (r : Rep K Ts He O σ H en) (x : Xt H H') (t : Tb Ts H') : Rep K Ts He O σ H' en :=
  ⟨r.len, fun i d e => let ⟨v, a, b⟩ := r.dat i d e; ⟨v, a, Dp.mono (hide_mono x) b⟩,
    fun i ds e => let ⟨a, vs, h1, h2, h3, h4, h5⟩ := r.own i ds e; ⟨a, vs, h1, h2, h3, x.get a _ h4 (fun _ z => nomatch z), DpAll.mono (hide_mono x) h5⟩,
    r.inj, fun b hb => by
      obtain ⟨h1, h2⟩ := r.occ b hb
      cases e : H b with
      | none => exact absurd e h1
      | some o =>
        have q := x.get b o e fun ps z => h2 ps (by rw [e, z])
        rw [q]
        exact ⟨by simp, fun ps z => h2 ps (by rw [e]; exact z)⟩, r.ext.trans x, t⟩
theorem Rep.hid (r : Rep K Ts He O σ H en) {D : Addr} (hD : H D = none) {o : HO} (no : ∀ ps, o ≠ .tbl ps) : Rep K Ts He (D :: O) σ (upd H D o) en := by
  have x : Xt H (upd H D o) := Xt.upd hD
  have nD : ∀ b u, H b = some u → b ≠ D := fun b u e => ne_of_none e hD
  have hx : Xt (hide H O) (hide (upd H D o) (D :: O)) := fun b u e => by
    obtain ⟨h1, h2⟩ := hide_some e
    refine .inl (hide_of (fun z => ?_) (by rw [upd_ne (nD b u h2)]; exact h2))
    rcases List.mem_cons.mp z with z | z
    · exact nD b u h2 z
    · exact h1 z
  refine ⟨r.len, fun i d e => let ⟨v, a, b⟩ := r.dat i d e; ⟨v, a, Dp.mono hx b⟩,
    fun i ds e => let ⟨a, vs, h1, h2, h3, h4, h5⟩ := r.own i ds e; ⟨a, vs, h1, List.mem_cons_of_mem _ h2, h3, x.get a _ h4 (fun _ z => nomatch z), DpAll.mono hx h5⟩,
    r.inj, fun b hb => ?_, r.ext.trans x, r.tabs.new hD⟩
  rcases List.mem_cons.mp hb with z | z
  · subst z
    rw [upd_same]
    exact ⟨by simp, fun ps z => no ps (Option.some.inj z)⟩
  · have hne : b ≠ D := fun e => (r.occ b z).1 (by rw [e]; exact hD)
    rw [upd_ne hne]
    exact r.occ b z
end
def tD (K : PySem.W.Frag) (Ts : TsT) (f : En → Option PyData) : TE := fun σ H Q => ∃ He O en d, Rep K Ts He O σ H en ∧ f en = some d ∧ ∀ v H', Xt H H' → Tb Ts H' → Dp K (hide H' O) v d → Q v H'
def DpB (K : PySem.W.Frag) (H : Hp) (O : List Addr) (v : V) (d : PyData) : Prop := Dp K (hide H O) v d ∨ ∃ a vs ds, v = .ref a ∧ d = .list ds ∧ H a = some (.lst vs) ∧ DpAll K (hide H O) vs ds
def tB (K : PySem.W.Frag) (Ts : TsT) (f : En → Option PyData) : TE := fun σ H Q => ∃ He O en d, Rep K Ts He O σ H en ∧ f en = some d ∧ ∀ v H', Xt H H' → Tb Ts H' → DpB K H' O v d → Q v H'
def tDs (K : PySem.W.Frag) (Ts : TsT) (f : En → Option (List PyData)) : TA := fun σ H Q => ∃ He O en ds, Rep K Ts He O σ H en ∧ f en = some ds ∧ ∀ vs H', Xt H H' → Tb Ts H' → DpAll K (hide H' O) vs ds → Q vs H'
def tT (K : PySem.W.Frag) (Ts : TsT) (f : En → Option Bool) : TT := fun σ H Q => ∃ He O en b, Rep K Ts He O σ H en ∧ f en = some b ∧ ∀ H', Xt H H' → Tb Ts H' → Q b H'
abbrev DE (X : Cx) (Ts : TsT) (e : Expr) (f : En → Option PyData) : Prop := PE X e (tD X.K Ts f)
abbrev DB (X : Cx) (Ts : TsT) (e : Expr) (f : En → Option PyData) : Prop := PE X e (tB X.K Ts f)
abbrev DA (X : Cx) (Ts : TsT) (es : List Expr) (f : En → Option (List PyData)) : Prop := PA X es (tDs X.K Ts f)
abbrev DT (X : Cx) (Ts : TsT) (e : Expr) (f : En → Option Bool) : Prop := PT X e (tT X.K Ts f)
abbrev DW (X : Cx) (Ts : TsT) (e : Expr) (f : En → Option Bool) : Prop := PW X e (tT X.K Ts f)
theorem PE.imp {X : Cx} {e : Expr} {t t' : TE} (h : PE X e t) (w : ∀ σ H Q, t' σ H Q → t σ H Q) : PE X e t' := ⟨fun pins s σ H Q I q => h.run pins s σ H Q I (w σ H Q q)⟩
theorem PT.imp {X : Cx} {e : Expr} {t t' : TT} (h : PT X e t) (w : ∀ σ H Q, t' σ H Q → t σ H Q) : PT X e t' := ⟨fun pins s σ H Q I q => h.run pins s σ H Q I (w σ H Q q)⟩
theorem PW.imp {X : Cx} {e : Expr} {t t' : TT} (h : PW X e t) (w : ∀ σ H Q, t' σ H Q → t σ H Q) : PW X e t' := ⟨fun wh pins s σ H Q I q => h.run wh pins s σ H Q I (w σ H Q q)⟩
theorem PA.imp {X : Cx} {es : List Expr} {t t' : TA} (h : PA X es t) (w : ∀ σ H Q, t' σ H Q → t σ H Q) : PA X es t' := ⟨fun pos pins s σ H Q I q => h.run pos pins s σ H Q I (w σ H Q q)⟩
theorem PS.imp {X : Cx} {st : Stmt} {t t' : TS} (h : PS X st t) (w : ∀ D σ H, t' D σ H → t D σ H) : PS X st t' := ⟨fun pins s σ H D I q => h.run pins s σ H D I (w D σ H q)⟩
theorem PSs.imp {X : Cx} {st : List Stmt} {t t' : TS} (h : PSs X st t) (w : ∀ D σ H, t' D σ H → t D σ H) : PSs X st t' := ⟨fun pins s σ H D I q => h.run pins s σ H D I (w D σ H q)⟩
section
variable {K : PySem.W.Frag} {Ts : TsT} {He : Hp} {O : List Addr} {σ : St} {H : Hp} {en : En} {f : En → Option PyData} {d : PyData}
theorem tD.of (r : Rep K Ts He O σ H en) (hf : f en = some d) {Q : VK} (h : ∀ v H', Xt H H' → Rep K Ts He O σ H' en → Dp K (hide H' O) v d → Q v H') : tD K Ts f σ H Q :=
  ⟨He, O, en, d, r, hf, fun v H' x t q => h v H' x (r.go x t) q⟩
theorem tB.of (r : Rep K Ts He O σ H en) (hf : f en = some d) {Q : VK} (h : ∀ v H', Xt H H' → Rep K Ts He O σ H' en → DpB K H' O v d → Q v H') : tB K Ts f σ H Q :=
  ⟨He, O, en, d, r, hf, fun v H' x t q => h v H' x (r.go x t) q⟩
theorem tDs.of {f : En → Option (List PyData)} {ds : List PyData} (r : Rep K Ts He O σ H en) (hf : f en = some ds) {Q : List V → Hp → Prop} (h : ∀ v H', Xt H H' → Rep K Ts He O σ H' en → DpAll K (hide H' O) v ds → Q v H') : tDs K Ts f σ H Q :=
  ⟨He, O, en, ds, r, hf, fun v H' x t q => h v H' x (r.go x t) q⟩
theorem tT.of {f : En → Option Bool} {b : Bool} (r : Rep K Ts He O σ H en) (hf : f en = some b) {Q : Bool → Hp → Prop} (h : ∀ H', Xt H H' → Rep K Ts He O σ H' en → Q b H') : tT K Ts f σ H Q :=
  ⟨He, O, en, b, r, hf, fun H' x t => h H' x (r.go x t)⟩
end
def fVar (i : Nat) : En → Option PyData := fun en => match en[i]? with
  | some (Slot.dat d) => some d
  | _ => none
def fOwn (i : Nat) : En → Option PyData := fun en => match en[i]? with
  | some (Slot.own ds) => some (.list ds)
  | some (Slot.dat d) => some d
  | _ => none
def fLit (d : PyData) : En → Option PyData := fun _ => some d
section
variable {X : Cx} {Ts : TsT} {pos : Pos}
theorem d_var (i : Nat) {x : Str} (hN : X.N[i]? = some x := by rfl) (hv : Vis X.env.scope x := by first | exact Or.inl rfl | exact Or.inr (Or.inl rfl) | exact Or.inr (Or.inr rfl)) (hd : (x == ("__debug__" : Str)) = false := by decide)
    (hcd : (x == ("__classdict__" : Str)) = false := by decide) : DE X Ts (.Name x pos) (fVar i) := PE.imp (pe_var hN hv hd hcd) fun σ H Q ⟨He, O, en, d, r, hf, k⟩ => by
  unfold fVar at hf
  split at hf
  · rename_i d' e
    cases hf
    obtain ⟨v, h1, h2⟩ := r.dat i _ e
    exact ⟨v, h1, k v H (Xt.refl H) r.tabs h2⟩
  · cases hf
theorem b_own (i : Nat) {x : Str} (hN : X.N[i]? = some x := by rfl) (hv : Vis X.env.scope x := by first | exact Or.inl rfl | exact Or.inr (Or.inl rfl) | exact Or.inr (Or.inr rfl)) (hd : (x == ("__debug__" : Str)) = false := by decide)
    (hcd : (x == ("__classdict__" : Str)) = false := by decide) : DB X Ts (.Name x pos) (fOwn i) := PE.imp (pe_var hN hv hd hcd) fun σ H Q ⟨He, O, en, d, r, hf, k⟩ => by
  unfold fOwn at hf
  split at hf
  · rename_i ds e
    cases hf
    obtain ⟨a, vs, h1, h2, h3, h4, h5⟩ := r.own i _ e
    exact ⟨.ref a, h1, k _ H (Xt.refl H) r.tabs (.inr ⟨a, vs, ds, rfl, rfl, h4, h5⟩)⟩
  · rename_i d' e
    cases hf
    obtain ⟨v, h1, h2⟩ := r.dat i _ e
    exact ⟨v, h1, k v H (Xt.refl H) r.tabs (.inl h2)⟩
  · cases hf
theorem d_b {e : Expr} {f : En → Option PyData} (h : DE X Ts e f) : DB X Ts e f := PE.imp h fun σ H Q ⟨He, O, en, d, r, hf, k⟩ => ⟨He, O, en, d, r, hf, fun v H' x t q => k v H' x t (.inl q)⟩
theorem d_int {i j} : DE X Ts (.Constant (.int i) j pos) (fLit (.int i)) := PE.imp pe_int fun σ H Q ⟨He, O, en, d, r, hf, k⟩ => by cases hf; exact k _ H (Xt.refl H) r.tabs (.int i)
theorem d_bl {b j} : DE X Ts (.Constant (.bool b) j pos) (fLit (.bool b)) := PE.imp pe_bl fun σ H Q ⟨He, O, en, d, r, hf, k⟩ => by cases hf; exact k _ H (Xt.refl H) r.tabs (.bl b)
theorem d_glob {x : Str} {i : Int} {t : Tok} (hg : Gl X x) (hm : X.mg x = some (.int i t)) (hd : (x == ("__debug__" : Str)) = false := by decide) : DE X Ts (.Name x pos) (fLit (.int i)) :=
  PE.imp (pe_glob (v := .int i) hg hm ⟨t, rfl⟩ hd) fun σ H Q ⟨He, O, en, d, r, hf, k⟩ => by cases hf; exact k _ H (Xt.refl H) r.tabs (.int i)
end
def f2 (g : PyData → PyData → Option PyData) (f1 f2 : En → Option PyData) : En → Option PyData := fun en => (f1 en).bind fun x => (f2 en).bind fun y => g x y
def f1 (g : PyData → Option PyData) (f : En → Option PyData) : En → Option PyData := fun en => (f en).bind g
def gI (g : Int → Int → PyData) : PyData → PyData → Option PyData
  | .int i, .int j => some (g i j)
  | _, _ => none
def gIc (c : Int → Int → Bool) (g : Int → Int → PyData) : PyData → PyData → Option PyData
  | .int i, .int j => if c i j = true then some (g i j) else none
  | _, _ => none
section
variable {X : Cx} {Ts : TsT} {pos : Pos} {a b : Expr} {fa fb : En → Option PyData}
theorem f2_some {g : PyData → PyData → Option PyData} {p q : En → Option PyData} {en : En} {d : PyData} (h : f2 g p q en = some d) : ∃ x y, p en = some x ∧ q en = some y ∧ g x y = some d := by
  unfold f2 at h
  obtain ⟨x, h1, h⟩ := Option.bind_eq_some_iff.mp h
  obtain ⟨y, h2, h⟩ := Option.bind_eq_some_iff.mp h
  exact ⟨x, y, h1, h2, h⟩
theorem f1_some {g : PyData → Option PyData} {p : En → Option PyData} {en : En} {d : PyData} (h : f1 g p en = some d) : ∃ x, p en = some x ∧ g x = some d := Option.bind_eq_some_iff.mp h
theorem w_2 {r : R2} {g : PyData → PyData → Option PyData} {K : PySem.W.Frag}
    (k : ∀ x y v w d H O Q, g x y = some d → Dp K (hide H O) v x → Dp K (hide H O) w y → Tb Ts H → (∀ b ∈ O, H b ≠ none) → (∀ u H', Xt H H' → Tb Ts H' → Dp K (hide H' O) u d → Q u H') → r v w H Q) :
    ∀ σ H Q, tD K Ts (f2 g fa fb) σ H Q → tOp r (tD K Ts fa) (tD K Ts fb) σ H Q :=
  fun σ H Q ⟨He, O, en, d, rp, hf, kk⟩ => by
    obtain ⟨x, y, h1, h2, hg⟩ := f2_some hf
    refine tD.of rp h1 fun v H1 x1 r1 q1 => tD.of r1 h2 fun w H2 x2 r2 q2 => ?_
    exact k x y v w d H2 O Q hg (Dp.mono (hide_mono x2) q1) q2 r2.tabs (fun b hb => (r2.occ b hb).1) fun u H' x3 t3 q3 => kk u H' (x1.trans (x2.trans x3)) t3 q3
theorem w_i {C : Int → Int → Prop} {c : Int → Int → Bool} {g : Int → Int → PyData} {gv : Int → Int → V} {K : PySem.W.Frag} (hC : ∀ i j, c i j = true → C i j) (hv : ∀ i j K H, Dp K H (gv i j) (g i j)) :
    ∀ σ H Q, tD K Ts (f2 (gIc c g) fa fb) σ H Q → tOp (rI C gv) (tD K Ts fa) (tD K Ts fb) σ H Q :=
  w_2 fun x y v w d H O Q hg q1 q2 ht _ kk => by
    cases q1 <;> cases q2 <;> simp only [gIc] at hg <;> try cases hg
    rename_i i j
    split at hg
    · rename_i hc
      cases hg
      exact ⟨i, j, rfl, rfl, hC i j hc, kk _ H (Xt.refl H) ht (hv ..)⟩
    · cases hg
theorem w_i0 {g : Int → Int → PyData} {gv : Int → Int → V} {K : PySem.W.Frag} (hv : ∀ i j K H, Dp K H (gv i j) (g i j)) :
    ∀ σ H Q, tD K Ts (f2 (gI g) fa fb) σ H Q → tOp (rI0 gv) (tD K Ts fa) (tD K Ts fb) σ H Q :=
  w_2 fun x y v w d H O Q hg q1 q2 ht _ kk => by
    cases q1 <;> cases q2 <;> simp only [gI] at hg <;> try cases hg
    rename_i i j
    exact ⟨i, j, rfl, rfl, kk _ H (Xt.refl H) ht (hv ..)⟩
theorem d_i {e : Expr} {C : Int → Int → Prop} {c : Int → Int → Bool} {g : Int → Int → PyData} {gv : Int → Int → V} (hC : ∀ i j, c i j = true → C i j) (hv : ∀ i j K H, Dp K H (gv i j) (g i j))
    (h : PE X e (tOp (rI C gv) (tD X.K Ts fa) (tD X.K Ts fb))) : DE X Ts e (f2 (gIc c g) fa fb) := PE.imp h (w_i hC hv)
theorem d_i0 {e : Expr} {g : Int → Int → PyData} {gv : Int → Int → V} (hv : ∀ i j K H, Dp K H (gv i j) (g i j)) (h : PE X e (tOp (rI0 gv) (tD X.K Ts fa) (tD X.K Ts fb))) : DE X Ts e (f2 (gI g) fa fb) := PE.imp h (w_i0 hv)
def fSub := f2 (gI fun i j => .int (i - j))
theorem d_sub (ha : DE X Ts a fa) (hb : DE X Ts b fb) : DE X Ts (.BinOp a .Sub b pos) (fSub fa fb) := d_i0 (fun _ _ _ _ => .int _) (pe_op op_sub ha hb)
def cMul (i j : Int) : Bool := decide (i.natAbs.log2 + j.natAbs.log2 < 1000000)
def fMul := f2 (gIc cMul fun i j => .int (i * j))
theorem d_mul (ha : DE X Ts a fa) (hb : DE X Ts b fb) : DE X Ts (.BinOp a .Mult b pos) (fMul fa fb) := d_i (fun i j h => show CMulW i j from @of_decide_eq_true (i.natAbs.log2 + j.natAbs.log2 < 1000000) _ h) (fun _ _ _ _ => .int _) (pe_op op_mulW ha hb)
def cDiv (_ j : Int) : Bool := decide (0 < j ∧ j.natAbs.log2 < 9000)
def fDiv := f2 (gIc cDiv fun i j => .int (i / j))
theorem d_div (ha : DE X Ts a fa) (hb : DE X Ts b fb) : DE X Ts (.BinOp a .FloorDiv b pos) (fDiv fa fb) := d_i (fun i j h => show CDivW i j from @of_decide_eq_true (0 < j ∧ j.natAbs.log2 < 9000) _ h) (fun _ _ _ _ => .int _) (pe_op op_fdivW ha hb)
def cMod (_ j : Int) : Bool := decide (j ≠ 0)
def fMod := f2 (gIc cMod fun i j => .int (i.fmod j))
theorem d_mod (ha : DE X Ts a fa) (hb : DE X Ts b fb) : DE X Ts (.BinOp a .Mod b pos) (fMod fa fb) := d_i (fun i j h => of_decide_eq_true (show decide (j ≠ 0) = true from h)) (fun _ _ _ _ => .int _) (pe_op op_modN ha hb)
def gNeg : PyData → Option PyData
  | .int i => some (.int (-i))
  | _ => none
def fNeg := f1 gNeg
theorem d_neg (ha : DE X Ts a fa) : DE X Ts (.UnaryOp .USub a pos) (fNeg fa) := PE.imp (pe_un un_neg ha) fun σ H Q ⟨He, O, en, d, r, hf, k⟩ => by
  obtain ⟨x, h1, h2⟩ := f1_some hf
  refine tD.of r h1 fun v H1 x1 r1 q1 => ?_
  cases q1 <;> simp only [gNeg] at h2 <;> try cases h2
  exact ⟨_, rfl, k _ H1 x1 r1.tabs (.int _)⟩
def fLt := f2 (gI fun i j => .bool (decide (i < j)))
def fGt := f2 (gI fun i j => .bool (decide (j < i)))
def fGe := f2 (gI fun i j => .bool (decide (j ≤ i)))
theorem d_lt (ha : DE X Ts a fa) (hb : DE X Ts b fb) : DE X Ts (.Compare a [.Lt] [b] pos) (fLt fa fb) := d_i0 (fun _ _ _ _ => .bl _) (pe_cmpR op_lt ha hb (nomark _))
theorem d_gt (ha : DE X Ts a fa) (hb : DE X Ts b fb) : DE X Ts (.Compare a [.Gt] [b] pos) (fGt fa fb) := d_i0 (fun _ _ _ _ => .bl _) (pe_cmpR op_gt ha hb (nomark _))
theorem d_ge (ha : DE X Ts a fa) (hb : DE X Ts b fb) : DE X Ts (.Compare a [.GtE] [b] pos) (fGe fa fb) := d_i0 (fun _ _ _ _ => .bl _) (pe_cmpR op_ge ha hb (nomark _))
def gEq : PyData → PyData → Option PyData := fun x y => if (SeqAt.shaped x && SeqAt.shaped y) = true then some (.bool (PyData.eqv x y)) else none
def gNe : PyData → PyData → Option PyData := fun x y => if (SeqAt.shaped x && SeqAt.shaped y) = true then some (.bool (!PyData.eqv x y)) else none
def fEq := f2 gEq
def fNe := f2 gNe
theorem w_eq {K : PySem.W.Frag} : ∀ σ H Q, tD K Ts (fEq fa fb) σ H Q → tOp (rEqD K) (tD K Ts fa) (tD K Ts fb) σ H Q :=
  w_2 fun x y v w d H O Q hg q1 q2 ht _ kk => by
    unfold gEq at hg
    split at hg
    · rename_i hs
      rw [Bool.and_eq_true] at hs
      cases hg
      exact ⟨x, y, (Dp.mono hide_out q1).toL hs.1, (Dp.mono hide_out q2).toL hs.2, hs.1, hs.2, kk _ H (Xt.refl H) ht (.bl _)⟩
    · cases hg
theorem w_ne {K : PySem.W.Frag} : ∀ σ H Q, tD K Ts (fNe fa fb) σ H Q → tOp (rNeD K) (tD K Ts fa) (tD K Ts fb) σ H Q :=
  w_2 fun x y v w d H O Q hg q1 q2 ht _ kk => by
    unfold gNe at hg
    split at hg
    · rename_i hs
      rw [Bool.and_eq_true] at hs
      cases hg
      exact ⟨x, y, (Dp.mono hide_out q1).toL hs.1, (Dp.mono hide_out q2).toL hs.2, hs.1, hs.2, kk _ H (Xt.refl H) ht (.bl _)⟩
    · cases hg
theorem d_eq {k : Nat} (hr : Room k X.A) (ha : DE X Ts a fa) (hb : DE X Ts b fb) : DE X Ts (.Compare a [.Eq] [b] pos) (fEq fa fb) := PE.imp (pe_cmpR (op_eqD hr.units) ha hb (nomark _)) w_eq
def isNone : PyData → Bool
  | .none => true
  | _ => false
def fT (f : En → Option PyData) : En → Option Bool := fun en => match f en with
  | some (.bool b) => some b
  | _ => none
theorem fT_some {f : En → Option PyData} {en : En} {b : Bool} (h : fT f en = some b) : f en = some (.bool b) := by
  unfold fT at h
  split at h
  · rename_i e
    cases h
    exact e
  · cases h
theorem dt_of {e : Expr} {t : TE} {f : En → Option PyData} (h : PT X e (tTest t)) (w : ∀ σ H Q, tD X.K Ts f σ H Q → t σ H Q) : DT X Ts e (fT f) := PT.imp h fun σ H Q ⟨He, O, en, b, r, hf, k⟩ =>
  w σ H _ ⟨He, O, en, .bool b, r, fT_some hf, fun v H' x t q => by cases q; exact ⟨b, rfl, k H' x t⟩⟩
theorem dt_val {e : Expr} {f : En → Option PyData} (h : DE X Ts e f) (he : ∀ whole, isTrue e X.env whole = (do let v ← whole; standAt e.pos; holding [v] (truthy v)) := by intro _; rfl) : DT X Ts e (fT f) :=
  PT.imp (pt_val h he) fun σ H Q ⟨He, O, en, b, r, hf, k⟩ => ⟨He, O, en, .bool b, r, fT_some hf, fun v H' x t q => by cases q; exact ⟨b, rfl, k H' x t⟩⟩
theorem dt_lt (ha : DE X Ts a fa) (hb : DE X Ts b fb) : DT X Ts (.Compare a [.Lt] [b] pos) (fT (fLt fa fb)) := dt_of (pt_cmpR op_lt ha hb (nomark _)) (w_i0 fun _ _ _ _ => .bl _)
theorem dt_gt (ha : DE X Ts a fa) (hb : DE X Ts b fb) : DT X Ts (.Compare a [.Gt] [b] pos) (fT (fGt fa fb)) := dt_of (pt_cmpR op_gt ha hb (nomark _)) (w_i0 fun _ _ _ _ => .bl _)
theorem dt_ge (ha : DE X Ts a fa) (hb : DE X Ts b fb) : DT X Ts (.Compare a [.GtE] [b] pos) (fT (fGe fa fb)) := dt_of (pt_cmpR op_ge ha hb (nomark _)) (w_i0 fun _ _ _ _ => .bl _)
theorem dt_eq {k : Nat} (hr : Room k X.A) (ha : DE X Ts a fa) (hb : DE X Ts b fb) : DT X Ts (.Compare a [.Eq] [b] pos) (fT (fEq fa fb)) := dt_of (pt_cmpR (op_eqD hr.units) ha hb (nomark _)) w_eq
theorem dt_ne {k : Nat} (hr : Room k X.A) (ha : DE X Ts a fa) (hb : DE X Ts b fb) : DT X Ts (.Compare a [.NotEq] [b] pos) (fT (fNe fa fb)) := dt_of (pt_cmpR (op_neD hr.units) ha hb (nomark _)) w_ne
def fChain (g1 g2 : PyData → PyData → Option PyData) (fa fb fc : En → Option PyData) : En → Option PyData := fun en => (fa en).bind fun x => (fb en).bind fun y => (g1 x y).bind fun z => match z with
  | .bool true => (fc en).bind fun w => g2 y w
  | .bool false => some (.bool false)
  | _ => none
def gLe := gI fun i j => .bool (decide (i ≤ j))
def gLt := gI fun i j => .bool (decide (i < j))
theorem w_chain {g1 g2 : Int → Int → Bool} {c : Expr} {fc : En → Option PyData} {K : PySem.W.Frag} : ∀ σ H Q, tD K Ts (fChain (gI fun i j => .bool (g1 i j)) (gI fun i j => .bool (g2 i j)) fa fb fc) σ H Q →
    tChain (rI0 fun i j => .bl (g1 i j)) (rI0 fun i j => .bl (g2 i j)) (tD K Ts fa) (tD K Ts fb) (tD K Ts fc) σ H Q := fun σ H Q ⟨He, O, en, d, rp, hf, kk⟩ => by
  unfold fChain at hf
  obtain ⟨x, h1, hf1⟩ := Option.bind_eq_some_iff.mp hf
  obtain ⟨y, h2, hf2⟩ := Option.bind_eq_some_iff.mp hf1
  obtain ⟨z, h3, hf3⟩ := Option.bind_eq_some_iff.mp hf2
  clear hf hf1 hf2
  refine tD.of rp h1 fun v H1 x1 r1 q1 => tD.of r1 h2 fun w H2 x2 r2 q2 => ?_
  obtain ⟨i, j, rfl, rfl, rfl⟩ : ∃ i j, x = .int i ∧ y = .int j ∧ z = .bool (g1 i j) := by
    cases x <;> cases y <;> simp only [gI] at h3 <;> first | (cases h3; exact ⟨_, _, rfl, rfl, rfl⟩) | cases h3
  cases q1
  cases q2
  have hf := hf3
  refine ⟨i, j, rfl, rfl, g1 i j, rfl, ?_⟩
  cases hg : g1 i j with
  | true =>
    rw [hg] at hf
    obtain ⟨u, h4, hf⟩ := Option.bind_eq_some_iff.mp hf
    refine iteT (tD.of r2 h4 fun w' H3 x3 r3 q3 => ?_)
    cases q3 <;> simp only [gI] at hf <;> try cases hf
    exact ⟨_, _, rfl, rfl, kk _ H3 (x1.trans (x2.trans x3)) r3.tabs (.bl _)⟩
  | false =>
    rw [hg] at hf
    cases hf
    exact iteF (kk _ H2 (x1.trans x2) r2.tabs (.bl _))
theorem d_lele {c : Expr} {fc : En → Option PyData} (ha : DE X Ts a fa) (hb : DE X Ts b fb) (hc : DE X Ts c fc) (hm : lastMarks [.LtE, .LtE] [b, c] = false := by with_unfolding_all rfl) :
    DE X Ts (.Compare a [.LtE, .LtE] [b, c] pos) (fChain gLe gLe fa fb fc) := PE.imp (pe_chain op_le op_le ha hb hc hm) (w_chain (c := c))
theorem dt_lele {c : Expr} {fc : En → Option PyData} (ha : DE X Ts a fa) (hb : DE X Ts b fb) (hc : DE X Ts c fc) (hm : lastMarks [.LtE, .LtE] [b, c] = false := by with_unfolding_all rfl) :
    DT X Ts (.Compare a [.LtE, .LtE] [b, c] pos) (fT (fChain gLe gLe fa fb fc)) := dt_of (pt_chain op_le op_le ha hb hc hm) (w_chain (c := c))
def fAnd (f g : En → Option PyData) : En → Option PyData := fun en => match f en with
  | some (.bool true) => g en
  | some (.bool false) => some (.bool false)
  | _ => none
def fNot (f : En → Option PyData) : En → Option PyData := fun en => match f en with
  | some (.bool b) => some (.bool (!b))
  | _ => none
variable {rest : List Expr}
theorem d_one {op} {f : En → Option PyData} (h : DE X Ts a f) : DE X Ts (.BoolOp op [a] pos) f := pe_one h
theorem d_and {ga : En → Option PyData} (ha : DE X Ts a fa) (hb : DE X Ts (.BoolOp .And (b :: rest) pos) ga) : DE X Ts (.BoolOp .And (a :: b :: rest) pos) (fAnd fa ga) := PE.imp (pe_and ha hb) fun σ H Q ⟨He, O, en, d, rp, hf, kk⟩ => by
  unfold fAnd at hf
  split at hf
  · rename_i e
    exact tD.of rp e fun v H1 x1 r1 q1 => by cases q1; exact ⟨true, rfl, iteT (tD.of r1 hf fun w H2 x2 r2 q2 => kk w H2 (x1.trans x2) r2.tabs q2)⟩
  · rename_i e
    cases hf
    exact tD.of rp e fun v H1 x1 r1 q1 => by cases q1; exact ⟨false, rfl, iteF (kk _ H1 x1 r1.tabs (.bl _))⟩
  · cases hf
theorem d_not (ha : DE X Ts a fa) : DE X Ts (.UnaryOp .Not a pos) (fNot fa) := PE.imp (pe_not ha) fun σ H Q ⟨He, O, en, d, rp, hf, kk⟩ => by
  unfold fNot at hf
  split at hf
  · rename_i b e
    cases hf
    exact tD.of rp e fun v H1 x1 r1 q1 => by cases q1; exact ⟨b, rfl, kk _ H1 x1 r1.tabs (.bl _)⟩
  · cases hf
def kAnd (f g : En → Option Bool) : En → Option Bool := fun en => match f en with
  | some true => g en
  | some false => some false
  | none => none
def kOr (f g : En → Option Bool) : En → Option Bool := fun en => match f en with
  | some true => some true
  | some false => g en
  | none => none
def kNot (f : En → Option Bool) : En → Option Bool := fun en => (f en).map (!·)
variable {ta tb : En → Option Bool}
theorem dw_and1 (ha : DT X Ts a ta) : DW X Ts (.BoolOp .And [a] pos) ta := pw_and1 ha
theorem dw_or1 (ha : DT X Ts a ta) : DW X Ts (.BoolOp .Or [a] pos) ta := pw_or1 ha
theorem dw_and (ha : DT X Ts a ta) (hb : DW X Ts (.BoolOp .And (b :: rest) pos) tb) : DW X Ts (.BoolOp .And (a :: b :: rest) pos) (kAnd ta tb) := PW.imp (pw_and ha hb) fun σ H Q ⟨He, O, en, d, rp, hf, kk⟩ => by
  unfold kAnd at hf
  split at hf
  · rename_i e
    exact tT.of rp e fun H1 x1 r1 => iteT (tT.of r1 hf fun H2 x2 r2 => kk H2 (x1.trans x2) r2.tabs)
  · rename_i e
    cases hf
    exact tT.of rp e fun H1 x1 r1 => iteF (kk H1 x1 r1.tabs)
  · cases hf
theorem dw_or (ha : DT X Ts a ta) (hb : DW X Ts (.BoolOp .Or (b :: rest) pos) tb) : DW X Ts (.BoolOp .Or (a :: b :: rest) pos) (kOr ta tb) := PW.imp (pw_or ha hb) fun σ H Q ⟨He, O, en, d, rp, hf, kk⟩ => by
  unfold kOr at hf
  split at hf
  · rename_i e
    cases hf
    exact tT.of rp e fun H1 x1 r1 => iteT (kk H1 x1 r1.tabs)
  · rename_i e
    exact tT.of rp e fun H1 x1 r1 => iteF (tT.of r1 hf fun H2 x2 r2 => kk H2 (x1.trans x2) r2.tabs)
  · cases hf
theorem dt_w {e : Expr} (h : DW X Ts e ta) : DT X Ts e ta := h.pt
theorem dt_not (ha : DT X Ts a ta) : DT X Ts (.UnaryOp .Not a pos) (kNot ta) := PT.imp (pt_not ha) fun σ H Q ⟨He, O, en, d, rp, hf, kk⟩ => by
  unfold kNot at hf
  obtain ⟨b, h1, h2⟩ := Option.map_eq_some_iff.mp hf
  subst h2
  exact tT.of rp h1 fun H1 x1 r1 => kk H1 x1 r1.tabs
def fIf (t : En → Option Bool) (f g : En → Option PyData) : En → Option PyData := fun en => match t en with
  | some true => f en
  | some false => g en
  | none => none
theorem d_if {c : Expr} (hc : DT X Ts c ta) (ha : DE X Ts a fa) (hb : DE X Ts b fb) : DE X Ts (.IfExp c a b pos) (fIf ta fa fb) := PE.imp (pe_ifExp hc ha hb) fun σ H Q ⟨He, O, en, d, rp, hf, kk⟩ => by
  unfold fIf at hf
  split at hf
  · rename_i e
    exact tT.of rp e fun H1 x1 r1 => iteT (tD.of r1 hf fun w H2 x2 r2 q2 => kk w H2 (x1.trans x2) r2.tabs q2)
  · rename_i e
    exact tT.of rp e fun H1 x1 r1 => iteF (tD.of r1 hf fun w H2 x2 r2 q2 => kk w H2 (x1.trans x2) r2.tabs q2)
  · cases hf
end
def fNil : En → Option (List PyData) := fun _ => some []
def fCons (f : En → Option PyData) (g : En → Option (List PyData)) : En → Option (List PyData) := fun en => (f en).bind fun x => (g en).bind fun xs => some (x :: xs)
section
variable {X : Cx} {Ts : TsT} {pos : Pos} {e : Expr} {es : List Expr} {f : En → Option PyData} {g : En → Option (List PyData)}
theorem da_nil : DA X Ts [] fNil := PA.imp pa_nil fun σ H Q ⟨He, O, en, ds, rp, hf, kk⟩ => by
  cases hf
  exact kk [] H (Xt.refl H) rp.tabs .nil
theorem fCons_some {en : En} {ds : List PyData} (h : fCons f g en = some ds) : ∃ x xs, f en = some x ∧ g en = some xs ∧ ds = x :: xs := by
  unfold fCons at h
  obtain ⟨x, h1, h⟩ := Option.bind_eq_some_iff.mp h
  obtain ⟨y, h2, h⟩ := Option.bind_eq_some_iff.mp h
  cases h
  exact ⟨x, y, h1, h2, rfl⟩
theorem da_cons (ha : DE X Ts e f) (hr : DA X Ts es g) (hs : starEach (e :: es) X.env = (false, eval e X.env) :: starEach es X.env := by rfl) : DA X Ts (e :: es) (fCons f g) := PA.imp (pa_cons ha hr hs) fun σ H Q ⟨He, O, en, ds, rp, hf, kk⟩ => by
  obtain ⟨x, xs, h1, h2, rfl⟩ := fCons_some hf
  exact tD.of rp h1 fun v H1 x1 r1 q1 => tDs.of r1 h2 fun vs H2 x2 r2 q2 => kk _ H2 (x1.trans x2) r2.tabs (.cons (Dp.mono (hide_mono x2) q1) q2)
theorem new_out {O : List Addr} {H : Hp} {p : Addr} (occ : ∀ b ∈ O, H b ≠ none ∧ ∀ ps, H b ≠ some (.tbl ps)) (h : H p = none) : p ∉ O := fun z => (occ p z).1 h
theorem small64 {n : Nat} (h : n ≤ 64) : n ≤ sizeLine := Nat.le_of_lt (small1000 (by omega))
theorem tup_new {K : PySem.W.Frag} {H : Hp} {O : List Addr} {p : Addr} {xs : List V} {ds : List PyData} (hp : H p = none) (np : p ∉ O) (q : DpAll K (hide H O) xs ds) : Dp K (hide (upd H p (.tup xs)) O) (.ref p) (.tuple ds) :=
  .tup (.inl (.inl (hide_of np upd_same))) (DpAll.mono (hide_mono (Xt.upd hp)) q)
theorem lst_new {K : PySem.W.Frag} {H : Hp} {O : List Addr} {p : Addr} {xs : List V} {ds : List PyData} (hp : H p = none) (np : p ∉ O) (q : DpAll K (hide H O) xs ds) : Dp K (hide (upd H p (.lst xs)) O) (.ref p) (.list ds) :=
  .lst (.inl (.inl (hide_of np upd_same))) (DpAll.mono (hide_mono (Xt.upd hp)) q)
def fTup (g : En → Option (List PyData)) : En → Option PyData := fun en => (g en).bind fun ds => if ds.length ≤ 64 then some (.tuple ds) else none
def fLst (g : En → Option (List PyData)) : En → Option PyData := fun en => (g en).bind fun ds => if ds.length ≤ 64 then some (.list ds) else none
theorem fTup_some {en : En} {d : PyData} (h : fTup g en = some d) : ∃ ds, g en = some ds ∧ ds.length ≤ 64 ∧ d = .tuple ds := by
  unfold fTup at h
  obtain ⟨x, h1, h⟩ := Option.bind_eq_some_iff.mp h
  split at h
  · cases h; exact ⟨x, h1, by assumption, rfl⟩
  · cases h
theorem fLst_some {en : En} {d : PyData} (h : fLst g en = some d) : ∃ ds, g en = some ds ∧ ds.length ≤ 64 ∧ d = .list ds := by
  unfold fLst at h
  obtain ⟨x, h1, h⟩ := Option.bind_eq_some_iff.mp h
  split at h
  · cases h; exact ⟨x, h1, by assumption, rfl⟩
  · cases h
theorem d_tup {x1} (h : DA X Ts es g) : DE X Ts (.Tuple es x1 pos) (fTup g) := PE.imp (pe_tup h) fun σ H Q ⟨He, O, en, d, rp, hf, kk⟩ => by
  obtain ⟨ds, h1, hl, rfl⟩ := fTup_some hf
  exact tDs.of rp h1 fun vs H1 x1 r1 q1 => ⟨by rw [DpAll.len q1]; exact small64 hl, fun p np => kk _ _ (x1.trans (Xt.upd np)) (r1.tabs.new np) (tup_new np (new_out r1.occ np) q1)⟩
theorem d_lst (h : DA X Ts es g) : DE X Ts (.List es pos) (fLst g) := PE.imp (pe_lst h) fun σ H Q ⟨He, O, en, d, rp, hf, kk⟩ => by
  obtain ⟨ds, h1, hl, rfl⟩ := fLst_some hf
  exact tDs.of rp h1 fun vs H1 x1 r1 q1 => ⟨by rw [DpAll.len q1]; exact small64 hl, fun p np => kk _ _ (x1.trans (Xt.upd np)) (r1.tabs.new np) (lst_new np (new_out r1.occ np) q1)⟩
def spD (K : PySem.W.Frag) (Ts : TsT) (n : Nat) (F : List PyData → Option PyData) : Sp := fun vs H Q _ => vs.length = n ∧ ∃ O ds d, DpAll K (hide H O) vs ds ∧ Tb Ts H ∧ (∀ b ∈ O, H b ≠ none ∧ ∀ ps, H b ≠ some (.tbl ps)) ∧ F ds = some d ∧
  ∀ v H', Xt H H' → Tb Ts H' → Dp K (hide H' O) v d → Q v H'
theorem spD.imp {K : PySem.W.Frag} {Ts : TsT} {n : Nat} {F G : List PyData → Option PyData} (h : ∀ ds d, G ds = some d → F ds = some d) : ∀ vs H Q E, spD K Ts n G vs H Q E → spD K Ts n F vs H Q E :=
  fun vs H Q E ⟨h1, O, ds, d, a, b, c, e, k⟩ => ⟨h1, O, ds, d, a, b, c, h ds d e, k⟩
def fCall (n : Nat) (F : List PyData → Option PyData) (g : En → Option (List PyData)) : En → Option PyData := fun en => (g en).bind fun ds => if ds.length = n then F ds else none
structure DFn (X : Cx) (Ts : TsT) (k : Nat) (x : Str) (n : Nat) (F : List PyData → Option PyData) : Prop where
  ex : ∃ f fd ps dvs us dd G, X.mg x = some (.ref f) ∧ PySem.W.keepIn X.K (.ref f) = true ∧ Binds X.K fd ps us ∧ Vals dvs us ∧ (∀ H, DpAll X.K H dvs dd) ∧ FnOk X.prog X.w X.K X.mg X.base CX0 k f fd ps (spD X.K Ts (n + dd.length) G) ∧ ∀ xs d, xs.length = n → F xs = some d → G (xs ++ dd) = some d
theorem d_call {k j n : Nat} {x : Str} {p : Pos} {F : List PyData → Option PyData} (hr : Room j X.A) (hF : DFn X Ts k x n F) (hk : k ≤ j) (hg : Gl X x) (ha : DA X Ts (e :: es) g) (hdb : (x == ("__debug__" : Str)) = false := by decide)
    (he : starEach (e :: es) X.env = (false, eval e X.env) :: starEach es X.env := by rfl) (hpl : (backTo pos (starEach es X.env)).any (·.1) = false := by rfl) : DE X Ts (.Call (.Name x p) (e :: es) [] pos) (fCall n F g) := by
  obtain ⟨f, fd, ps, dvs, us, dd, G, h1, h2, h3, h3v, h3d, h4, h5⟩ := hF.ex
  refine PE.imp (pe_call h4 (hr.mono hk) hg h1 h2 h3 h3v pass0 ha hdb he hpl) fun σ H Q ⟨He, O, en, d, rp, hf, kk⟩ => ?_
  unfold fCall at hf
  obtain ⟨ds, q1, hf⟩ := Option.bind_eq_some_iff.mp hf
  split at hf
  · rename_i hl
    refine tDs.of rp q1 fun vs H1 x1 r1 qs => ?_
    exact ⟨by rw [List.length_append, DpAll.len qs, hl, DpAll.len (h3d H1)], O, ds ++ dd, d, DpAll.app qs (h3d _), r1.tabs, r1.occ, h5 ds d hl hf, fun v H' x t q => kk v H' (x1.trans x) t q⟩
  · cases hf
end
theorem DpB.seq {K : PySem.W.Frag} {H : Hp} {O : List Addr} {v : V} {d : PyData} (h : DpB K H O v d) :
    (∃ b, v = .bl b ∧ d = .bool b) ∨ (v = .non ∧ d = .none) ∨ (∃ i, v = .int i ∧ d = .int i) ∨ (∃ s, v = .str s ∧ d = .str s) ∨
    (∃ a vs ds, v = .ref a ∧ d = .list ds ∧ SqL K H a vs ∧ DpAll K (hide H O) vs ds) ∨ (∃ a vs ds, v = .ref a ∧ d = .tuple ds ∧ SqT K H a vs ∧ DpAll K (hide H O) vs ds) ∨ d = .dict [] := by
  rcases h with h | ⟨a, vs, ds, rfl, rfl, h1, h2⟩
  · cases h with
    | non => exact .inr (.inl ⟨rfl, rfl⟩)
    | bl b => exact .inl ⟨b, rfl, rfl⟩
    | int i => exact .inr (.inr (.inl ⟨i, rfl, rfl⟩))
    | str s => exact .inr (.inr (.inr (.inl ⟨s, rfl, rfl⟩)))
    | lst s a => exact .inr (.inr (.inr (.inr (.inl ⟨_, _, _, rfl, rfl, sqL_mono (fun o n e => (hide_some e).2) s, a⟩))))
    | tup s a => exact .inr (.inr (.inr (.inr (.inr (.inl ⟨_, _, _, rfl, rfl, sqT_mono (fun o n e => (hide_some e).2) s, a⟩)))))
    | dct _ => exact .inr (.inr (.inr (.inr (.inr (.inr rfl)))))
  · exact .inr (.inr (.inr (.inr (.inl ⟨_, _, _, rfl, rfl, .inl (.inl h1), h2⟩))))
theorem DpB.lst {K : PySem.W.Frag} {H : Hp} {O : List Addr} {v : V} {ds : List PyData} (h : DpB K H O v (.list ds)) : ∃ a vs, v = .ref a ∧ SqL K H a vs ∧ DpAll K (hide H O) vs ds := by
  rcases h.seq with ⟨_, _, e⟩ | ⟨_, e⟩ | ⟨_, _, e⟩ | ⟨_, _, e⟩ | ⟨a, vs, es, rfl, e, h1, h2⟩ | ⟨a, vs, es, rfl, e, h1, h2⟩ | e <;> cases e
  exact ⟨a, vs, rfl, h1, h2⟩
theorem DpB.tup {K : PySem.W.Frag} {H : Hp} {O : List Addr} {v : V} {ds : List PyData} (h : DpB K H O v (.tuple ds)) : ∃ a vs, v = .ref a ∧ SqT K H a vs ∧ DpAll K (hide H O) vs ds := by
  rcases h.seq with ⟨_, _, e⟩ | ⟨_, e⟩ | ⟨_, _, e⟩ | ⟨_, _, e⟩ | ⟨a, vs, es, rfl, e, h1, h2⟩ | ⟨a, vs, es, rfl, e, h1, h2⟩ | e <;> cases e
  exact ⟨a, vs, rfl, h1, h2⟩
def items : PyData → Option (List PyData)
  | .list ds => some ds
  | .tuple ds => some ds
  | _ => none
def intsOf : List PyData → Option (List Int)
  | [] => some []
  | .int i :: r => (intsOf r).map (i :: ·)
  | _ :: _ => none
theorem intsOf_some : ∀ {ds : List PyData} {ns : List Int}, intsOf ds = some ns → ds = ns.map .int
  | [], ns, h => by cases h; rfl
  | .int i :: r, ns, h => by
    obtain ⟨m, h1, rfl⟩ := Option.map_eq_some_iff.mp h
    rw [intsOf_some h1]
    rfl
  | .none :: r, ns, h => by cases h
  | .bool _ :: r, ns, h => by cases h
  | .str _ :: r, ns, h => by cases h
  | .list _ :: r, ns, h => by cases h
  | .tuple _ :: r, ns, h => by cases h
  | .dict _ :: r, ns, h => by cases h
theorem intsOf_map (ns : List Int) : intsOf (ns.map .int) = some ns := by
  induction ns with
  | nil => rfl
  | cons n r ih => simp [intsOf, ih]
section
variable {X : Cx} {Ts : TsT} {pos p : Pos} {e e2 : Expr} {f g : En → Option PyData}
theorem b_arg1 {id : String} {r : List V → Hp → VK → Prop} {x : Str} {gg : PyData → Option PyData} (hc : CallR X (.builtin id) r) (hg : Gl X x) (hm : X.mg x = none) (hv : bootBuiltins x = some (.builtin id)) (ha : DB X Ts e f)
    (k : ∀ d z v H O Q, gg d = some z → DpB X.K H O v d → Tb Ts H → (∀ b ∈ O, H b ≠ none ∧ ∀ ps, H b ≠ some (.tbl ps)) → (∀ u H', Xt H H' → Tb Ts H' → Dp X.K (hide H' O) u z → Q u H') → r [v] H Q)
    (hn : x ≠ "__name__" := by decide) (hdb : (x == ("__debug__" : Str)) = false := by decide) (he : starEach [e] X.env = (false, eval e X.env) :: starEach [] X.env := by rfl) :
    DE X Ts (.Call (.Name x p) [e] [] pos) (f1 gg f) := PE.imp (pe_callB (t := tCons (tB X.K Ts f) tNil) hc hg hm hv (pa_cons ha pa_nil he) hn hdb he (by rfl)) fun σ H Q ⟨He, O, en, d, rp, hf, kk⟩ => by
  obtain ⟨x, h1, h2⟩ := f1_some hf
  exact tB.of rp h1 fun v H1 x1 r1 q1 => k x d v H1 O Q h2 q1 r1.tabs r1.occ fun u H' x t q => kk u H' (x1.trans x) t q
theorem b_argT {T : String} {r : List V → Hp → VK → Prop} {x : Str} {gg : PyData → Option PyData} (hc : CallR X (.type T) r) (hg : Gl X x) (hm : X.mg x = none) (hv : bootBuiltins x = some (.type T)) (ha : DB X Ts e f)
    (k : ∀ d z v H O Q, gg d = some z → DpB X.K H O v d → Tb Ts H → (∀ b ∈ O, H b ≠ none ∧ ∀ ps, H b ≠ some (.tbl ps)) → (∀ u H', Xt H H' → Tb Ts H' → Dp X.K (hide H' O) u z → Q u H') → r [v] H Q)
    (hn : x ≠ "__name__" := by decide) (hdb : (x == ("__debug__" : Str)) = false := by decide) (he : starEach [e] X.env = (false, eval e X.env) :: starEach [] X.env := by rfl) :
    DE X Ts (.Call (.Name x p) [e] [] pos) (f1 gg f) := PE.imp (pe_callTy (t := tCons (tB X.K Ts f) tNil) hc hg hm hv (pa_cons ha pa_nil he) hn hdb he (by rfl)) fun σ H Q ⟨He, O, en, d, rp, hf, kk⟩ => by
  obtain ⟨x, h1, h2⟩ := f1_some hf
  exact tB.of rp h1 fun v H1 x1 r1 q1 => k x d v H1 O Q h2 q1 r1.tabs r1.occ fun u H' x t q => kk u H' (x1.trans x) t q
def gLen : PyData → Option PyData
  | .list ds => some (.int ds.length)
  | .tuple ds => some (.int ds.length)
  | _ => none
def fLen := f1 gLen
theorem d_len (hg : Gl X "len") (hm : X.mg "len" = none) (ha : DB X Ts e f) (he : starEach [e] X.env = (false, eval e X.env) :: starEach [] X.env := by rfl) : DE X Ts (.Call (.Name "len" p) [e] [] pos) (fLen f) :=
  b_arg1 call_len hg hm PySem.boot_len ha (he := he) fun d z v H O Q hz q t occ kk => by
    cases d with
    | list ds =>
      cases hz
      obtain ⟨a, vs, rfl, h1, h2⟩ := q.lst
      exact ⟨_, ds.length, rfl, .inl ⟨vs, h1, (DpAll.len h2).symm⟩, kk _ H (Xt.refl H) t (.int _)⟩
    | tuple ds =>
      cases hz
      obtain ⟨a, vs, rfl, h1, h2⟩ := q.tup
      exact ⟨_, ds.length, rfl, .inr ⟨vs, h1, (DpAll.len h2).symm⟩, kk _ H (Xt.refl H) t (.int _)⟩
    | _ => cases hz
def rSumT (K : PySem.W.Frag) : List V → Hp → VK → Prop := fun vs H Q => ∃ (a : Addr) (ns : List Int), vs = [V.ref a] ∧ (SqL K H a (ns.map V.int) ∨ SqT K H a (ns.map V.int)) ∧ Q (.int ns.sum) H
theorem cr_sumT (hc : X.calm = true) : CallR X (.builtin "sum") (rSumT X.K) := by
  intro pins s σ H vs us Q I r h
  obtain ⟨a, ns, rfl, hs | hs, q⟩ := h
  · exact cr_sum hc pins s σ H _ us Q I r ⟨a, ns, rfl, hs, q⟩
  · obtain ⟨its, rv, ⟨o, ho, hcl, n, hd⟩, _⟩ := I.tuple hs
    rw [Vals.ref1 r]
    have hi : IntsAre its ns := rv.ints
    obtain ⟨xs, hx⟩ := hi.allInts.items
    have hn : numsOf its.toArray.toList = ns := by rw [show its.toArray.toList = its from rfl, hi.numsOf]
    rw [hx] at hd hn
    rw [nums_intItems] at hn
    refine PySem.W.ktm_sumG (I.ok.hd hc) ⟨o, ho, hcl, n, hd⟩ fun h' tk t' hk => ?_
    refine ⟨.int ns.sum, H, I.kept hk, ⟨t', ?_⟩, q⟩
    rw [preSum_eq, List.take_of_length_le (by simp), hn]
def gSum : PyData → Option PyData := fun d => (items d).bind fun ds => (intsOf ds).map fun ns => .int ns.sum
def fSum := f1 gSum
theorem gSum_some {d z : PyData} (h : gSum d = some z) : ∃ ns : List Int, (d = .list (ns.map .int) ∨ d = .tuple (ns.map .int)) ∧ z = .int ns.sum := by
  unfold gSum at h
  obtain ⟨ds, h1, h2⟩ := Option.bind_eq_some_iff.mp h
  obtain ⟨ns, h3, rfl⟩ := Option.map_eq_some_iff.mp h2
  have e := intsOf_some h3
  subst e
  cases d <;> simp only [items] at h1 <;> cases h1
  · exact ⟨ns, .inl rfl, rfl⟩
  · exact ⟨ns, .inr rfl, rfl⟩
theorem d_sum (hc : X.calm = true) (hg : Gl X "sum") (hm : X.mg "sum" = none) (hb : bootBuiltins "sum" = some (.builtin "sum")) (ha : DB X Ts e f) (he : starEach [e] X.env = (false, eval e X.env) :: starEach [] X.env := by rfl) : DE X Ts (.Call (.Name "sum" p) [e] [] pos) (fSum f) :=
  b_arg1 (cr_sumT hc) hg hm hb ha (he := he) fun d z v H O Q hz q t occ kk => by
    obtain ⟨ns, rfl | rfl, rfl⟩ := gSum_some hz
    · obtain ⟨a, vs, rfl, h1, h2⟩ := q.lst
      obtain rfl := DpAll.ints h2
      exact ⟨a, ns, rfl, .inl h1, kk _ H (Xt.refl H) t (.int _)⟩
    · obtain ⟨a, vs, rfl, h1, h2⟩ := q.tup
      obtain rfl := DpAll.ints h2
      exact ⟨a, ns, rfl, .inr h1, kk _ H (Xt.refl H) t (.int _)⟩
theorem d_args2 {id : String} {r : List V → Hp → VK → Prop} {x : Str} {gg : PyData → PyData → Option PyData} (hc : CallR X (.builtin id) r) (hg : Gl X x) (hm : X.mg x = none) (hv : bootBuiltins x = some (.builtin id)) (ha : DE X Ts e f) (hb : DE X Ts e2 g)
    (k : ∀ d d' z v w H O Q, gg d d' = some z → Dp X.K (hide H O) v d → Dp X.K (hide H O) w d' → Tb Ts H → (∀ u H', Xt H H' → Tb Ts H' → Dp X.K (hide H' O) u z → Q u H') → r [v, w] H Q)
    (hn : x ≠ "__name__" := by decide) (hdb : (x == ("__debug__" : Str)) = false := by decide) (he : starEach [e, e2] X.env = (false, eval e X.env) :: starEach [e2] X.env := by rfl) (he2 : starEach [e2] X.env = (false, eval e2 X.env) :: starEach [] X.env := by rfl) (hpl : (backTo pos (starEach [e2] X.env)).any (·.1) = false := by rfl) :
    DE X Ts (.Call (.Name x p) [e, e2] [] pos) (f2 gg f g) := PE.imp (pe_callB (t := tCons (tD X.K Ts f) (tCons (tD X.K Ts g) tNil)) hc hg hm hv (pa_cons ha (pa_cons hb pa_nil he2) he) hn hdb he hpl) fun σ H Q ⟨He, O, en, d, rp, hf, kk⟩ => by
  obtain ⟨x, y, h1, h2, h3⟩ := f2_some hf
  exact tD.of rp h1 fun v H1 x1 r1 q1 => tD.of r1 h2 fun w H2 x2 r2 q2 => k x y d v w H2 O Q h3 (Dp.mono (hide_mono x2) q1) q2 r2.tabs fun u H' x3 t q => kk u H' (x1.trans (x2.trans x3)) t q
def fMax2 := f2 (gI fun i j => .int (if j > i then j else i))
def fMin2 := f2 (gI fun i j => .int (if j < i then j else i))
theorem d_max2 (hc : X.calm = true) (hg : Gl X "max") (hm : X.mg "max" = none) (hv : bootBuiltins "max" = some (.builtin "max")) (ha : DE X Ts e f) (hb : DE X Ts e2 g)
    (he : starEach [e, e2] X.env = (false, eval e X.env) :: starEach [e2] X.env := by rfl) (he2 : starEach [e2] X.env = (false, eval e2 X.env) :: starEach [] X.env := by rfl) (hpl : (backTo pos (starEach [e2] X.env)).any (·.1) = false := by rfl) :
    DE X Ts (.Call (.Name "max" p) [e, e2] [] pos) (fMax2 f g) := d_args2 (call_max2 hc) hg hm hv ha hb (he := he) (he2 := he2) (hpl := hpl) fun d d' z v w H O Q hz q1 q2 t kk => by
  cases q1 <;> cases q2 <;> simp only [gI] at hz <;> try cases hz
  exact ⟨_, _, rfl, kk _ H (Xt.refl H) t (.int _)⟩
theorem d_min2 (hc : X.calm = true) (hg : Gl X "min") (hm : X.mg "min" = none) (hv : bootBuiltins "min" = some (.builtin "min")) (ha : DE X Ts e f) (hb : DE X Ts e2 g)
    (he : starEach [e, e2] X.env = (false, eval e X.env) :: starEach [e2] X.env := by rfl) (he2 : starEach [e2] X.env = (false, eval e2 X.env) :: starEach [] X.env := by rfl) (hpl : (backTo pos (starEach [e2] X.env)).any (·.1) = false := by rfl) :
    DE X Ts (.Call (.Name "min" p) [e, e2] [] pos) (fMin2 f g) := d_args2 (call_min2 hc) hg hm hv ha hb (he := he) (he2 := he2) (hpl := hpl) fun d d' z v w H O Q hz q1 q2 t kk => by
  cases q1 <;> cases q2 <;> simp only [gI] at hz <;> try cases hz
  exact ⟨_, _, rfl, kk _ H (Xt.refl H) t (.int _)⟩
def gTuple : PyData → Option PyData := fun d => (items d).map .tuple
def fTuple := f1 gTuple
theorem d_tuple (hg : Gl X "tuple") (hm : X.mg "tuple" = none) (hv : bootBuiltins "tuple" = some (.type "tuple")) (ha : DB X Ts e f) (he : starEach [e] X.env = (false, eval e X.env) :: starEach [] X.env := by rfl) : DE X Ts (.Call (.Name "tuple" p) [e] [] pos) (fTuple f) :=
  b_argT call_tuple_of hg hm hv ha (he := he) fun d z v H O Q hz q t occ kk => by
    cases d <;> simp only [gTuple, items, Option.map_some, Option.map_none] at hz <;> try cases hz
    · obtain ⟨a, vs, rfl, h1, h2⟩ := q.lst
      exact ⟨a, vs, rfl, .inl ⟨h1, fun l nl => kk _ _ (Xt.upd nl) (t.new nl) (tup_new nl (new_out occ nl) h2)⟩⟩
    · rcases q with q | ⟨_, _, _, _, e, _⟩
      · cases q with
        | tup s a => exact ⟨_, _, rfl, .inr ⟨sqT_mono (fun o n e => (hide_some e).2) s, kk _ H (Xt.refl H) t (.tup s a)⟩⟩
      · cases e
def gAbs : PyData → Option PyData
  | .int i => some (.int (if i < 0 then -i else i))
  | _ => none
def fAbs := f1 gAbs
theorem d_abs (hg : Gl X "abs") (hm : X.mg "abs" = none) (hv : bootBuiltins "abs" = some (.builtin "abs")) (ha : DE X Ts e f) (he : starEach [e] X.env = (false, eval e X.env) :: starEach [] X.env := by rfl) : DE X Ts (.Call (.Name "abs" p) [e] [] pos) (fAbs f) :=
  b_arg1 call_abs hg hm hv (d_b ha) (he := he) fun d z v H O Q hz q t occ kk => by
    cases d <;> simp only [gAbs] at hz <;> try cases hz
    rcases q with q | ⟨_, _, _, _, e, _⟩
    · cases q
      exact ⟨_, rfl, kk _ H (Xt.refl H) t (.int _)⟩
    · cases e
def gInt : PyData → Option PyData
  | .int i => some (.int i)
  | .bool k => some (.int (if k then 1 else 0))
  | _ => none
def fInt := f1 gInt
theorem d_toInt (hg : Gl X "int") (hm : X.mg "int" = none) (hv : bootBuiltins "int" = some (.type "int")) (ha : DE X Ts e f) (he : starEach [e] X.env = (false, eval e X.env) :: starEach [] X.env := by rfl) : DE X Ts (.Call (.Name "int" p) [e] [] pos) (fInt f) :=
  b_argT call_int1 hg hm hv (d_b ha) (he := he) fun d z v H O Q hz q t occ kk => by
    cases d with
    | int i =>
      cases hz
      rcases q with q | ⟨_, _, _, _, e, _⟩
      · cases q
        exact .inl ⟨_, rfl, kk _ H (Xt.refl H) t (.int _)⟩
      · cases e
    | bool k =>
      cases hz
      rcases q with q | ⟨_, _, _, _, e, _⟩
      · cases q
        exact .inr ⟨_, rfl, kk _ H (Xt.refl H) t (.int _)⟩
      · cases e
    | _ => cases hz
def pyTy : PyData → String
  | .none => "NoneType"
  | .bool _ => "bool"
  | .int _ => "int"
  | .str _ => "str"
  | .list _ => "list"
  | .tuple _ => "tuple"
  | .dict _ => "dict"
theorem tyX_of {K : PySem.W.Frag} {H : Hp} {v : V} {d : PyData} (h : Dp K H v d) : TyX K H v (.type (pyTy d)) := by
  cases h with
  | non => exact .base .non
  | bl b => exact .base (.bl b)
  | int i => exact .base (.int i)
  | str s => exact .base (.str s)
  | lst s a =>
    rcases s with (s | ⟨o, s⟩) | ⟨o, its, n, h1, h2, _⟩
    · exact .base (.lst s)
    · exact .base (.frz s)
    · exact .kList h1 h2
  | tup s a =>
    rcases s with (s | ⟨o, s⟩) | ⟨o, its, n, h1, h2, _⟩
    · exact .base (.tup s)
    · exact .fTuple s
    · exact .kTuple h1 h2
  | dct e => exact .base (.dK e)
def fIsi (q : PyData → Bool) := f1 (fun d => some (.bool (q d)))
def isInt : PyData → Bool
  | .int _ => true
  | .bool _ => true
  | _ => false
def isBool : PyData → Bool
  | .bool _ => true
  | _ => false
def isTup : PyData → Bool
  | .tuple _ => true
  | _ => false
theorem isi_int : ∀ d, kitB (pyTy d) "int" = some (isInt d) := fun d => by cases d <;> (simp only [pyTy, isInt]; decide +kernel)
theorem isi_bool : ∀ d, kitB (pyTy d) "bool" = some (isBool d) := fun d => by cases d <;> (simp only [pyTy, isBool]; decide +kernel)
theorem isi_tuple : ∀ d, kitB (pyTy d) "tuple" = some (isTup d) := fun d => by cases d <;> (simp only [pyTy, isTup]; decide +kernel)
theorem d_isi {T : String} {x : Str} {q : PyData → Bool} {px : Pos} (hq : ∀ d, kitB (pyTy d) T = some (q d)) (hg : Gl X "isinstance") (hm : X.mg "isinstance" = none) (hv : bootBuiltins "isinstance" = some (.builtin "isinstance"))
    (hgT : Gl X x) (hmT : X.mg x = none) (hvT : bootBuiltins x = some (.type T)) (ha : DE X Ts e f) (hnT : x ≠ "__name__" := by decide) (hdT : (x == ("__debug__" : Str)) = false := by decide)
    (he : starEach [e, .Name x px] X.env = (false, eval e X.env) :: starEach [.Name x px] X.env := by rfl) (he2 : starEach [.Name x px] X.env = (false, eval (.Name x px) X.env) :: starEach [] X.env := by rfl) (hpl : (backTo pos (starEach [.Name x px] X.env)).any (·.1) = false := by rfl) :
    DE X Ts (.Call (.Name "isinstance" p) [e, .Name x px] [] pos) (fIsi q f) :=
  PE.imp (pe_callB (t := tCons (tD X.K Ts f) (tCons (tC (.ty T)) tNil)) call_isi hg hm hv (pa_cons ha (pa_cons (pe_bltn (v := .ty T) hgT hmT hvT rfl hnT hdT) pa_nil he2) he) (by decide) (by decide) he hpl) fun σ H Q ⟨He, O, en, d, rp, hf, kk⟩ => by
    obtain ⟨x, h1, h2⟩ := f1_some hf
    cases h2
    exact tD.of rp h1 fun v H1 x1 r1 q1 => ⟨v, .ty T, _, _, q x, rfl, .ty T, tyX_of (Dp.mono hide_out q1), kit_ty (hq x), kk _ H1 x1 r1.tabs (.bl _)⟩
def gIx : PyData → PyData → Option PyData := fun d i => match i with
  | .int i => (items d).bind fun ds => atI ds i
  | _ => none
def fIx := f2 gIx
theorem atI_dp {K : PySem.W.Frag} {H : Hp} {vs : List V} {ds : List PyData} {i : Int} {d : PyData} (h : DpAll K H vs ds) (e : atI ds i = some d) : ∃ v, atI vs i = some v ∧ Dp K H v d := by
  unfold atI at e ⊢
  rw [DpAll.len h]
  obtain ⟨j, h1, h2⟩ := Option.bind_eq_some_iff.mp e
  obtain ⟨v, h3, h4⟩ := DpAll.get' h h2
  exact ⟨v, by rw [h1]; exact h3, h4⟩
theorem b_ix (ha : DB X Ts e f) (hb : DE X Ts e2 g) (hs : PlainIx e2 := by exact fun _ _ => rfl) : DE X Ts (.Subscript e e2 pos) (fIx f g) := PE.imp (pe_ix ix_seq ha hb hs) fun σ H Q ⟨He, O, en, d, rp, hf, kk⟩ => by
  obtain ⟨x, y, h1, h2, h3⟩ := f2_some hf
  refine tB.of rp h1 fun v H1 x1 r1 q1 => tD.of r1 h2 fun w H2 x2 r2 q2 => ?_
  unfold gIx at h3
  cases q2 <;> try cases h3
  rename_i i
  obtain ⟨ds, h4, h5⟩ := Option.bind_eq_some_iff.mp h3
  cases x <;> simp only [items] at h4 <;> cases h4
  · obtain ⟨a, vs, rfl, s, qs⟩ := q1.lst
    obtain ⟨u, h6, h7⟩ := atI_dp qs h5
    exact .inl ⟨a, vs, i, u, rfl, rfl, sqL_mono (fun o n e => x2.get _ o e n) s, h6, kk u H2 (x1.trans x2) r2.tabs (Dp.mono (hide_mono x2) h7)⟩
  · obtain ⟨a, vs, rfl, s, qs⟩ := q1.tup
    obtain ⟨u, h6, h7⟩ := atI_dp qs h5
    exact .inr (.inl ⟨a, vs, i, u, rfl, rfl, sqT_mono (fun o n e => x2.get _ o e n) s, h6, kk u H2 (x1.trans x2) r2.tabs (Dp.mono (hide_mono x2) h7)⟩)
def cutD (ds : List PyData) (lo hi : Option Int) : List PyData := (ds.drop (HT.sIx ds.length 0 lo)).take (HT.sIx ds.length ds.length hi - HT.sIx ds.length 0 lo)
theorem cut_dp {K : PySem.W.Frag} {H : Hp} {vs : List V} {ds : List PyData} (h : DpAll K H vs ds) (lo hi : Option Int) : DpAll K H (cutV vs lo hi) (cutD ds lo hi) := by
  unfold cutV cutD
  rw [DpAll.len h]
  exact DpAll.take _ (DpAll.drop _ h)
theorem sl_seq : SlR X (fun x lo hi H Q => rSlA X.K x lo hi H Q ∨ rSlL X.K x lo hi H Q) := by
  intro pins s σ H x v vl vu lo hi sl Q I rx hs pl pu h
  rcases h with h | h
  · exact sl_tupA pins s σ H x v vl vu lo hi sl Q I rx hs pl pu h
  · exact sl_list pins s σ H x v vl vu lo hi sl Q I rx hs pl pu h
def fNoPart : En → Option (Option Int) := fun _ => some none
def fPart (f : En → Option PyData) : En → Option (Option Int) := fun en => match f en with
  | some (.int i) => some (some i)
  | _ => none
def tPO (K : PySem.W.Frag) (Ts : TsT) (f : En → Option (Option Int)) : TO := fun σ H Q => ∃ He O en o, Rep K Ts He O σ H en ∧ f en = some o ∧ ∀ H', Xt H H' → Tb Ts H' → Q o H'
abbrev DP (X : Cx) (Ts : TsT) (e : Option Expr) (f : En → Option (Option Int)) : Prop := PO X e (tPO X.K Ts f)
theorem dp_none : DP X Ts none fNoPart := ⟨fun pins s σ H Q I ⟨He, O, en, o, rp, hf, kk⟩ => by
  cases hf
  exact po_none.run pins s σ H Q I (kk H (Xt.refl H) rp.tabs)⟩
theorem dp_some (h : DE X Ts e f) : DP X Ts (some e) (fPart f) := ⟨fun pins s σ H Q I ⟨He, O, en, o, rp, hf, kk⟩ => by
  unfold fPart at hf
  split at hf
  · rename_i i e
    cases hf
    exact (po_some h).run pins s σ H Q I (tD.of rp e fun v H1 x1 r1 q1 => by cases q1; exact ⟨i, rfl, kk H1 x1 r1.tabs⟩)
  · cases hf⟩
def gCut : PyData → Option Int → Option Int → Option PyData
  | .list ds, lo, hi => some (.list (cutD ds lo hi))
  | .tuple ds, lo, hi => some (.tuple (cutD ds lo hi))
  | _, _, _ => none
def fCut (f : En → Option PyData) (l h : En → Option (Option Int)) : En → Option PyData := fun en => (f en).bind fun d => (l en).bind fun lo => (h en).bind fun hi => gCut d lo hi
theorem cutD_whole {ds : List PyData} {lo hi : Option Int} (h : HT.sIx ds.length 0 lo = 0 ∧ HT.sIx ds.length ds.length hi = ds.length) : cutD ds lo hi = ds := by
  unfold cutD
  rw [h.1, h.2]
  simp
theorem b_cut {lo hi : Option Expr} {fl fh : En → Option (Option Int)} {p2 : Pos} (ha : DB X Ts e f) (hl : DP X Ts lo fl) (hh : DP X Ts hi fh) : DE X Ts (.Subscript e (.Slice lo hi none p2) pos) (fCut f fl fh) := PE.imp (pe_slice sl_seq ha hl hh) fun σ H Q ⟨He, O, en, d, rp, hf, kk⟩ => by
  unfold fCut at hf
  obtain ⟨x, h1, hf1⟩ := Option.bind_eq_some_iff.mp hf
  obtain ⟨l, h2, hf2⟩ := Option.bind_eq_some_iff.mp hf1
  obtain ⟨u, h3, h4⟩ := Option.bind_eq_some_iff.mp hf2
  clear hf hf1 hf2
  refine tB.of rp h1 fun v H1 x1 r1 q1 => ⟨He, O, en, l, r1, h2, fun H2 x2 t2 => ⟨He, O, en, u, r1.go x2 t2, h3, fun H3 x3 t3 => ?_⟩⟩
  have r3 := (r1.go x2 t2).go x3 t3
  have x13 : Xt H1 H3 := x2.trans x3
  cases x <;> simp only [gCut] at h4 <;> cases h4
  · obtain ⟨a, vs, rfl, s, qs⟩ := q1.lst
    have qs3 := DpAll.mono (hide_mono (O := O) x13) qs
    exact .inr ⟨a, vs, rfl, sqL_mono (fun o n e => x13.get _ o e n) s, fun p np => kk _ _ (x1.trans (x13.trans (Xt.upd np))) (t3.new np) (lst_new np (new_out r3.occ np) (cut_dp qs3 l u))⟩
  · rename_i ds
    rcases q1 with q1 | ⟨_, _, _, _, e, _⟩
    · cases q1 with
      | tup s0 qs =>
        rename_i a vs
        have s := sqT_mono (H' := H1) (fun o n e => (hide_some e).2) s0
        have qs3 := DpAll.mono (hide_mono (O := O) x13) qs
        refine .inl ⟨a, vs, rfl, sqT_mono (fun o n e => x13.get _ o e n) s, fun hw => ?_, fun hw p np => kk _ _ (x1.trans (x13.trans (Xt.upd np))) (t3.new np) (tup_new np (new_out r3.occ np) (cut_dp qs3 l u))⟩
        rw [DpAll.len qs] at hw
        rw [cutD_whole hw] at kk
        exact kk _ H3 (x1.trans x13) t3 (Dp.mono (hide_mono x13) (.tup s0 qs))
    · cases e
def fGcd := f2 (gI fun i j => .int ((Nat.gcd i.natAbs j.natAbs : Nat) : Int))
end
def gD (K : PySem.W.Frag) (Ts : TsT) (vs : List Nat) (b : PyData → En → Option En) : TG := fun x σ H Q => ∃ He O en d en', Rep K Ts He O σ H en ∧ Dp K (hide H O) x d ∧ b d en = some en' ∧ ∀ σ', Rep K Ts He O σ' H en' → wipe σ' vs = wipe σ vs → Q σ' H
abbrev DG (X : Cx) (Ts : TsT) (tg : Expr) (vs : List Nat) (b : PyData → En → Option En) : Prop := PG X tg (gD X.K Ts vs b)
theorem PG.imp {X : Cx} {tg : Expr} {g g' : TG} (h : PG X tg g) (w : ∀ x σ H Q, g' x σ H Q → g x σ H Q) : PG X tg g' := ⟨fun pins s σ H v u Q I r q => h.run pins s σ H v u Q I r (w v σ H Q q)⟩
def bName (i : Nat) : PyData → En → Option En := fun d en => if i < en.length then some (en.set i (.dat d)) else none
theorem Rep.setD {K : PySem.W.Frag} {Ts : TsT} {He : Hp} {O : List Addr} {σ : St} {H : Hp} {en : En} (r : Rep K Ts He O σ H en) {i : Nat} {x : V} {d : PyData} (hi : i < en.length) (q : Dp K (hide H O) x d) : Rep K Ts He O (σ.set i (some x)) H (en.set i (.dat d)) := by
  have hs : i < σ.length := by rw [← r.len]; exact hi
  refine ⟨by simp [r.len], fun j e h => ?_, fun j ds h => ?_, fun j k ds es a h1 h2 h3 h4 => ?_, r.occ, r.ext, r.tabs⟩
  · by_cases hj : i = j
    · subst hj
      rw [List.getElem?_set_self hi] at h
      cases h
      exact ⟨x, by rw [List.getElem?_set_self hs], q⟩
    · rw [List.getElem?_set_ne hj] at h
      obtain ⟨v, a, b⟩ := r.dat j e h
      exact ⟨v, by rw [List.getElem?_set_ne hj]; exact a, b⟩
  · by_cases hj : i = j
    · subst hj
      rw [List.getElem?_set_self hi] at h
      cases h
    · rw [List.getElem?_set_ne hj] at h
      obtain ⟨a, vs, h1, h2⟩ := r.own j ds h
      exact ⟨a, vs, by rw [List.getElem?_set_ne hj]; exact h1, h2⟩
  · have hj : i ≠ j := fun e => by subst e; rw [List.getElem?_set_self hi] at h1; cases h1
    have hk : i ≠ k := fun e => by subst e; rw [List.getElem?_set_self hi] at h2; cases h2
    rw [List.getElem?_set_ne hj] at h1 h3
    rw [List.getElem?_set_ne hk] at h2 h4
    exact r.inj j k ds es a h1 h2 h3 h4
theorem wipe_comm (σ : St) (i : Nat) (y : Option V) : ∀ vs : List Nat, i ∈ vs → wipe (σ.set i y) vs = wipe σ vs
  | [], h => by cases h
  | v :: vs, h => by
    unfold wipe
    by_cases hv : i ∈ vs
    · rw [wipe_comm σ i y vs hv]
    · have hvi : i = v := by
        rcases List.mem_cons.mp h with e | e
        · exact e
        · exact absurd e hv
      subst hvi
      have key : ∀ us : List Nat, i ∉ us → wipe (σ.set i y) us = (wipe σ us).set i y := by
        intro us
        induction us with
        | nil => intro _; rfl
        | cons u us ih =>
          intro hn
          have h1 : i ≠ u := fun e => hn (by rw [e]; exact List.mem_cons_self)
          have h2 : i ∉ us := fun e => hn (List.mem_cons_of_mem _ e)
          show (wipe (σ.set i y) us).set u none = ((wipe σ us).set u none).set i y
          rw [ih h2, List.set_comm _ _ h1]
      rw [key vs hv, List.set_set]
theorem wipe_in {σ : St} {i : Nat} : ∀ {vs : List Nat}, i ∈ vs → i < σ.length → (wipe σ vs)[i]? = some none
  | v :: vs, h, hl => by
    unfold wipe
    by_cases hv : v = i
    · subst hv
      rw [List.getElem?_set_self (by rw [wipe_length]; exact hl)]
    · rw [List.getElem?_set_ne hv]
      rcases List.mem_cons.mp h with e | e
      · exact absurd e.symm hv
      · exact wipe_in e hl
theorem wipe_wipe (σ : St) (vs : List Nat) : wipe (wipe σ vs) vs = wipe σ vs := by
  apply List.ext_getElem?
  intro i
  by_cases h : i ∈ vs
  · by_cases hl : i < σ.length
    · rw [wipe_in h (by rw [wipe_length]; exact hl), wipe_in h hl]
    · rw [List.getElem?_eq_none (by rw [wipe_length, wipe_length]; omega), List.getElem?_eq_none (by rw [wipe_length]; omega)]
  · rw [wipe_out h]
section
variable {X : Cx} {Ts : TsT} {pos : Pos}
theorem dg_name (i : Nat) {x : Str} {vs : List Nat} (hN : X.N.Nodup) (hi : X.N[i]? = some x) (hx : Loc X.env.scope x) (hv : i ∈ vs) (hf : X.fn x = true ∨ X.env.scope.names.lookup x = some .local := by first | exact .inl rfl | exact .inr rfl | assumption) : DG X Ts (.Name x pos) vs (bName i) :=
  PG.imp (pg_name hN hi hx hf) fun v σ H Q ⟨He, O, en, d, en', r, q, hb, kk⟩ => by
    unfold bName at hb
    split at hb
    · rename_i hl
      cases hb
      exact kk _ (r.setD hl q) (wipe_comm σ i _ vs hv)
    · cases hb
def bNames : List Nat → List PyData → En → Option En
  | [], [], en => some en
  | i :: is, d :: ds, en => (bName i d en).bind fun e => bNames is ds e
  | _, _, _ => none
def gDs (K : PySem.W.Frag) (Ts : TsT) (vs : List Nat) (is : List Nat) : TGs := fun xs σ H Q => ∃ He O en ds en', Rep K Ts He O σ H en ∧ DpAll K (hide H O) xs ds ∧ bNames is ds en = some en' ∧ ∀ σ', Rep K Ts He O σ' H en' → wipe σ' vs = wipe σ vs → Q σ' H
theorem dgs_nil {vs : List Nat} : PGs X [] (gDs X.K Ts vs []) := ⟨fun pins s σ H xs us Q I r ⟨He, O, en, ds, en', rp, q, hb, kk⟩ => by
  cases q with
  | nil =>
    cases hb
    exact pgs_nil.run pins s σ H _ us Q I r ⟨rfl, kk σ rp rfl⟩
  | cons _ _ => cases hb⟩
theorem dgs_cons {e : Expr} {es : List Expr} {vs is : List Nat} {i : Nat} (h1 : DG X Ts e vs (bName i)) (h2 : PGs X es (gDs X.K Ts vs is)) (hs : (assignEach (e :: es) X.env).map (·.2) = assign e X.env :: (assignEach es X.env).map (·.2) := by rfl) : PGs X (e :: es) (gDs X.K Ts vs (i :: is)) :=
  ⟨fun pins s σ H xs us Q I r ⟨He, O, en, ds, en', rp, q, hb, kk⟩ => by
    cases q with
    | nil => cases hb
    | cons qd qt =>
      obtain ⟨e1, hb1, hb2⟩ := Option.bind_eq_some_iff.mp hb
      exact (pgs_cons h1 h2 hs).run pins s σ H _ us Q I r ⟨_, _, rfl, He, O, en, _, e1, rp, qd, hb1, fun σ' r' w' => ⟨He, O, e1, _, en', r', qt, hb2, fun σ2 r2 w2 => kk σ2 r2 (w2.trans w')⟩⟩⟩
def bTup (is : List Nat) : PyData → En → Option En := fun d en => match d with
  | .tuple ds => bNames is ds en
  | _ => none
theorem bNames_len : ∀ {is : List Nat} {ds : List PyData} {en en' : En}, bNames is ds en = some en' → ds.length = is.length
  | [], [], _, _, _ => rfl
  | i :: is, d :: ds, en, en', h => by
    obtain ⟨e1, _, h2⟩ := Option.bind_eq_some_iff.mp h
    rw [List.length_cons, List.length_cons, bNames_len h2]
  | [], _ :: _, _, _, h => by cases h
  | _ :: _, [], _, _, h => by cases h
theorem dg_tup {es : List Expr} {k : Nat} {vs is : List Nat} (hc : X.calm = true) (h : PGs X es (gDs X.K Ts vs is)) (hn : (assignEach es X.env).length = is.length := by rfl) (hst : (assignEach es X.env).findIdx? (·.1) = none := by rfl) : DG X Ts (.Tuple es k pos) vs (bTup is) :=
  PG.imp (pg_tup hc h hn hst) fun v σ H Q ⟨He, O, en, d, en', r, q, hb, kk⟩ => by
    cases d <;> try cases hb
    rename_i ds
    cases q with
    | tup s a =>
      exact ⟨_, _, rfl, sqT_mono (fun o n e => (hide_some e).2) s, by rw [DpAll.len a]; exact bNames_len hb, He, O, en, ds, en', r, a, hb, kk⟩
def Gives (K : PySem.W.Frag) (Ts : TsT) (J : It) (ds : List PyData) (H1 : Hp) (O : List Addr) : Prop :=
  ∀ O' H2, Xt (hide H1 O) (hide H2 O') → Xt (hide H1 O) H2 → (∀ b ∈ O', H2 b ≠ none ∧ ∀ ps, H2 b ≠ some (.tbl ps)) → (∀ i, i < ds.length → J.go i H2) ∧ J.stop ds.length H2 ∧
    ∀ i x H3, i < ds.length → J.yld i H2 x H3 → ∃ d, ds[i]? = some d ∧ Xt H2 H3 ∧ (Tb Ts H2 → Tb Ts H3) ∧ Dp K (hide H3 O') x d
def tI (K : PySem.W.Frag) (Ts : TsT) (f : En → Option (List PyData)) : TI := fun σ H R => ∃ He O en ds, Rep K Ts He O σ H en ∧ f en = some ds ∧ ∀ J H1, Xt H H1 → Tb Ts H1 → Gives K Ts J ds H1 O → R J H1
abbrev DI (X : Cx) (Ts : TsT) (tg iter : Expr) (f : En → Option (List PyData)) : Prop := PI X tg iter (tI X.K Ts f)
theorem PI.imp {X : Cx} {tg iter : Expr} {t t' : TI} (h : PI X tg iter t) (w : ∀ σ H R, t' σ H R → t σ H R) : PI X tg iter t' := ⟨fun pins s σ H R I q => h.run pins s σ H R I (w σ H R q)⟩
variable {tg e e2 : Expr} {f f2 : En → Option PyData}
def rangeD (lo : Int) (n : Nat) : List PyData := (List.range n).map fun (i : Nat) => PyData.int (lo + (i : Int))
theorem gives_range {K : PySem.W.Frag} {lo : Int} {n : Nat} {H1 : Hp} {O : List Addr} : Gives K Ts (Itr lo n) (rangeD lo n) H1 O := fun O' H2 _ _ _ => by
  have hl : (rangeD lo n).length = n := by simp [rangeD]
  refine ⟨fun i hi => by rw [hl] at hi; exact hi, by rw [hl]; exact Nat.le_refl _, fun i x H3 hi hy => ?_⟩
  obtain ⟨rfl, rfl⟩ := hy
  rw [hl] at hi
  exact ⟨.int (lo + i), by simp [rangeD, hi], Xt.refl _, id, .int _⟩
def wipeE (en : En) : List Nat → En
  | [] => en
  | v :: vs => (wipeE en vs).set v .no
theorem Rep.wipe {K : PySem.W.Frag} {He : Hp} {O : List Addr} {σ : St} {H : Hp} {en : En} (r : Rep K Ts He O σ H en) : ∀ vs : List Nat, Rep K Ts He O (L2.wipe σ vs) H (wipeE en vs)
  | [] => r
  | v :: vs => by
    have ih := Rep.wipe r vs
    show Rep K Ts He O ((L2.wipe σ vs).set v none) H ((wipeE en vs).set v .no)
    refine ⟨by simp [ih.len], fun j e h => ?_, fun j ds h => ?_, fun j k ds es a h1 h2 h3 h4 => ?_, ih.occ, ih.ext, ih.tabs⟩
    · have hj : v ≠ j := fun z => by
        subst z
        by_cases hl : v < (wipeE en vs).length
        · rw [List.getElem?_set_self hl] at h; cases h
        · rw [List.getElem?_eq_none (by simpa using hl)] at h; cases h
      rw [List.getElem?_set_ne hj] at h ⊢
      exact ih.dat j e h
    · have hj : v ≠ j := fun z => by
        subst z
        by_cases hl : v < (wipeE en vs).length
        · rw [List.getElem?_set_self hl] at h; cases h
        · rw [List.getElem?_eq_none (by simpa using hl)] at h; cases h
      rw [List.getElem?_set_ne hj] at h ⊢
      exact ih.own j ds h
    · have hno : ∀ i ds, ((wipeE en vs).set v Slot.no)[i]? = some (Slot.own ds) → v ≠ i := fun i ds h z => by
        subst z
        by_cases hl : v < (wipeE en vs).length
        · rw [List.getElem?_set_self hl] at h; cases h
        · rw [List.getElem?_eq_none (by simpa using hl)] at h; cases h
      have hj := hno j ds h1
      have hk := hno k es h2
      rw [List.getElem?_set_ne hj] at h1 h3
      rw [List.getElem?_set_ne hk] at h2 h4
      exact ih.inj j k ds es a h1 h2 h3 h4
def lcGo (b : PyData → En → Option En) (t : En → Option Bool) (f : En → Option PyData) (en : En) : List PyData → Option (List PyData)
  | [] => some []
  | d :: r => (b d en).bind fun e1 => (t e1).bind fun k => if k = true then (f e1).bind fun y => (lcGo b t f en r).map (y :: ·) else lcGo b t f en r
def fLc (it : En → Option (List PyData)) (b : PyData → En → Option En) (t : En → Option Bool) (f : En → Option PyData) (vs : List Nat) : En → Option PyData := fun en => (it en).bind fun ds =>
  if ds.length ≤ 1000000 then (lcGo b t f (wipeE en vs) ds).map .list else none
def kYes : En → Option Bool := fun _ => some true
theorem dts_nil : PTs X [] (tT X.K Ts kYes) := ⟨fun pins s σ H Q I ⟨He, O, en, b, rp, hf, kk⟩ => by
  cases hf
  exact pts_nil.run pins s σ H Q I (kk H (Xt.refl H) rp.tabs)⟩
def tNew (K : PySem.W.Frag) (Ts : TsT) (f : En → Option PyData) : TE := fun σ H Q => ∃ He O en ds, Rep K Ts He O σ H en ∧ f en = some (.list ds) ∧ ∀ a vs H', Xt H H' → Tb Ts H' → H a = none → H' a = some (.lst vs) → DpAll K (hide H' (a :: O)) vs ds → Q (.ref a) H'
abbrev DNew (X : Cx) (Ts : TsT) (e : Expr) (f : En → Option PyData) : Prop := PE X e (tNew X.K Ts f)
theorem Rep.free {K : PySem.W.Frag} {He : Hp} {O : List Addr} {σ : St} {H : Hp} {en : En} (r : Rep K Ts He O σ H en) {a : Addr} (h : H a = none) : a ∉ O := fun z => (r.occ a z).1 h
theorem new_w {K : PySem.W.Frag} {f : En → Option PyData} {σ : St} {H : Hp} {Q : VK} (h : tD K Ts f σ H Q) (hl : ∀ en d, f en = some d → ∃ ds, d = .list ds) : tNew K Ts f σ H Q := by
  obtain ⟨He, O, en, d, rp, hf, kk⟩ := h
  obtain ⟨ds, rfl⟩ := hl en d hf
  exact ⟨He, O, en, ds, rp, hf, fun a vs H' x t na ha q => kk _ H' x t (.lst (.inl (.inl (hide_of (rp.free na) ha))) (DpAll.mono (hide_sub fun b hb => List.mem_cons_of_mem _ hb) q))⟩
theorem fLc_list {it : En → Option (List PyData)} {b : PyData → En → Option En} {t : En → Option Bool} {f : En → Option PyData} {vs : List Nat} : ∀ en d, fLc it b t f vs en = some d → ∃ ds, d = .list ds := fun en d h => by
  unfold fLc at h
  obtain ⟨ds, _, h⟩ := Option.bind_eq_some_iff.mp h
  split at h
  · obtain ⟨out, _, rfl⟩ := Option.map_eq_some_iff.mp h
    exact ⟨out, rfl⟩
  · cases h
theorem lc_w {K : PySem.W.Frag} {it : En → Option (List PyData)} {b : PyData → En → Option En} {t : En → Option Bool} {f : En → Option PyData} {vs : List Nat} {σ : St} {H : Hp} {Q : VK} (h : tNew K Ts (fLc it b t f vs) σ H Q) :
    tLc (tI K Ts it) (gD K Ts vs b) (tT K Ts t) (tD K Ts f) vs σ H Q := by
  obtain ⟨He, O, en, out, rp, hf, kk⟩ := h
  unfold fLc at hf
  obtain ⟨ds, h1, hf1⟩ := Option.bind_eq_some_iff.mp hf
  clear hf
  split at hf1
  · rename_i hlen
    obtain ⟨out', h2, h3⟩ := Option.map_eq_some_iff.mp hf1
    cases h3
    refine ⟨He, O, en, ds, rp, h1, fun J H1 x1 t1 gv D nD => ?_⟩
    have nDH : H D = none := x1.there nD
    have r1 := rp.go x1 t1
    have rD : Rep K Ts He (D :: O) σ (upd H1 D (.lst [])) en := r1.hid nD (fun _ z => nomatch z)
    refine ⟨fun i m H2 => m = ds.length - i ∧ i ≤ ds.length ∧ Xt H1 H2 ∧ Rep K Ts He (D :: O) (L2.wipe σ vs) H2 (wipeE en vs) ∧ ∃ acc done rest, H2 D = some (.lst acc) ∧ DpAll K (hide H2 (D :: O)) acc done ∧ acc.length ≤ i ∧ lcGo b t f (wipeE en vs) (ds.drop i) = some rest ∧ out = done ++ rest,
      ⟨ds.length, by simp, Nat.zero_le _, Xt.upd nD, rD.wipe vs, [], [], out, upd_same, .nil, Nat.zero_le _, by simpa using h2, rfl⟩, fun i m H2 hW => ?_⟩
    obtain ⟨rfl, hi, x12, r2, acc, done, rest, hD, ha, hal, hgo, hout⟩ := hW
    have xh : Xt (hide H1 O) (hide H2 (D :: O)) := fun b o e => by
      obtain ⟨e1, e2⟩ := hide_some e
      have nb : b ∉ D :: O := fun z => by
        rcases List.mem_cons.mp z with z | z
        · rw [z, nD] at e2; cases e2
        · exact e1 z
      rcases x12 b o e2 with q | ⟨ps, qs, e3, q⟩
      · exact .inl (hide_of nb q)
      · exact .inr ⟨ps, qs, e3, hide_of nb q⟩
    obtain ⟨g1, g2, g3⟩ := gv (D :: O) H2 xh (hide_out.trans x12) r2.occ
    by_cases hlt : i < ds.length
    · refine .inr ⟨g1 i hlt, fun H' => Xt H1 H' ∧ Rep K Ts He (D :: O) (L2.wipe σ vs) H' (wipeE en vs) ∧ ∃ acc done rest, H' D = some (.lst acc) ∧ DpAll K (hide H' (D :: O)) acc done ∧ acc.length ≤ i + 1 ∧ lcGo b t f (wipeE en vs) (ds.drop (i + 1)) = some rest ∧ out = done ++ rest,
        fun H' ⟨a, c⟩ => ⟨ds.length - (i + 1), by omega, rfl, hlt, a, c⟩, fun x H3 hy => ?_⟩
      obtain ⟨d, hd, x23, t23, qd⟩ := g3 i x H3 hlt hy
      have r3 := r2.go x23 (t23 r2.tabs)
      rw [List.drop_eq_getElem_cons hlt] at hgo
      have hd' : ds[i] = d := by rw [List.getElem?_eq_getElem hlt] at hd; exact Option.some.inj hd
      rw [hd'] at hgo
      unfold lcGo at hgo
      obtain ⟨e1, hb, hgo1⟩ := Option.bind_eq_some_iff.mp hgo
      obtain ⟨k, ht, hgo2⟩ := Option.bind_eq_some_iff.mp hgo1
      clear hgo hgo1
      refine ⟨He, D :: O, _, d, e1, r3, qd, hb, fun σ2 r4 hw => ⟨hw.trans (wipe_wipe _ _), ?_⟩⟩
      refine tT.of r4 ht fun H4 x34 r5 => ?_
      have x14 : Xt H2 H4 := x23.trans x34
      have hD4 : H4 D = some (.lst acc) := x14.get D _ hD (fun _ z => nomatch z)
      have ha4 := DpAll.mono (hide_mono (O := D :: O) x14) ha
      have rw4 : Rep K Ts He (D :: O) (L2.wipe σ vs) H4 (wipeE en vs) := r2.go x14 r5.tabs
      cases k with
      | false =>
        simp only [Bool.false_eq_true, if_false] at hgo2 ⊢
        exact ⟨x12.trans x14, rw4, acc, done, rest, hD4, ha4, by omega, hgo2, hout⟩
      | true =>
        simp only [if_true] at hgo2 ⊢
        obtain ⟨y, hy1, hgo3⟩ := Option.bind_eq_some_iff.mp hgo2
        obtain ⟨rest', hr1, hr2⟩ := Option.map_eq_some_iff.mp hgo3
        subst hr2
        refine tD.of r5 hy1 fun v H5 x45 r6 q6 => ?_
        have x25 : Xt H2 H5 := x14.trans x45
        have hD5 : H5 D = some (.lst acc) := x25.get D _ hD (fun _ z => nomatch z)
        have ha5 := DpAll.mono (hide_mono (O := D :: O) x25) ha
        have hDm : D ∈ D :: O := List.mem_cons_self
        have hu : Xt (hide H5 (D :: O)) (hide (upd H5 D (.lst (acc ++ [v]))) (D :: O)) := hide_upd hDm
        refine ⟨acc, hD5, by rw [sizeLine_eq]; omega, ?_, ?_, acc ++ [v], done ++ [y], rest', upd_same, DpAll.app (DpAll.mono hu ha5) (.cons (Dp.mono hu q6) .nil), by rw [List.length_append]; simp; omega, hr1, by rw [hout]; simp⟩
        · intro b o e
          have hne : b ≠ D := ne_of_none e nD
          rw [upd_ne hne]
          exact (x12.trans x25) b o e
        · have rw5 : Rep K Ts He (D :: O) (L2.wipe σ vs) H5 (wipeE en vs) := r2.go x25 r6.tabs
          have nown : ∀ j es a, (wipeE en vs)[j]? = some (Slot.own es) → (L2.wipe σ vs)[j]? = some (some (V.ref a)) → a ≠ D := fun j es a h1 h2 z => by
            obtain ⟨a', vs', g1, g2, g3, g4, _⟩ := (r1.wipe vs).own j es h1
            rw [h2] at g1
            cases g1
            rw [z, nD] at g4
            cases g4
          refine ⟨rw5.len, fun j dd h => let ⟨u, p, q⟩ := rw5.dat j dd h; ⟨u, p, Dp.mono hu q⟩, fun j es h => ?_, rw5.inj, fun bb hb => ?_, ?_, rw5.tabs.upd fun u z => by rw [hD5] at z; cases z; exact lst_noc⟩
          · obtain ⟨a, ws, p1, p2, p3, p4, p5⟩ := rw5.own j es h
            exact ⟨a, ws, p1, p2, p3, by rw [upd_ne (nown j es a h p1)]; exact p4, DpAll.mono hu p5⟩
          · by_cases z : bb = D
            · rw [z, upd_same]
              exact ⟨by simp, fun ps q => nomatch q⟩
            · rw [upd_ne z]
              exact rw5.occ bb hb
          · intro bb o e
            have e1 := rw5.ext bb o e
            have hne : bb ≠ D := fun z => by
              have := (rp.ext.trans x1).there (b := bb) (by rw [z]; exact nD)
              rw [this] at e
              cases e
            rw [upd_ne hne]
            exact e1
    · have hie : i = ds.length := by omega
      subst hie
      rw [List.drop_of_length_le (Nat.le_refl _)] at hgo
      cases hgo
      rw [List.append_nil] at hout
      subst hout
      exact .inl ⟨g2, kk D acc H2 (x1.trans x12) r2.tabs nDH hD ha⟩
  · cases hf1
end
abbrev BX (X : Cx) (scope : Scope) (s : Shared) (H : Hp) (C : Addr) (cl : List (Str × Addr)) (fp : List Addr) : Cx := X.blk s H scope (compEnvC scope cl C X.env) fp
section
variable {X : Cx} {Ts : TsT} {pos : Pos} {elt tg iter : Expr} {ifs : List Expr} {scope : Scope} {own : List (Str × Nat)} {it : En → Option (List PyData)} {b : PyData → En → Option En} {t : En → Option Bool} {f : En → Option PyData}
theorem n_lc (hc : X.calm = true) (hN : X.N.Nodup) (hi : DI X Ts tg iter it) (ok : BlkOk X.N X.env.scope scope own)
    (hg : ∀ s H C cl fp, DG (BX X scope s H C cl fp) Ts tg (own.map (·.2)) b) (ht : ∀ s H C cl fp, PTs (BX X scope s H C cl fp) ifs (tT X.K Ts t))
    (he : ∀ s H C cl fp, DE (BX X scope s H C cl fp) Ts elt f) (hs : ∀ x, foldedSetIterable iter X.env x = pure x := by intro _; rfl) : DNew X Ts (.ListComp elt [⟨tg, iter, ifs, 0⟩] scope pos) (fLc it b t f (own.map (·.2))) :=
  PE.imp (pe_lc hc hN hi ok (fun s H C cl fp => hg s H C cl fp) (fun s H C cl fp => ht s H C cl fp) (fun s H C cl fp => he s H C cl fp) hs) fun σ H Q h => lc_w h
theorem d_lc (hc : X.calm = true) (hN : X.N.Nodup) (hi : DI X Ts tg iter it) (ok : BlkOk X.N X.env.scope scope own)
    (hg : ∀ s H C cl fp, DG (BX X scope s H C cl fp) Ts tg (own.map (·.2)) b) (ht : ∀ s H C cl fp, PTs (BX X scope s H C cl fp) ifs (tT X.K Ts t))
    (he : ∀ s H C cl fp, DE (BX X scope s H C cl fp) Ts elt f) (hs : ∀ x, foldedSetIterable iter X.env x = pure x := by intro _; rfl) : DE X Ts (.ListComp elt [⟨tg, iter, ifs, 0⟩] scope pos) (fLc it b t f (own.map (·.2))) :=
  PE.imp (n_lc hc hN hi ok hg ht he hs) fun σ H Q h => new_w h fLc_list
def NoOwn (D : Addr) (τ : St) (en : En) : Prop := ∀ (j : Nat) (es : List PyData) (a : Addr), en[j]? = some (Slot.own es) → τ[j]? = some (some (V.ref a)) → a ≠ D
theorem wipeE_own {en : En} {vs : List Nat} {j : Nat} {es : List PyData} (h : (wipeE en vs)[j]? = some (Slot.own es)) : en[j]? = some (Slot.own es) ∧ j ∉ vs := by
  induction vs with
  | nil => exact ⟨h, by simp⟩
  | cons v vs ih =>
    have h : ((wipeE en vs).set v .no)[j]? = some (Slot.own es) := h
    have hj : v ≠ j := fun z => by
      subst z
      by_cases hl : v < (wipeE en vs).length
      · rw [List.getElem?_set_self hl] at h; cases h
      · rw [List.getElem?_eq_none (by simpa using hl)] at h; cases h
    rw [List.getElem?_set_ne hj] at h
    obtain ⟨h1, h2⟩ := ih h
    exact ⟨h1, by simp only [List.mem_cons, not_or]; exact ⟨fun e => hj e.symm, h2⟩⟩
theorem NoOwn.wipe {D : Addr} {τ : St} {en : En} (h : NoOwn D τ en) (vs : List Nat) : NoOwn D (L2.wipe τ vs) (wipeE en vs) := fun j es a h1 h2 => by
  obtain ⟨h3, h4⟩ := wipeE_own h1
  rw [wipe_out h4] at h2
  exact h j es a h3 h2
def allGo (ev : Bool) (b : PyData → En → Option En) (f : En → Option PyData) (en : En) : List PyData → Option PyData
  | [] => some (.bool ev)
  | d :: r => (b d en).bind fun e1 => match f e1 with
    | some (.bool k) => if k = ev then allGo ev b f en r else some (.bool k)
    | _ => none
def fAll (ev : Bool) (it : En → Option (List PyData)) (b : PyData → En → Option En) (f : En → Option PyData) (vs : List Nat) : En → Option PyData := fun en => (it en).bind fun ds => allGo ev b f (wipeE en vs) ds
theorem all_w {K : PySem.W.Frag} {ev : Bool} {P : Addr} {vs : List Nat} {σ : St} {H : Hp} {Q : VK} (hP : P ∈ Ts.gs) (h : tD K Ts (fAll ev it b f vs) σ H Q) : GA.tGen ev P (tI K Ts it) (gD K Ts vs b) (tD K Ts f) vs σ H Q := by
  obtain ⟨He, O, en, d0, rp, hf, kk⟩ := h
  unfold fAll at hf
  obtain ⟨ds, h1, h2⟩ := Option.bind_eq_some_iff.mp hf
  clear hf
  refine ⟨He, O, en, ds, rp, h1, fun J H1 x1 t1 gv => ⟨t1.1 P hP, fun Hn tb => ?_⟩⟩
  have xn : Xt H1 Hn := fun bb o e => by
    by_cases z : bb = P
    · obtain ⟨ps, e1, _⟩ := t1.1 P hP
      obtain ⟨qs, e2, _⟩ := tb.1
      rw [z] at e ⊢
      rw [e1] at e
      cases e
      exact .inr ⟨ps, qs, rfl, e2⟩
    · rw [tb.2 bb z]
      exact .inl e
  have tn : Tb Ts Hn := by
    refine ⟨fun P' hP' => ?_, fun P' hP' => ?_, t1.2.2⟩
    · by_cases z : P' = P
      · rw [z]; exact tb.1
      · obtain ⟨ps, e1, e2⟩ := t1.1 P' hP'
        exact ⟨ps, by rw [tb.2 P' z]; exact e1, e2⟩
    · have z : P'.1 ≠ P := fun z => (t1.2.2 P' hP').1 (by rw [z]; exact hP)
      obtain ⟨ps, e1, e2, e3⟩ := t1.2.1 P' hP'
      refine ⟨ps, by rw [tb.2 P'.1 z]; exact e1, e2, fun pos cv hc => ?_⟩
      obtain ⟨c, c1, c2⟩ := e3 pos cv hc
      refine ⟨c, c1, ?_⟩
      rw [tb.2 c (fun y => by
        obtain ⟨qs, q1, _⟩ := t1.1 P hP
        rw [y, q1] at c2
        unfold LamX.CodeO at c2
        cases c2)]
      exact c2
  refine ⟨fun i m H2 => m = ds.length - i ∧ i ≤ ds.length ∧ Xt H1 H2 ∧ Rep K Ts He O (L2.wipe σ vs) H2 (wipeE en vs) ∧ allGo ev b f (wipeE en vs) (ds.drop i) = some d0,
    ⟨ds.length, by simp, Nat.zero_le _, xn, ((rp.go x1 t1).go xn tn).wipe vs, by simpa using h2⟩, fun i m H2 hW => ?_⟩
  obtain ⟨rfl, hi, x12, r2, hgo⟩ := hW
  obtain ⟨g1, g2, g3⟩ := gv O H2 (hide_mono x12) (hide_out.trans x12) r2.occ
  by_cases hlt : i < ds.length
  · refine .inr ⟨g1 i hlt, fun H' => Xt H1 H' ∧ Rep K Ts He O (L2.wipe σ vs) H' (wipeE en vs) ∧ allGo ev b f (wipeE en vs) (ds.drop (i + 1)) = some d0, fun H' ⟨a, c⟩ => ⟨ds.length - (i + 1), by omega, rfl, hlt, a, c⟩, fun x H3 hy => ?_⟩
    obtain ⟨d, hd, x23, t23, qd⟩ := g3 i x H3 hlt hy
    have r3 := r2.go x23 (t23 r2.tabs)
    rw [List.drop_eq_getElem_cons hlt] at hgo
    have hd' : ds[i] = d := by rw [List.getElem?_eq_getElem hlt] at hd; exact Option.some.inj hd
    rw [hd'] at hgo
    unfold allGo at hgo
    obtain ⟨e1, hb, hgo1⟩ := Option.bind_eq_some_iff.mp hgo
    clear hgo
    refine ⟨He, O, _, d, e1, r3, qd, hb, fun σ2 r4 hw => ⟨hw.trans (wipe_wipe _ _), ?_⟩⟩
    split at hgo1
    · rename_i k hk
      refine tD.of r4 hk fun v H4 x34 r5 q5 => ?_
      cases q5
      refine ⟨k, rfl, ?_⟩
      by_cases hke : k = ev
      · rw [if_pos hke] at hgo1 ⊢
        exact ⟨x12.trans (x23.trans x34), r2.go (x23.trans x34) r5.tabs, hgo1⟩
      · rw [if_neg hke] at hgo1 ⊢
        cases hgo1
        exact kk _ H4 (x1.trans (x12.trans (x23.trans x34))) r5.tabs (.bl _)
    · cases hgo1
  · have hie : i = ds.length := by omega
    subst hie
    rw [List.drop_of_length_le (Nat.le_refl _)] at hgo
    cases hgo
    exact .inl ⟨g2, kk _ H2 (x1.trans x12) r2.tabs (.bl _)⟩
abbrev GX (X : Cx) (scope : Scope) (s : Shared) (H : Hp) (cl : List (Str × Addr)) (C : Addr) (code : Value) (fp : List Addr) (pn : List (Addr × Obj)) : Cx := GA.gCx X s H (genEnv scope cl C code builtinsNs X.env) fp pn
theorem d_all {c P : Addr} {p gpos : Pos} {k : Nat} (hr : Room k X.A) (hgl : Gl X "all") (hm : X.mg "all" = none) (hb : bootBuiltins "all" = some (.builtin "all")) (TB : LamX.TabB X.base X.mg c P) (hP : P ∈ Ts.gs) (hcode : X.env.code = .ref c) (hc : X.calm = true) (hN : X.N.Nodup)
    (hi : DI X Ts tg iter it) (ok : BlkOk X.N X.env.scope scope own) (gk : GA.GenK scope) (hg : ∀ s H cl C code fp pn, DG (GX X scope s H cl C code fp pn) Ts tg (own.map (·.2)) b) (he : ∀ s H cl C code fp pn, DE (GX X scope s H cl C code fp pn) Ts elt f)
    (hs : ∀ v, genFold iter X.env v = pure v := by intro _; rfl) (hst : starEach [.GeneratorExp elt [⟨tg, iter, [], 0⟩] scope gpos] X.env = (false, eval (.GeneratorExp elt [⟨tg, iter, [], 0⟩] scope gpos) X.env) :: starEach [] X.env := by rfl) :
    DE X Ts (.Call (.Name "all" p) [.GeneratorExp elt [⟨tg, iter, [], 0⟩] scope gpos] [] pos) (fAll true it b f (own.map (·.2))) :=
  PE.imp (GA.pe_allG hr hgl hm hb TB hcode hc hN hi ok gk (fun s H cl C code fp pn => hg s H cl C code fp pn) (fun s H cl C code fp pn => he s H cl C code fp pn) hs hst) fun σ H Q h => all_w hP h
end
inductive Fl where
  | nx (en : En) | rt (d : PyData) | bk (en : En) | ct (en : En)
def RepS (K : PySem.W.Frag) (Ts : TsT) (He : Hp) (O₀ : List Addr) (Vz : Hp) (σ : St) (H : Hp) (en : En) : Prop := ∃ O, (∀ b ∈ O₀, b ∈ O) ∧ (∀ b ∈ O₀, He b ≠ none) ∧ Rep K Ts He O σ H en ∧ Xt Vz (hide H O)
def Post (K : PySem.W.Frag) (Ts : TsT) (He : Hp) (O₀ : List Addr) (Vz : Hp) (D : Ends) : Fl → Prop
  | .nx en => ∀ σ' H', RepS K Ts He O₀ Vz σ' H' en → D.nx σ' H'
  | .rt d => ∀ v H', Xt He H' → Tb Ts H' → Dp K (hide H' O₀) v d → D.rt v H'
  | .bk en => ∀ σ' H', RepS K Ts He O₀ Vz σ' H' en → D.bk σ' H'
  | .ct en => ∀ σ' H', RepS K Ts He O₀ Vz σ' H' en → D.ct σ' H'
def tS (K : PySem.W.Frag) (Ts : TsT) (F : En → Option Fl) : TS := fun D σ H => ∃ He O₀ Vz en r, RepS K Ts He O₀ Vz σ H en ∧ F en = some r ∧ Post K Ts He O₀ Vz D r
abbrev DS (X : Cx) (Ts : TsT) (st : Stmt) (F : En → Option Fl) : Prop := PS X st (tS X.K Ts F)
abbrev DSs (X : Cx) (Ts : TsT) (st : List Stmt) (F : En → Option Fl) : Prop := PSs X st (tS X.K Ts F)
theorem RepS.go {K : PySem.W.Frag} {Ts : TsT} {He : Hp} {O₀ : List Addr} {σ : St} {H H' : Hp} {en : En} {Vz : Hp} (r : RepS K Ts He O₀ Vz σ H en) (x : Xt H H') (t : Tb Ts H') : RepS K Ts He O₀ Vz σ H' en :=
  let ⟨O, a, b, c, d⟩ := r; ⟨O, a, b, c.go x t, d.trans (hide_mono x)⟩
def sSeq (F G : En → Option Fl) : En → Option Fl := fun en => match F en with
  | some (.nx e) => G e
  | r => r
def sNil : En → Option Fl := fun en => some (.nx en)
def sSet (i : Nat) (f : En → Option PyData) : En → Option Fl := fun en => (f en).bind fun d => (bName i d en).map .nx
def sBind (b : PyData → En → Option En) (f : En → Option PyData) : En → Option Fl := fun en => (f en).bind fun d => (b d en).map .nx
def sOwn (i : Nat) (f : En → Option PyData) : En → Option Fl := fun en => match f en with
  | some (.list ds) => if i < en.length then some (.nx (en.set i (.own ds))) else none
  | _ => none
def sApp (i : Nat) (f : En → Option PyData) : En → Option Fl := fun en => (f en).bind fun d => match en[i]? with
  | some (.own ds) => if ds.length ≤ 1000000 then some (.nx (en.set i (.own (ds ++ [d])))) else none
  | _ => none
def sRel (i : Nat) : En → Option Fl := fun en => match en[i]? with
  | some (.own ds) => some (.nx (en.set i (.dat (.list ds))))
  | _ => none
def sIf (t : En → Option Bool) (F G : En → Option Fl) : En → Option Fl := fun en => match t en with
  | some true => F en
  | some false => G en
  | none => none
def sRet (f : En → Option PyData) : En → Option Fl := fun en => (f en).map .rt
def sExpr (f : En → Option PyData) : En → Option Fl := fun en => (f en).map fun _ => .nx en
def sNever : En → Option Fl := fun _ => none
def forGo (b : PyData → En → Option En) (F : En → Option Fl) : List PyData → En → Option Fl
  | [], en => some (.nx en)
  | d :: r, en => (b d en).bind fun e1 => match F e1 with
    | some (.nx e2) => forGo b F r e2
    | some (.ct e2) => forGo b F r e2
    | some (.bk e2) => some (.nx e2)
    | some (.rt v) => some (.rt v)
    | none => none
def sFor (it : En → Option (List PyData)) (b : PyData → En → Option En) (F : En → Option Fl) : En → Option Fl := fun en => (it en).bind fun ds => forGo b F ds en
def whGo (t : En → Option Bool) (F : En → Option Fl) : Nat → En → Option Fl
  | 0, _ => none
  | n + 1, en => match t en with
    | some true => match F en with
      | some (.nx e2) => whGo t F n e2
      | some (.ct e2) => whGo t F n e2
      | some (.bk e2) => some (.nx e2)
      | some (.rt v) => some (.rt v)
      | none => none
    | some false => some (.nx en)
    | none => none
def sWhile (n : En → Nat) (t : En → Option Bool) (F : En → Option Fl) : En → Option Fl := fun en => whGo t F (n en) en
def sAug (i : Nat) (g : PyData → PyData → Option PyData) (f : En → Option PyData) : En → Option Fl := fun en => (fVar i en).bind fun x => (f en).bind fun y => (g x y).bind fun z => (bName i z en).map .nx
def sPar (i j : Nat) (f g : En → Option PyData) : En → Option Fl := fun en => (f en).bind fun x => (g en).bind fun y => (bName i x en).bind fun e1 => (bName j y e1).map .nx
section
variable {X : Cx} {Ts : TsT} {pos : Pos} {st : Stmt} {rest : List Stmt} {F G : En → Option Fl} {e : Expr} {f g : En → Option PyData}
theorem s_nil : DSs X Ts [] sNil := PSs.imp pss_nil fun D σ H ⟨He, O₀, Vz, en, r, rp, hf, k⟩ => by
  cases hf
  exact k σ H rp
theorem s_cons (h1 : DS X Ts st F) (h2 : DSs X Ts rest G) : DSs X Ts (st :: rest) (sSeq F G) := PSs.imp (pss_cons h1 h2) fun D σ H ⟨He, O₀, Vz, en, r, rp, hf, k⟩ => by
  unfold sSeq at hf
  split at hf
  · rename_i e1 h
    exact ⟨He, O₀, Vz, en, _, rp, h, fun σ' H' r' => ⟨He, O₀, Vz, e1, r, r', hf, k⟩⟩
  · rename_i hn
    refine ⟨He, O₀, Vz, en, r, rp, hf, ?_⟩
    cases r with
    | nx e1 => exact absurd hf (hn e1)
    | rt d => exact k
    | bk e1 => exact k
    | ct e1 => exact k
theorem s_one (h1 : DS X Ts st F) : DSs X Ts [st] F := pss_one h1
theorem s_rel (i : Nat) (h : DSs X Ts rest G) : DSs X Ts rest (sSeq (sRel i) G) := PSs.imp h fun D σ H ⟨He, O₀, Vz, en, r, rp, hf, k⟩ => by
  unfold sSeq sRel at hf
  split at hf
  · rename_i e1 h1
    split at h1
    · rename_i ds hd
      cases h1
      refine ⟨He, O₀, Vz, _, r, ?_, hf, k⟩
      obtain ⟨O, a1, a2, rp, xv⟩ := rp
      obtain ⟨a, vs, p1, p2, p3, p4, p5⟩ := rp.own i ds hd
      have hi : i < en.length := (List.getElem?_eq_some_iff.mp hd).1
      have hsub : ∀ b ∈ O.filter (fun b => decide (b ≠ a)), b ∈ O := fun b hb => (List.mem_filter.mp hb).1
      have nA : a ∉ O.filter (fun b => decide (b ≠ a)) := fun z => by simpa using (List.mem_filter.mp z).2
      have hs : Xt (hide H O) (hide H (O.filter (fun b => decide (b ≠ a)))) := hide_sub hsub
      refine ⟨O.filter (fun b => decide (b ≠ a)), fun b hb => List.mem_filter.mpr ⟨a1 b hb, decide_eq_true fun z => a2 b hb (by rw [z]; exact p3)⟩, a2, ⟨by simp [rp.len], fun j d h => ?_, fun j es h => ?_, fun j k es es' aa h1 h2 h3 h4 => ?_, fun b hb => rp.occ b (hsub b hb), rp.ext, rp.tabs⟩, xv.trans hs⟩
      · by_cases hj : i = j
        · subst hj
          rw [List.getElem?_set_self hi] at h
          cases h
          exact ⟨.ref a, p1, .lst (.inl (.inl (hide_of nA p4))) (DpAll.mono hs p5)⟩
        · rw [List.getElem?_set_ne hj] at h
          obtain ⟨v, q1, q2⟩ := rp.dat j d h
          exact ⟨v, q1, Dp.mono hs q2⟩
      · have hj : i ≠ j := fun z => by subst z; rw [List.getElem?_set_self hi] at h; cases h
        rw [List.getElem?_set_ne hj] at h
        obtain ⟨a', vs', q1, q2, q3, q4, q5⟩ := rp.own j es h
        refine ⟨a', vs', q1, List.mem_filter.mpr ⟨q2, decide_eq_true fun z => hj ?_⟩, q3, q4, DpAll.mono hs q5⟩
        subst z
        exact rp.inj i j ds es a' hd h p1 q1
      · have hj : i ≠ j := fun z => by subst z; rw [List.getElem?_set_self hi] at h1; cases h1
        have hk : i ≠ k := fun z => by subst z; rw [List.getElem?_set_self hi] at h2; cases h2
        rw [List.getElem?_set_ne hj] at h1
        rw [List.getElem?_set_ne hk] at h2
        exact rp.inj j k es es' aa h1 h2 h3 h4
    · cases h1
  · rename_i hn
    split at hf
    · rename_i ds hd
      exact absurd (show (match en[i]? with
        | some (Slot.own ds) => some (Fl.nx (List.set en i (Slot.dat (PyData.list ds))))
        | x => none) = some (Fl.nx (List.set en i (Slot.dat (PyData.list ds)))) by rw [hd]) (hn _)
    · cases hf
theorem RepS.setD {K : PySem.W.Frag} {He : Hp} {O₀ O : List Addr} {σ : St} {H : Hp} {en e1 : En} {i : Nat} {x : V} {d : PyData} (a1 : ∀ b ∈ O₀, b ∈ O) (a2 : ∀ b ∈ O₀, He b ≠ none) (rp : Rep K Ts He O σ H en) (hb : bName i d en = some e1) (q : Dp K (hide H O) x d) {Vz : Hp} (xv : Xt Vz (hide H O)) : RepS K Ts He O₀ Vz (σ.set i (some x)) H e1 := by
  unfold bName at hb
  split at hb
  · rename_i hi
    cases hb
    exact ⟨O, a1, a2, rp.setD hi q, xv⟩
  · cases hb
theorem set_w {K : PySem.W.Frag} {i : Nat} : ∀ D σ H, tS K Ts (sSet i f) D σ H → tAsg (tD K Ts f) (gName i) D σ H := fun D σ H ⟨He, O₀, Vz, en, r, rp, hf, k⟩ => by
  unfold sSet at hf
  obtain ⟨d, h1, h2⟩ := Option.bind_eq_some_iff.mp hf
  obtain ⟨e1, h3, rfl⟩ := Option.map_eq_some_iff.mp h2
  obtain ⟨O, a1, a2, rp, xv⟩ := rp
  exact tD.of rp h1 fun v H1 x1 r1 q1 => k _ H1 (RepS.setD a1 a2 r1 h3 q1 (xv.trans (hide_mono x1)))
theorem s_set {i : Nat} {x : Str} {pos' : Pos} (hN : X.N.Nodup) (hi : X.N[i]? = some x) (hx : Loc X.env.scope x) (he : DE X Ts e f) (hs : swapsWith e (some (.Name x pos')) pos.line X.env = pure false := by rfl) (hf : X.fn x = true ∨ X.env.scope.names.lookup x = some .local := by first | exact .inl rfl | exact .inr rfl | assumption) :
    DS X Ts (.Assign [.Name x pos'] e pos) (sSet i f) := PS.imp (ps_set hN hi hx he hs hf) set_w
theorem s_bind {tg : Expr} {vs : List Nat} {b : PyData → En → Option En} (he : DE X Ts e f) (hg : DG X Ts tg vs b) (hs : swapsWithSole [tg] e pos.line X.env = pure false := by rfl) (hw : swappedStores [tg] e X.env = pure none := by rfl)
    (h1 : (assignEach [tg] X.env).map (·.2) = [assign tg X.env] := by rfl) : DS X Ts (.Assign [tg] e pos) (sBind b f) := PS.imp (ps_asg he hg hs hw h1) fun D σ H ⟨He, O₀, Vz, en, r, rp, hf, k⟩ => by
  unfold sBind at hf
  obtain ⟨d, h1, h2⟩ := Option.bind_eq_some_iff.mp hf
  obtain ⟨e1, h3, rfl⟩ := Option.map_eq_some_iff.mp h2
  obtain ⟨O, a1, a2, rp, xv⟩ := rp
  exact tD.of rp h1 fun v H1 x1 r1 q1 => ⟨He, O, en, d, e1, r1, q1, h3, fun σ' r' _ => k σ' H1 ⟨O, a1, a2, r', xv.trans (hide_mono x1)⟩⟩
theorem s_setLc {i : Nat} {y : Str} {py : Pos} {elt tg iter : Expr} {ifs : List Expr} {scope : Scope} {own : List (Str × Nat)} {spos : Pos} {it : En → Option (List PyData)} {b : PyData → En → Option En} {t : En → Option Bool} (hc : X.calm = true) (hN : X.N.Nodup) (hy : X.N[i]? = some y) (hyl : X.env.scope.names.lookup y = some .local)
    (hsw : swapsWith (.ListComp elt [⟨tg, iter, ifs, 0⟩] scope pos) (some (.Name y py)) spos.line X.env = pure true) (hi : DI X Ts tg iter it) (ok : BlkOk X.N X.env.scope scope own)
    (hg : ∀ s H C cl fp, DG (BX X scope s H C cl fp) Ts tg (own.map (·.2)) b) (ht : ∀ s H C cl fp, PTs (BX X scope s H C cl fp) ifs (tT X.K Ts t))
    (he : ∀ s H C cl fp, DE (BX X scope s H C cl fp) Ts elt f) (hs : ∀ x, foldedSetIterable iter X.env x = pure x := by intro _; rfl) :
    DS X Ts (.Assign [.Name y py] (.ListComp elt [⟨tg, iter, ifs, 0⟩] scope pos) spos) (sSet i (fLc it b t f (own.map (·.2)))) :=
  PS.imp (ps_setLc hc hN hy hyl hsw hi ok (fun s H C cl fp => hg s H C cl fp) (fun s H C cl fp => ht s H C cl fp) (fun s H C cl fp => he s H C cl fp) hs) fun D σ H h => by
    have h2 : tD X.K Ts (fLc it b t f (own.map (·.2))) σ H (fun x H1 => gName i x σ H1 D.nx) := set_w D σ H h
    exact lc_w (new_w h2 fLc_list)
theorem RepS.setO {K : PySem.W.Frag} {He : Hp} {O₀ O : List Addr} {σ : St} {H H1 : Hp} {en : En} {i : Nat} {a : Addr} {vs : List V} {ds : List PyData} (a1 : ∀ b ∈ O₀, b ∈ O) (a2 : ∀ b ∈ O₀, He b ≠ none) (rp : Rep K Ts He O σ H en) (hi : i < en.length) (x : Xt H H1) (t : Tb Ts H1) (na : H a = none) (ha : H1 a = some (.lst vs)) (q : DpAll K (hide H1 (a :: O)) vs ds) {Vz : Hp} (xv : Xt Vz (hide H O)) :
    RepS K Ts He O₀ Vz (σ.set i (some (.ref a))) H1 (en.set i (.own ds)) := by
  have r1 := rp.go x t
  have hs : i < σ.length := by rw [← rp.len]; exact hi
  have nA : a ∉ O := rp.free na
  have hHe : He a = none := rp.ext.there na
  have back : Xt (hide H O) (hide H1 (a :: O)) := fun b o e => by
    obtain ⟨e1, e2⟩ := hide_some e
    have nb : b ∉ a :: O := fun z => by
      rcases List.mem_cons.mp z with z | z
      · rw [z, na] at e2; cases e2
      · exact e1 z
    rcases x b o e2 with q | ⟨ps, qs, e3, q⟩
    · exact .inl (hide_of nb q)
    · exact .inr ⟨ps, qs, e3, hide_of nb q⟩
  refine ⟨a :: O, fun b hb => List.mem_cons_of_mem _ (a1 b hb), a2, ⟨by simp [rp.len], fun j d h => ?_, fun j es h => ?_, fun j k es es' aa h1 h2 h3 h4 => ?_, fun b hb => ?_, r1.ext, t⟩, xv.trans back⟩
  · have hj : i ≠ j := fun z => by subst z; rw [List.getElem?_set_self hi] at h; cases h
    rw [List.getElem?_set_ne hj] at h
    obtain ⟨v, q1, q2⟩ := rp.dat j d h
    exact ⟨v, by rw [List.getElem?_set_ne hj]; exact q1, Dp.mono back q2⟩
  · by_cases hj : i = j
    · subst hj
      rw [List.getElem?_set_self hi] at h
      cases h
      exact ⟨a, vs, by rw [List.getElem?_set_self hs], List.mem_cons_self, hHe, ha, q⟩
    · rw [List.getElem?_set_ne hj] at h
      obtain ⟨a', vs', q1, q2, q3, q4, q5⟩ := rp.own j es h
      exact ⟨a', vs', by rw [List.getElem?_set_ne hj]; exact q1, List.mem_cons_of_mem _ q2, q3, x.get a' _ q4 (fun _ z => nomatch z), DpAll.mono back q5⟩
  · have old : ∀ (j : Nat) (es : List PyData) (aa : Addr), i ≠ j → (en.set i (Slot.own ds))[j]? = some (Slot.own es) → (σ.set i (some (V.ref a)))[j]? = some (some (V.ref aa)) → aa ≠ a := fun j es aa hj h1 h2 z => by
      rw [List.getElem?_set_ne hj] at h1 h2
      obtain ⟨a', vs', q1, q2, _⟩ := rp.own j es h1
      rw [h2] at q1
      cases q1
      exact nA (z ▸ q2)
    by_cases hj : i = j
    · by_cases hk : i = k
      · exact hj.symm.trans hk
      · subst hj
        rw [List.getElem?_set_self hs] at h3
        cases h3
        exact absurd rfl (old k es' _ hk h2 h4)
    · by_cases hk : i = k
      · subst hk
        rw [List.getElem?_set_self hs] at h4
        cases h4
        exact absurd rfl (old j es _ hj h1 h3)
      · rw [List.getElem?_set_ne hj] at h1 h3
        rw [List.getElem?_set_ne hk] at h2 h4
        exact rp.inj j k es es' aa h1 h2 h3 h4
  · rcases List.mem_cons.mp hb with z | z
    · rw [z, ha]
      exact ⟨by simp, fun ps z => nomatch z⟩
    · exact r1.occ b z
theorem own_w {K : PySem.W.Frag} {i : Nat} : ∀ D σ H, tS K Ts (sOwn i f) D σ H → tNew K Ts f σ H (fun x H1 => gName i x σ H1 D.nx) := fun D σ H ⟨He, O₀, Vz, en, r, rp, hf, k⟩ => by
  unfold sOwn at hf
  split at hf
  · rename_i ds h1
    split at hf
    · rename_i hi
      cases hf
      obtain ⟨O, a1, a2, rp, xv⟩ := rp
      exact ⟨He, O, en, ds, rp, h1, fun a vs H' x t na ha q => k _ H' (RepS.setO a1 a2 rp hi x t na ha q xv)⟩
    · cases hf
  · cases hf
theorem s_own {i : Nat} {x : Str} {pos' : Pos} (hN : X.N.Nodup) (hi : X.N[i]? = some x) (hx : Loc X.env.scope x) (he : DNew X Ts e f) (hs : swapsWith e (some (.Name x pos')) pos.line X.env = pure false := by rfl) (hf : X.fn x = true ∨ X.env.scope.names.lookup x = some .local := by first | exact .inl rfl | exact .inr rfl | assumption) :
    DS X Ts (.Assign [.Name x pos'] e pos) (sOwn i f) := PS.imp (ps_set hN hi hx he hs hf) fun D σ H h => own_w D σ H h
theorem n_lst {es : List Expr} {gs : En → Option (List PyData)} (h : DA X Ts es gs) : DNew X Ts (.List es pos) (fLst gs) := PE.imp (pe_lst h) fun σ H Q ⟨He, O, en, ds, rp, hf, kk⟩ => by
  obtain ⟨ds', h1, hl, h2⟩ := fLst_some hf
  cases h2
  exact tDs.of rp h1 fun vs H1 x1 r1 q1 => ⟨by rw [DpAll.len q1]; exact small64 hl, fun p np => kk p vs _ (x1.trans (Xt.upd np)) (r1.tabs.new np) (x1.there np) upd_same (DpAll.mono (fun b o e => by
    obtain ⟨e1, e2⟩ := hide_some e
    have hne := ne_of_none e2 np
    exact .inl (hide_of (fun z => (List.mem_cons.mp z).elim hne e1) (by rw [upd_ne hne]; exact e2))) q1)⟩
theorem s_app {i : Nat} {x : Str} {px ap : Pos} (hN : X.N[i]? = some x := by rfl) (hv : Vis X.env.scope x := by first | exact Or.inl rfl | exact Or.inr (Or.inl rfl) | exact Or.inr (Or.inr rfl)) (ha : DE X Ts e f) (hd : (x == ("__debug__" : Str)) = false := by decide) (hcd : (x == ("__classdict__" : Str)) = false := by decide) {cpos : Pos}
    (hbase : attributeBase (.Name x px) "append" X.env (eval (.Name x px) X.env) = eval (.Name x px) X.env := by rfl)
    (hfew : ((backTo cpos (starEach [e] X.env)).all (fun x => !x.1) && (backToKw cpos (keywordEach [] X.env)).all (fun x => x.1.isSome) && decide ([e].length + ([] : List Keyword).length + (if ([] : List Keyword).isEmpty then 0 else 1) < 30)) = true := by rfl)
    (hline : (ap.endLine == cpos.line) = true := by rfl) (hs : starEach [e] X.env = (false, eval e X.env) :: starEach [] X.env := by rfl) (hplain : (backTo cpos (starEach [] X.env)).any (·.1) = false := by rfl)
    (hsw : swapsWith (.Call (.Attribute (.Name x px) "append" ap) [e] [] cpos) none pos.line X.env = pure false := by rfl) :
    DS X Ts (.Expr (.Call (.Attribute (.Name x px) "append" ap) [e] [] cpos) pos) (sApp i f) :=
  PS.imp (ps_expr (pe_bm (t := tCons (tD X.K Ts f) tNil) PySem.F.plainAttrs_list PySem.F.slot_list_append PySem.F.type_list_append mt_append (pe_var hN hv hd hcd) (pa_cons ha pa_nil hs) hbase hfew hline hs hplain) hsw) fun D σ H ⟨He, O₀, Vz, en, r, rp, hf, k⟩ => by
    unfold sApp at hf
    obtain ⟨d, h1, h2⟩ := Option.bind_eq_some_iff.mp hf
    split at h2
    · rename_i ds hd
      split at h2
      · rename_i hl
        cases h2
        obtain ⟨O, a1, a2, rp, xv⟩ := rp
        obtain ⟨a, vs, p1, p2, p3, p4, p5⟩ := rp.own i ds hd
        have hi : i < en.length := (List.getElem?_eq_some_iff.mp hd).1
        refine ⟨.ref a, p1, .inl ⟨rfl, _, .inl (.inl p4)⟩, tD.of rp h1 fun v H1 x1 r1 q1 => ?_⟩
        have p4' := x1.get a _ p4 (fun _ z => nomatch z)
        have p5' := DpAll.mono (hide_mono (O := O) x1) p5
        refine ⟨a, vs, v, rfl, rfl, p4', by rw [DpAll.len p5, sizeLine_eq]; omega, k σ _ ⟨O, a1, a2, ?_, xv.trans ((hide_mono x1).trans (hide_upd p2))⟩⟩
        have hu : Xt (hide H1 O) (hide (upd H1 a (.lst (vs ++ [v]))) O) := hide_upd p2
        refine ⟨by simp [rp.len], fun j d' h => ?_, fun j es h => ?_, fun j kk es es' aa h1 h2 h3 h4 => ?_, fun b hb => ?_, fun b o e => ?_, r1.tabs.upd fun u z => by rw [p4'] at z; cases z; exact lst_noc⟩
        · have hj : i ≠ j := fun z => by subst z; rw [List.getElem?_set_self hi] at h; cases h
          rw [List.getElem?_set_ne hj] at h
          obtain ⟨u, q1, q2⟩ := r1.dat j d' h
          exact ⟨u, q1, Dp.mono hu q2⟩
        · by_cases hj : i = j
          · subst hj
            rw [List.getElem?_set_self hi] at h
            cases h
            exact ⟨a, vs ++ [v], p1, p2, p3, upd_same, DpAll.app (DpAll.mono hu p5') (.cons (Dp.mono hu q1) .nil)⟩
          · rw [List.getElem?_set_ne hj] at h
            obtain ⟨a', vs', q1, q2, q3, q4, q5⟩ := r1.own j es h
            have hne : a' ≠ a := fun z => hj (by subst z; exact rp.inj i j ds es a' hd h p1 q1)
            exact ⟨a', vs', q1, q2, q3, by rw [upd_ne hne]; exact q4, DpAll.mono hu q5⟩
        · have toOwn : ∀ (j : Nat) (es : List PyData), (en.set i (Slot.own (ds ++ [d])))[j]? = some (Slot.own es) → ∃ es', en[j]? = some (Slot.own es') := fun j es h => by
            by_cases hj : i = j
            · subst hj; exact ⟨ds, hd⟩
            · rw [List.getElem?_set_ne hj] at h; exact ⟨es, h⟩
          obtain ⟨e1, g1⟩ := toOwn j es h1
          obtain ⟨e2, g2⟩ := toOwn kk es' h2
          exact rp.inj j kk e1 e2 aa g1 g2 h3 h4
        · by_cases z : b = a
          · rw [z, upd_same]
            exact ⟨by simp, fun ps z => nomatch z⟩
          · rw [upd_ne z]
            exact r1.occ b hb
        · have hne : b ≠ a := fun z => by rw [z, p3] at e; cases e
          rw [upd_ne hne]
          exact r1.ext b o e
      · cases h2
    · cases h2
theorem s_if {c : Expr} {a b : List Stmt} {t : En → Option Bool} (hc : DT X Ts c t) (ha : DSs X Ts a F) (hb : DSs X Ts b G) : DS X Ts (.If c a b pos) (sIf t F G) := PS.imp (ps_if hc ha hb) fun D σ H ⟨He, O₀, Vz, en, r, rp, hf, k⟩ => by
  unfold sIf at hf
  obtain ⟨O, a1, a2, rp, xv⟩ := rp
  split at hf
  · rename_i h
    exact tT.of rp h fun H1 x1 r1 => iteT ⟨He, O₀, Vz, en, r, ⟨O, a1, a2, r1, xv.trans (hide_mono x1)⟩, hf, k⟩
  · rename_i h
    exact tT.of rp h fun H1 x1 r1 => iteF ⟨He, O₀, Vz, en, r, ⟨O, a1, a2, r1, xv.trans (hide_mono x1)⟩, hf, k⟩
  · cases hf
theorem s_ret (he : DE X Ts e f) : DS X Ts (.Return (some e) pos) (sRet f) := PS.imp (ps_ret he) fun D σ H ⟨He, O₀, Vz, en, r, rp, hf, k⟩ => by
  unfold sRet at hf
  obtain ⟨d, h1, rfl⟩ := Option.map_eq_some_iff.mp hf
  obtain ⟨O, a1, a2, rp, xv⟩ := rp
  exact tD.of rp h1 fun v H1 x1 r1 q1 => k v H1 r1.ext r1.tabs (Dp.mono (hide_sub a1) q1)
theorem s_expr (he : DE X Ts e f) (hs : swapsWith e none pos.line X.env = pure false := by rfl) : DS X Ts (.Expr e pos) (sExpr f) := PS.imp (ps_expr he hs) fun D σ H ⟨He, O₀, Vz, en, r, rp, hf, k⟩ => by
  unfold sExpr at hf
  obtain ⟨d, h1, rfl⟩ := Option.map_eq_some_iff.mp hf
  obtain ⟨O, a1, a2, rp, xv⟩ := rp
  exact tD.of rp h1 fun v H1 x1 r1 q1 => k σ H1 ⟨O, a1, a2, r1, xv.trans (hide_mono x1)⟩
theorem s_never : DS X Ts st sNever := PS.imp ps_never fun D σ H ⟨He, O₀, Vz, en, r, rp, hf, k⟩ => by cases hf
theorem s_par {i j : Nat} {x y : Str} {a b : Expr} {px py pt : Pos} {kt k2 pt2} (hc : X.calm = true) (hN : X.N.Nodup) (hi : X.N[i]? = some x) (hj : X.N[j]? = some y) (hij : i ≠ j)
    (hx : X.env.scope.names.lookup x = some .local) (hy : X.env.scope.names.lookup y = some .local) (ha : DE X Ts a f) (hb : DE X Ts b g) (hw : swappedStores [.Tuple [.Name x px, .Name y py] kt pt] (.Tuple [a, b] k2 pt2) X.env = pure (some [x, y]))
    (hs1 : starEach [a, b] X.env = (false, eval a X.env) :: starEach [b] X.env := by rfl) (hs2 : starEach [b] X.env = (false, eval b X.env) :: starEach [] X.env := by rfl)
    (hs : swapsWithSole [.Tuple [.Name x px, .Name y py] kt pt] (.Tuple [a, b] k2 pt2) pos.line X.env = pure false := by rfl) : DS X Ts (.Assign [.Tuple [.Name x px, .Name y py] kt pt] (.Tuple [a, b] k2 pt2) pos) (sPar i j f g) :=
  PS.imp (ps_par hc hN hi hj hij hx hy (pa_cons ha (pa_cons hb pa_nil hs2) hs1) hw hs) fun D σ H ⟨He, O₀, Vz, en, r, rp, hf, k⟩ => by
    unfold sPar at hf
    obtain ⟨d1, h1, hf1⟩ := Option.bind_eq_some_iff.mp hf
    obtain ⟨d2, h2, hf2⟩ := Option.bind_eq_some_iff.mp hf1
    obtain ⟨e1, h3, hf3⟩ := Option.bind_eq_some_iff.mp hf2
    obtain ⟨e2, h4, rfl⟩ := Option.map_eq_some_iff.mp hf3
    obtain ⟨O, a1, a2, rp, xv⟩ := rp
    refine tD.of rp h1 fun v H1 x1 r1 q1 => tD.of r1 h2 fun w H2 x2 r2 q2 => ⟨v, w, rfl, k _ H2 ?_⟩
    unfold bName at h3 h4
    split at h3
    · rename_i hi'
      cases h3
      split at h4
      · rename_i hj'
        cases h4
        exact ⟨O, a1, a2, (r2.setD hi' (Dp.mono (hide_mono x2) q1)).setD hj' q2, xv.trans (hide_mono (x1.trans x2))⟩
      · cases h4
    · cases h3
theorem s_aug {i : Nat} {x : Str} {op : Operator} {h : Int → Int → Int} {pos' : Pos} (hN : X.N.Nodup) (hi : X.N[i]? = some x) (hx : Loc X.env.scope x) (he : DE X Ts e f) (ho : PIp X op (ipI h)) (hf : X.fn x = true ∨ X.env.scope.names.lookup x = some .local := by first | exact .inl rfl | exact .inr rfl | assumption) :
    DS X Ts (.AugAssign (.Name x pos') op e pos) (sAug i (gI fun a b => .int (h a b)) f) := PS.imp (ps_aug hN hi hx he ho hf) fun D σ H ⟨He, O₀, Vz, en, r, rp, hf, k⟩ => by
  unfold sAug at hf
  obtain ⟨d1, h1, hf1⟩ := Option.bind_eq_some_iff.mp hf
  obtain ⟨d2, h2, hf2⟩ := Option.bind_eq_some_iff.mp hf1
  obtain ⟨d3, h3, hf3⟩ := Option.bind_eq_some_iff.mp hf2
  obtain ⟨e1, h4, rfl⟩ := Option.map_eq_some_iff.mp hf3
  clear hf hf1 hf2 hf3
  obtain ⟨O, a1, a2, rp, xv⟩ := rp
  unfold fVar at h1
  split at h1
  · rename_i d' hd
    cases h1
    obtain ⟨v, p1, p2⟩ := rp.dat i _ hd
    refine ⟨v, p1, tD.of rp h2 fun w H1 x1 r1 q1 => ?_⟩
    cases p2 <;> cases q1 <;> simp only [gI] at h3 <;> try cases h3
    exact ⟨_, _, rfl, rfl, k _ H1 (RepS.setD a1 a2 r1 h4 (.int _) (xv.trans (hide_mono x1)))⟩
  · cases h1
theorem for_w {K : PySem.W.Frag} {vs : List Nat} {it : En → Option (List PyData)} {b : PyData → En → Option En} : ∀ D σ H, tS K Ts (sFor it b F) D σ H → tFor (tI K Ts it) (gD K Ts vs b) (tS K Ts F) D σ H := fun D σ H ⟨He, O₀, Vz, en, r, rp, hf, k⟩ => by
  unfold sFor at hf
  obtain ⟨ds, h1, h2⟩ := Option.bind_eq_some_iff.mp hf
  clear hf
  obtain ⟨O, a1, a2, rp, xv⟩ := rp
  refine ⟨He, O, en, ds, rp, h1, fun J H1 x1 t1 gv => ?_⟩
  have xv1 : Xt Vz (hide H1 O) := xv.trans (hide_mono x1)
  refine ⟨fun i m σ2 H2 => m = ds.length - i ∧ i ≤ ds.length ∧ ∃ en2, RepS K Ts He O₀ (hide H1 O) σ2 H2 en2 ∧ forGo b F (ds.drop i) en2 = some r,
    ⟨ds.length, by simp, Nat.zero_le _, en, ⟨O, a1, a2, rp.go x1 t1, Xt.refl _⟩, by simpa using h2⟩, fun i m σ2 H2 hW => ?_⟩
  obtain ⟨rfl, hi, en2, ⟨O2, b1, b2, r2, x12⟩, hgo⟩ := hW
  obtain ⟨g1, g2, g3⟩ := gv O2 H2 x12 (x12.trans hide_out) r2.occ
  have weak : ∀ {σ' H' en'}, RepS K Ts He O₀ (hide H1 O) σ' H' en' → RepS K Ts He O₀ Vz σ' H' en' := fun ⟨O', c1, c2, c3, c4⟩ => ⟨O', c1, c2, c3, xv1.trans c4⟩
  by_cases hlt : i < ds.length
  · rw [List.drop_eq_getElem_cons hlt] at hgo
    unfold forGo at hgo
    obtain ⟨e1, hb1, hgo1⟩ := Option.bind_eq_some_iff.mp hgo
    clear hgo
    refine .inr ⟨g1 i hlt, fun σ' H' => ∃ en2, RepS K Ts He O₀ (hide H1 O) σ' H' en2 ∧ forGo b F (ds.drop (i + 1)) en2 = some r, fun σ' H' c => ⟨ds.length - (i + 1), by omega, rfl, hlt, c⟩, fun x H3 hy => ?_⟩
    obtain ⟨d, hd, x23, t23, qd⟩ := g3 i x H3 hlt hy
    have r3 := r2.go x23 (t23 r2.tabs)
    have hd' : ds[i] = d := by rw [List.getElem?_eq_getElem hlt] at hd; exact Option.some.inj hd
    rw [hd'] at hb1
    refine ⟨He, O2, en2, d, e1, r3, qd, hb1, fun σ4 r4 _ => ?_⟩
    have rs4 : RepS K Ts He O₀ (hide H1 O) σ4 H3 e1 := ⟨O2, b1, b2, r4, x12.trans (hide_mono x23)⟩
    cases hF : F e1 with
    | none => rw [hF] at hgo1; cases hgo1
    | some fl =>
      rw [hF] at hgo1
      refine ⟨He, O₀, hide H1 O, e1, fl, rs4, hF, ?_⟩
      cases fl with
      | nx e2 => exact fun σ' H' r' => ⟨e2, r', hgo1⟩
      | ct e2 => exact fun σ' H' r' => ⟨e2, r', hgo1⟩
      | bk e2 =>
        cases hgo1
        exact fun σ' H' r' => k σ' H' (weak r')
      | rt v =>
        cases hgo1
        exact k
  · have hie : i = ds.length := by omega
    subst hie
    rw [List.drop_of_length_le (Nat.le_refl _)] at hgo
    cases hgo
    exact .inl ⟨g2, k σ2 H2 ⟨O2, b1, b2, r2, xv1.trans x12⟩⟩
theorem s_for {tg iter : Expr} {body : List Stmt} {vs : List Nat} {it : En → Option (List PyData)} {b : PyData → En → Option En} (hp : PassesOwn (model X.prog X.w) X.A X.env X.xe) (hc : X.calm = true) (hi : DI X Ts tg iter it) (hg : DG X Ts tg vs b) (hb : DSs X Ts body F)
    (hs : ∀ x, foldedSetIterable iter X.env x = pure x := by intro _; rfl) : DS X Ts (.For tg iter body [] pos) (sFor it b F) := PS.imp (ps_for hp hc hi hg hb hs) for_w
theorem while_w {K : PySem.W.Frag} {n : En → Nat} {t : En → Option Bool} : ∀ D σ H, tS K Ts (sWhile n t F) D σ H → tWhile (tT K Ts t) (tS K Ts F) D σ H := fun D σ H ⟨He, O₀, Vz, en, r, rp, hf, k⟩ => by
  unfold sWhile at hf
  refine ⟨fun m σ2 H2 => ∃ en2, RepS K Ts He O₀ Vz σ2 H2 en2 ∧ whGo t F m en2 = some r, ⟨n en, en, rp, hf⟩, fun m σ2 H2 ⟨en2, rs, hgo⟩ => ?_⟩
  cases m with
  | zero => cases hgo
  | succ m =>
    unfold whGo at hgo
    obtain ⟨O, a1, a2, rp2, xv⟩ := rs
    cases ht : t en2 with
    | none => rw [ht] at hgo; cases hgo
    | some c =>
      rw [ht] at hgo
      refine tT.of rp2 ht fun H3 x23 r3 => ?_
      have rs3 : RepS K Ts He O₀ Vz σ2 H3 en2 := ⟨O, a1, a2, r3, xv.trans (hide_mono x23)⟩
      cases c with
      | false =>
        cases hgo
        exact iteF (k σ2 H3 rs3)
      | true =>
        refine iteT ⟨fun σ' H' => ∃ en2, RepS K Ts He O₀ Vz σ' H' en2 ∧ whGo t F m en2 = some r, fun σ' H' c => ⟨m, Nat.lt_succ_self m, c⟩, ?_⟩
        cases hF : F en2 with
        | none => simp only [hF] at hgo; cases hgo
        | some fl =>
          simp only [hF] at hgo
          refine ⟨He, O₀, Vz, en2, fl, rs3, hF, ?_⟩
          cases fl with
          | nx e2 => exact fun σ' H' r' => ⟨e2, r', hgo⟩
          | ct e2 => exact fun σ' H' r' => ⟨e2, r', hgo⟩
          | bk e2 =>
            cases hgo
            exact k
          | rt v =>
            cases hgo
            exact k
theorem s_while {c : Expr} {body : List Stmt} {t : En → Option Bool} (n : En → Nat) (hp : PassesOwn (model X.prog X.w) X.A X.env X.xe) (hc : DT X Ts c t) (hb : DSs X Ts body F) : DS X Ts (.While c body [] pos) (sWhile n t F) := PS.imp (ps_while hp hc hb) while_w
end
def runD (n : Nat) (F : En → Option Fl) (ds : List PyData) : Option PyData := match F (ds.map .dat ++ List.replicate (n - ds.length) .no) with
  | some (.rt d) => some d
  | some (.nx _) => some .none
  | _ => none
structure DF (K : PySem.W.Frag) (x qual : Str) (st : Stmt) (f : Addr) (fd : FuncData) (cdv : Value) : Prop where
  ex : ∃ (oc : Value) (od : Option Addr) (dV kV doc pm : Value) (an : Option Addr) (ct : Value) (osl : Array (Option Value)),
    fd = PySem.W.fnOf x qual (defArgs st) (defBody st) (defScope st) dV kV doc pm an cdv ct ∧ K.lookup f = some ⟨oc, od, .func fd, osl⟩ ∧ PySem.W.codeIn K cdv qual = true
  kp : PySem.W.keepIn K (.ref f) = true
section
variable {P : Program} {w : World} {K : PySem.W.Frag} {mg : Str → Option Value} {base : Heap} {Ts : TsT}
theorem DF.ok {x qual : Str} {st : Stmt} {f : Addr} {fd : FuncData} {cdv : Value} {N ps : List Str} {k : Nat} {F : En → Option Fl} (D : DF K x qual st f fd cdv) (S : FnScope N ps (defScope st))
    (hbody : ∀ (A : Around) (outer : List Env) (s : Shared) (H : Hp) (E : XK), Room k (A.deeper (envOfC qual (defScope st) s.heap.objs.size f cdv)) → DSs (cxOf CX0 P w K mg base N qual (defScope st) f cdv A outer s H E).nox Ts (defBody st) F) :
    FnOk P w K mg base CX0 (k + 1) f fd ps (spD K Ts ps.length (runD N.length F)) := by
  obtain ⟨oc, od, dV, kV, doc, pm, an, ct, osl, rfl, lk, hcd⟩ := D.ex
  refine fn_of lk hcd S (fun vs H Q E h => h.1) fun A outer s H vs Q E hr hsp => ?_
  refine ⟨_, (hbody A outer s H E hr).nox, ?_⟩
  obtain ⟨hl, O, ds, d, q, t, occ, hF, kk⟩ := hsp
  unfold runD at hF
  have hlen := DpAll.len q
  have rp : Rep K Ts H O (L2.start N vs) H (ds.map .dat ++ List.replicate (N.length - ds.length) .no) := by
    refine ⟨by simp [L2.start, hlen], fun i d h => ?_, fun i es h => ?_, fun i j es es' a h => ?_, occ, Xt.refl H, t⟩
    · by_cases hi : i < ds.length
      · rw [List.getElem?_append_left (by simpa using hi), List.getElem?_map] at h
        obtain ⟨d', h1, h2⟩ := Option.map_eq_some_iff.mp h
        cases h2
        obtain ⟨v, h3, h4⟩ := DpAll.get' q h1
        refine ⟨v, ?_, h4⟩
        unfold L2.start
        rw [List.getElem?_append_left (by simp; omega), List.getElem?_map, h3]
        rfl
      · rw [List.getElem?_append_right (by simpa using hi), List.getElem?_replicate] at h
        split at h <;> cases h
    · by_cases hi : i < ds.length
      · rw [List.getElem?_append_left (by simpa using hi), List.getElem?_map] at h
        obtain ⟨d', h1, h2⟩ := Option.map_eq_some_iff.mp h
        cases h2
      · rw [List.getElem?_append_right (by simpa using hi), List.getElem?_replicate] at h
        split at h <;> cases h
    · by_cases hi : i < ds.length
      · rw [List.getElem?_append_left (by simpa using hi), List.getElem?_map] at h
        obtain ⟨d', h1, h2⟩ := Option.map_eq_some_iff.mp h
        cases h2
      · rw [List.getElem?_append_right (by simpa using hi), List.getElem?_replicate] at h
        split at h <;> cases h
  have rs : RepS K Ts H O (fun _ => none) (L2.start N vs) H (ds.map .dat ++ List.replicate (N.length - ds.length) .no) := ⟨O, fun b hb => hb, fun b hb => (occ b hb).1, rp, fun b o e => nomatch e⟩
  split at hF
  · rename_i d' hf
    cases hF
    exact ⟨H, O, _, _, _, rs, hf, fun v H' x t q => kk v H' x t q⟩
  · rename_i e' hf
    cases hF
    refine ⟨H, O, _, _, _, rs, hf, fun σ' H' r' => ?_⟩
    obtain ⟨O', a1, a2, r1, _⟩ := r'
    exact kk .non H' r1.ext r1.tabs .non
  · cases hF
theorem df_mk {x qual : Str} {st : Stmt} {f : Addr} {oc : Value} {od an : Option Addr} {osl : Array (Option Value)} {dV kV doc pm cdv ct : Value} (l : K.lookup f = some ⟨oc, od, .func (PySem.W.fnOf x qual (defArgs st) (defBody st) (defScope st) dV kV doc pm an cdv ct), osl⟩)
    (c : PySem.W.codeIn K cdv qual = true) (k : PySem.W.keepIn K (.ref f) = true) : DF K x qual st f (PySem.W.fnOf x qual (defArgs st) (defBody st) (defScope st) dV kV doc pm an cdv ct) cdv := ⟨⟨oc, od, dV, kV, doc, pm, an, ct, osl, rfl, l, c⟩, k⟩
end
section
variable {X : Cx} {Ts : TsT} {pos p : Pos} {tg e e2 : Expr} {f g : En → Option PyData}
def gPlus : PyData → PyData → Option PyData
  | .int i, .int j => some (.int (i + j))
  | .tuple xs, .tuple ys => if xs.length + ys.length ≤ 1000000 then some (.tuple (xs ++ ys)) else none
  | .list xs, .list ys => if xs.length + ys.length ≤ 1000000 then some (.list (xs ++ ys)) else none
  | _, _ => none
def fPlus := f2 gPlus
def rCatL (K : PySem.W.Frag) : R2 := fun x y H Q => ∃ a b xs ys, x = .ref a ∧ y = .ref b ∧ SqL K H a xs ∧ SqL K H b ys ∧ xs.length + ys.length ≤ sizeLine ∧ ∀ p, H p = none → Q (.ref p) (upd H p (.lst (xs ++ ys)))
theorem op_catL : OpR X (binaryOp .Add) (rCatL X.K) := by
  intro pins s σ H x y v u Q I rx ry h
  obtain ⟨a, b, xs, ys, rfl, rfl, ha, hb, hz, q⟩ := h
  cases rx
  cases ry
  obtain ⟨is1, r1, ⟨⟨c1, d1, t1, l1⟩, n1, g1, gc1, _, gd1⟩, _⟩ := I.list ha
  obtain ⟨is2, r2, ⟨⟨c2, d2, t2, l2⟩, n2, g2, gc2, _, gd2⟩, _⟩ := I.list hb
  simp only at gc1 gd1 gc2 gd2
  subst gc1 gd1 gc2 gd2
  have len1 := r1.length
  have len2 := r2.length
  have small : is1.toArray.size + is2.toArray.size ≤ sizeLine := by
    rw [List.size_toArray, List.size_toArray]
    omega
  refine concat_meets ⟨_, g1, rfl⟩ ⟨_, g2, rfl⟩ noFill_list_add seq_list_add PySem.F.slot_list_add PySem.F.entry_list_add (PySem.F.args_list_add_2 _ _)
    (list_addW a b is1.toArray is2.toArray n1 n2 d1 d2 l1 l2 small) ⟨g1, g2, ?_⟩
  have joined : is1.toArray ++ is2.toArray = (is1 ++ is2).toArray := by simp
  rw [joined]
  exact ⟨.ref _, _, I.lnew (t' := s.toks) (r1.append r2) (by rw [List.length_append]; omega), rfl, q _ I.fresh⟩
theorem op_plus : OpR X (binaryOp .Add) (fun x y H Q => rI0 (fun i j => .int (i + j)) x y H Q ∨ rCatA X.K x y H Q ∨ rCatL X.K x y H Q) := by
  intro pins s σ H x y v u Q I rx ry h
  rcases h with h | h | h
  · exact op_add pins s σ H x y v u Q I rx ry h
  · exact op_catA pins s σ H x y v u Q I rx ry h
  · exact op_catL pins s σ H x y v u Q I rx ry h
theorem d_plus (ha : DE X Ts e f) (hb : DE X Ts e2 g) : DE X Ts (.BinOp e .Add e2 pos) (fPlus f g) := PE.imp (pe_op op_plus ha hb) fun σ H Q ⟨He, O, en, d, rp, hf, kk⟩ => by
  obtain ⟨x, y, h1, h2, h3⟩ := f2_some hf
  refine tD.of rp h1 fun v H1 x1 r1 q1 => tD.of r1 h2 fun w H2 x2 r2 q2 => ?_
  have q1 := Dp.mono (hide_mono x2) q1
  cases x <;> cases y <;> simp only [gPlus] at h3 <;> try cases h3
  · cases q1
    cases q2
    exact .inl ⟨_, _, rfl, rfl, kk _ H2 (x1.trans x2) r2.tabs (.int _)⟩
  · split at h3
    · rename_i hl
      cases h3
      cases q1 with
      | lst s1 a1 =>
        cases q2 with
        | lst s2 a2 =>
          have l1 := DpAll.len a1
          have l2 := DpAll.len a2
          exact .inr (.inr ⟨_, _, _, _, rfl, rfl, sqL_mono (fun o n e => (hide_some e).2) s1, sqL_mono (fun o n e => (hide_some e).2) s2, by rw [l1, l2, sizeLine_eq]; omega, fun p np => kk _ _ (x1.trans (x2.trans (Xt.upd np))) (r2.tabs.new np) (lst_new np (new_out r2.occ np) (DpAll.app a1 a2))⟩)
    · cases h3
  · split at h3
    · rename_i hl
      cases h3
      cases q1 with
      | tup s1 a1 =>
        cases q2 with
        | tup s2 a2 =>
          have l1 := DpAll.len a1
          have l2 := DpAll.len a2
          refine .inr (.inl ⟨_, _, _, _, rfl, rfl, sqT_mono (fun o n e => (hide_some e).2) s1, sqT_mono (fun o n e => (hide_some e).2) s2, by rw [l1, l2, sizeLine_eq]; omega, fun e0 => ?_, fun _ e0 => ?_, fun _ _ p np => kk _ _ (x1.trans (x2.trans (Xt.upd np))) (r2.tabs.new np) (tup_new np (new_out r2.occ np) (DpAll.app a1 a2))⟩)
          · subst e0
            cases a1
            exact kk _ H2 (x1.trans x2) r2.tabs (.tup s2 a2)
          · subst e0
            cases a2
            rw [List.append_nil] at kk
            exact kk _ H2 (x1.trans x2) r2.tabs (.tup s1 a1)
    · cases h3
def iSq (K : PySem.W.Frag) (tl : TE) : TI := fun σ H R => tl σ H fun x H1 => (∃ a, x = .ref a ∧ (∃ xs, SqL K H1 a xs) ∧ R (Itl K a) H1) ∨ (∃ a, x = .ref a ∧ (∃ xs, SqT K H1 a xs) ∧ R (Itt K a) H1)
theorem pi_sq {l : Expr} {tl : TE} (hl : PE X l tl) : PI X tg l (iSq X.K tl) := by
  refine ⟨fun pins s σ H R I h => ?_⟩
  refine thn (hl.run pins s σ H _ I h) fun v s1 ⟨x, H1, I1, r1, q1⟩ => ?_
  rcases q1 with ⟨a, e, ⟨xs, hq⟩, q⟩ | ⟨a, e, ⟨xs, hq⟩, q⟩
  · subst e
    cases r1
    obtain ⟨its, rv, p, hz⟩ := I1.list hq
    refine wpAny_pyIter_list p.isList ?_
    refine ⟨s1.heap.objs.size, [s1.heap.objs.size], _, _, H1, rfl, I1.kept (t' := s1.toks) fun b o e => Heap.get?_push_of_some _ e, turn_list a _, ⟨_, Heap.get?_push_size _ rfl, rfl, rfl⟩, fun b hb => ?_, q⟩
    have e : b = s1.heap.objs.size := by simpa using hb
    subst e
    exact I1.fpOk (Nat.le_refl _) (I1.hok.fresh (Nat.le_refl _))
  · subst e
    cases r1
    obtain ⟨its, rv, p, hz⟩ := I1.tuple hq
    refine wpAny_pyIter_tuple (show s1.heap.IsTuple a its.toArray from p) ?_
    refine ⟨s1.heap.objs.size, [s1.heap.objs.size], _, _, H1, rfl, I1.kept (t' := s1.toks) fun b o e => Heap.get?_push_of_some _ e, turn_tuple a _, ⟨_, Heap.get?_push_size _ rfl, rfl, rfl⟩, fun b hb => ?_, q⟩
    have e : b = s1.heap.objs.size := by simpa using hb
    subst e
    exact I1.fpOk (Nat.le_refl _) (I1.hok.fresh (Nat.le_refl _))
def iSeq (f : En → Option PyData) : En → Option (List PyData) := fun en => (f en).bind items
theorem gives_list {K : PySem.W.Frag} {H1 : Hp} {O : List Addr} {l : Addr} {vs : List V} {ds : List PyData} (s : SqL K (hide H1 O) l vs) (a : DpAll K (hide H1 O) vs ds) : Gives K Ts (Itl K l) ds H1 O := fun O' H2 h1 h2 occ => by
  have s2 : SqL K H2 l vs := sqL_mono (fun o n e => h2.get _ o e n) s
  have a2 := DpAll.mono h1 a
  have hl := DpAll.len a
  refine ⟨fun i hi => ⟨vs, vs[i]'(by omega), s2, by simp [hl, hi]⟩, ⟨vs, s2, by omega⟩, fun i x H3 hi hy => ?_⟩
  obtain ⟨rfl, hx⟩ := hy
  obtain ⟨d, hd1, hd2⟩ := DpAll.get a2 (hx vs s2)
  exact ⟨d, hd1, Xt.refl _, id, hd2⟩
theorem gives_tup {K : PySem.W.Frag} {H1 : Hp} {O : List Addr} {l : Addr} {vs : List V} {ds : List PyData} (s : SqT K (hide H1 O) l vs) (a : DpAll K (hide H1 O) vs ds) : Gives K Ts (Itt K l) ds H1 O := fun O' H2 h1 h2 occ => by
  have s2 : SqT K H2 l vs := sqT_mono (fun o n e => h2.get _ o e n) s
  have a2 := DpAll.mono h1 a
  have hl := DpAll.len a
  refine ⟨fun i hi => ⟨vs, vs[i]'(by omega), s2, by simp [hl, hi]⟩, ⟨vs, s2, by omega⟩, fun i x H3 hi hy => ?_⟩
  obtain ⟨rfl, hx⟩ := hy
  obtain ⟨d, hd1, hd2⟩ := DpAll.get a2 (hx vs s2)
  exact ⟨d, hd1, Xt.refl _, id, hd2⟩
theorem di_seq (h : DE X Ts e f) : DI X Ts tg e (iSeq f) := PI.imp (pi_sq h) fun σ H R ⟨He, O, en, ds, rp, hf, kk⟩ => by
  unfold iSeq at hf
  obtain ⟨d, h1, h2⟩ := Option.bind_eq_some_iff.mp hf
  refine tD.of rp h1 fun v H1 x1 r1 q1 => ?_
  cases d <;> simp only [items] at h2 <;> cases h2
  · cases q1 with
    | lst s a => exact .inl ⟨_, rfl, ⟨_, sqL_mono (fun o n e => (hide_some e).2) s⟩, kk _ H1 x1 r1.tabs (gives_list s a)⟩
  · cases q1 with
    | tup s a => exact .inr ⟨_, rfl, ⟨_, sqT_mono (fun o n e => (hide_some e).2) s⟩, kk _ H1 x1 r1.tabs (gives_tup s a)⟩
theorem d_globE {x : Str} {i : Int} (hg : Gl X x) (hm : ∃ t, X.mg x = some (.int i t)) (hd : (x == ("__debug__" : Str)) = false := by decide) : DE X Ts (.Name x pos) (fLit (.int i)) := by
  obtain ⟨t, hm⟩ := hm
  exact d_glob hg hm hd
end
theorem room_gen {j : Nat} {A : Around} (r : Room (j + 1) A) (env : Env) : Room j (A.in1.in1.deeper env) :=
  ⟨r.hd, by have := r.dp; show A.depth + 1 + 3 * j + 5 < _; omega, by have := r.un; show A.units + 1 + 1 + 3 + 16 * j + 200 < _; omega⟩
structure CF (P : Program) (w : World) (K : PySem.W.Frag) (mg : Str → Option Value) (base : Heap) (Ts : TsT) (k : Nat) (x : Str) (n : Nat) (F : List PyData → Option PyData) : Prop where
  ex : ∃ f fd ps dvs us dd G, mg x = some (.ref f) ∧ PySem.W.keepIn K (.ref f) = true ∧ Binds K fd ps us ∧ Vals dvs us ∧ (∀ H, DpAll K H dvs dd) ∧ FnOk P w K mg base CX0 k f fd ps (spD K Ts (n + dd.length) G) ∧ ∀ xs d, xs.length = n → F xs = some d → G (xs ++ dd) = some d
theorem CF.imp {P : Program} {w : World} {K : PySem.W.Frag} {mg : Str → Option Value} {base : Heap} {Ts : TsT} {k : Nat} {x : Str} {n : Nat} {F G : List PyData → Option PyData} (c : CF P w K mg base Ts k x n F) (h : ∀ ds d, G ds = some d → F ds = some d) : CF P w K mg base Ts k x n G := by
  obtain ⟨f, fd, ps, dvs, us, dd, G', h1, h2, h3, h4, h5, h6, h7⟩ := c.ex
  exact ⟨f, fd, ps, dvs, us, dd, G', h1, h2, h3, h4, h5, h6, fun xs d hl e => h7 xs d hl (h xs d e)⟩
theorem CF.call {X : Cx} {Ts : TsT} {k : Nat} {x : Str} {n : Nat} {F : List PyData → Option PyData} (c : CF X.prog X.w X.K X.mg X.base Ts k x n F) : DFn X Ts k x n F := ⟨c.ex⟩
theorem CF.of {P : Program} {w : World} {K : PySem.W.Frag} {mg : Str → Option Value} {base : Heap} {Ts : TsT} {k : Nat} {x : Str} {n : Nat} {F : List PyData → Option PyData} {f : Addr} {fd : FuncData} {ps : List Str} (h1 : mg x = some (.ref f)) (h2 : PySem.W.keepIn K (.ref f) = true) (h3 : Binds K fd ps []) (h4 : FnOk P w K mg base CX0 k f fd ps (spD K Ts n F)) : CF P w K mg base Ts k x n F :=
  ⟨f, fd, ps, [], [], [], F, h1, h2, h3, .nil, fun _ => .nil, h4, fun xs d _ e => by rw [List.append_nil]; exact e⟩
def RowOk (rw : List PyData) : Prop := ∃ (ns : List Int) (i m c : Int), rw = [.list (ns.map .int), .int i, .int m, .int c] ∧ ns.length ≤ 63 ∧ 0 ≤ i ∧ 0 ≤ m ∧ m < 2147483647 ∧ 0 ≤ c
def WRep (K : PySem.W.Frag) (Ts : TsT) (ρ : Nat) (He : Hp) (O : List Addr) (σ : St) (H : Hp) (en : En) : Prop := ρ < en.length ∧ ∃ rw, RowOk rw ∧ Rep K Ts He O σ H (en.set ρ (.own rw))
def XtB (a : Addr) (H H' : Hp) : Prop := ∀ b o, b ≠ a → H b = some o → H' b = some o ∨ ∃ ps qs, o = .tbl ps ∧ H' b = some (.tbl qs)
theorem XtB.trans {a : Addr} {H H1 H2 : Hp} (x : XtB a H H1) (y : XtB a H1 H2) : XtB a H H2 := fun b o hb e => by
  rcases x b o hb e with q | ⟨ps, qs, e1, q⟩
  · exact y b o hb q
  · rcases y b _ hb q with q' | ⟨_, qs', _, q'⟩
    · exact .inr ⟨ps, qs, e1, q'⟩
    · exact .inr ⟨ps, qs', e1, q'⟩
theorem XtB.of {a : Addr} {H H1 : Hp} (x : Xt H H1) : XtB a H H1 := fun b o _ e => x b o e
def Xw (ρ : Nat) (σ : St) (O : List Addr) (H H' : Hp) : Prop := Xt (hide H O) (hide H' O) ∧ ∀ a, σ[ρ]? = some (some (V.ref a)) → XtB a H H'
theorem Xw.refl {ρ : Nat} {σ : St} {O : List Addr} (H : Hp) : Xw ρ σ O H H := ⟨Xt.refl _, fun _ _ => .of (Xt.refl _)⟩
theorem Xw.of {ρ : Nat} {σ : St} {O : List Addr} {H H' : Hp} (x : Xt H H') : Xw ρ σ O H H' := ⟨hide_mono x, fun _ _ => .of x⟩
theorem Xw.trans {ρ : Nat} {σ : St} {O : List Addr} {H H1 H2 : Hp} (x : Xw ρ σ O H H1) (y : Xw ρ σ O H1 H2) : Xw ρ σ O H H2 := ⟨x.1.trans y.1, fun a h => (x.2 a h).trans (y.2 a h)⟩
abbrev WF := En → (PyData → Prop) → Prop
def tW (K : PySem.W.Frag) (Ts : TsT) (ρ : Nat) (F : WF) : TE := fun σ H Q => ∃ He O en Qd, WRep K Ts ρ He O σ H en ∧ F en Qd ∧ ∀ d v H', Qd d → WRep K Ts ρ He O σ H' en → Dp K (hide H' O) v d → Xw ρ σ O H H' → Q v H'
def tWs (K : PySem.W.Frag) (Ts : TsT) (ρ : Nat) (F : En → (List PyData → Prop) → Prop) : TA := fun σ H Q => ∃ He O en Qd, WRep K Ts ρ He O σ H en ∧ F en Qd ∧ ∀ ds vs H', Qd ds → WRep K Ts ρ He O σ H' en → DpAll K (hide H' O) vs ds → Xw ρ σ O H H' → Q vs H'
def tWT (K : PySem.W.Frag) (Ts : TsT) (ρ : Nat) (F : En → (Bool → Prop) → Prop) : TT := fun σ H Q => ∃ He O en Qd, WRep K Ts ρ He O σ H en ∧ F en Qd ∧ ∀ b H', Qd b → WRep K Ts ρ He O σ H' en → Xw ρ σ O H H' → Q b H'
abbrev WE (X : Cx) (Ts : TsT) (ρ : Nat) (e : Expr) (F : WF) : Prop := PE X e (tW X.K Ts ρ F)
abbrev WA (X : Cx) (Ts : TsT) (ρ : Nat) (es : List Expr) (F : En → (List PyData → Prop) → Prop) : Prop := PA X es (tWs X.K Ts ρ F)
abbrev WT (X : Cx) (Ts : TsT) (ρ : Nat) (e : Expr) (F : En → (Bool → Prop) → Prop) : Prop := PT X e (tWT X.K Ts ρ F)
theorem WRep.tabs' {K : PySem.W.Frag} {Ts : TsT} {ρ : Nat} {He : Hp} {O : List Addr} {σ : St} {H : Hp} {en : En} (r : WRep K Ts ρ He O σ H en) : Tb Ts H := let ⟨_, _, _, r⟩ := r; r.tabs
theorem WRep.occ {K : PySem.W.Frag} {Ts : TsT} {ρ : Nat} {He : Hp} {O : List Addr} {σ : St} {H : Hp} {en : En} (r : WRep K Ts ρ He O σ H en) : ∀ b ∈ O, H b ≠ none ∧ ∀ ps, H b ≠ some (.tbl ps) := let ⟨_, _, _, r⟩ := r; r.occ
theorem WRep.go {K : PySem.W.Frag} {Ts : TsT} {ρ : Nat} {He : Hp} {O : List Addr} {σ : St} {H H' : Hp} {en : En} (r : WRep K Ts ρ He O σ H en) (x : Xt H H') (t : Tb Ts H') : WRep K Ts ρ He O σ H' en := let ⟨a, rw, b, c⟩ := r; ⟨a, rw, b, c.go x t⟩
def wP (ρ : Nat) (f : En → Option PyData) : WF := fun en Q => ∃ d, (∀ rw, f (en.set ρ (.own rw)) = some d) ∧ Q d
def wT (ρ : Nat) (f : En → Option Bool) : En → (Bool → Prop) → Prop := fun en Q => ∃ b, (∀ rw, f (en.set ρ (.own rw)) = some b) ∧ Q b
def Op2 (K : PySem.W.Frag) (Ts : TsT) (r : R2) (g : PyData → PyData → Option PyData) : Prop := ∀ x y v w d H O Q, g x y = some d → Dp K (hide H O) v x → Dp K (hide H O) w y → Tb Ts H → (∀ b ∈ O, H b ≠ none ∧ ∀ ps, H b ≠ some (.tbl ps)) → (∀ u H', Xt H H' → Tb Ts H' → Dp K (hide H' O) u d → Q u H') → r v w H Q
def w2 (g : PyData → PyData → Option PyData) (F G : WF) : WF := fun en Q => F en fun x => G en fun y => ∃ d, g x y = some d ∧ Q d
def w1 (g : PyData → Option PyData) (F : WF) : WF := fun en Q => F en fun x => ∃ d, g x = some d ∧ Q d
section
variable {K : PySem.W.Frag} {X : Cx} {Ts : TsT} {ρ : Nat} {pos p : Pos} {e e2 : Expr} {es : List Expr} {f : En → Option PyData} {F G : WF}
theorem we_pure (h : DE X Ts e f) : WE X Ts ρ e (wP ρ f) := PE.imp h fun σ H Q ⟨He, O, en, Qd, ⟨hl, rw, hr, rp⟩, ⟨d, hf, hq⟩, kk⟩ =>
  tD.of rp (hf rw) fun v H' x r' q => kk d v H' hq ⟨hl, rw, hr, r'⟩ q (Xw.of x)
theorem wt_pure {t : En → Option Bool} (h : DT X Ts e t) : WT X Ts ρ e (wT ρ t) := PT.imp h fun σ H Q ⟨He, O, en, Qd, ⟨hl, rw, hr, rp⟩, ⟨d, hf, hq⟩, kk⟩ =>
  tT.of rp (hf rw) fun H' x r' => kk d H' hq ⟨hl, rw, hr, r'⟩ (Xw.of x)
theorem ww_2 {r : R2} {g : PyData → PyData → Option PyData} (k : Op2 K Ts r g) : ∀ σ H Q, tW K Ts ρ (w2 g F G) σ H Q → tOp r (tW K Ts ρ F) (tW K Ts ρ G) σ H Q := fun σ H Q ⟨He, O, en, Qd, rp, hF, kk⟩ =>
  ⟨He, O, en, _, rp, hF, fun x v H1 hx r1 q1 x1 => ⟨He, O, en, _, r1, hx, fun y w H2 ⟨d, hg, hd⟩ r2 q2 x2 =>
    k x y v w d H2 O Q hg (Dp.mono x2.1 q1) q2 r2.tabs' r2.occ fun u H' x3 t3 q3 => kk d u H' hd (r2.go x3 t3) q3 (x1.trans (x2.trans (Xw.of x3)))⟩⟩
theorem op2_plus : Op2 X.K Ts (fun x y H Q => rI0 (fun i j => .int (i + j)) x y H Q ∨ rCatA X.K x y H Q ∨ rCatL X.K x y H Q) gPlus := fun x y v w d H O Q h3 q1 q2 ht occ kk => by
  cases x <;> cases y <;> simp only [gPlus] at h3 <;> try cases h3
  · cases q1
    cases q2
    exact .inl ⟨_, _, rfl, rfl, kk _ H (Xt.refl H) ht (.int _)⟩
  · split at h3
    · rename_i hl
      cases h3
      cases q1 with
      | lst s1 a1 =>
        cases q2 with
        | lst s2 a2 =>
          have l1 := DpAll.len a1
          have l2 := DpAll.len a2
          exact .inr (.inr ⟨_, _, _, _, rfl, rfl, sqL_mono (fun o n e => (hide_some e).2) s1, sqL_mono (fun o n e => (hide_some e).2) s2, by rw [l1, l2, sizeLine_eq]; omega, fun p np => kk _ _ (Xt.upd np) (ht.new np) (lst_new np (new_out occ np) (DpAll.app a1 a2))⟩)
    · cases h3
  · split at h3
    · rename_i hl
      cases h3
      cases q1 with
      | tup s1 a1 =>
        cases q2 with
        | tup s2 a2 =>
          have l1 := DpAll.len a1
          have l2 := DpAll.len a2
          refine .inr (.inl ⟨_, _, _, _, rfl, rfl, sqT_mono (fun o n e => (hide_some e).2) s1, sqT_mono (fun o n e => (hide_some e).2) s2, by rw [l1, l2, sizeLine_eq]; omega, fun e0 => ?_, fun _ e0 => ?_, fun _ _ p np => kk _ _ (Xt.upd np) (ht.new np) (tup_new np (new_out occ np) (DpAll.app a1 a2))⟩)
          · subst e0
            cases a1
            exact kk _ H (Xt.refl H) ht (.tup s2 a2)
          · subst e0
            cases a2
            rw [List.append_nil] at kk
            exact kk _ H (Xt.refl H) ht (.tup s1 a1)
    · cases h3
theorem we_plus (ha : WE X Ts ρ e F) (hb : WE X Ts ρ e2 G) : WE X Ts ρ (.BinOp e .Add e2 pos) (w2 gPlus F G) := PE.imp (pe_op op_plus ha hb) (ww_2 op2_plus)
def wTB (F : WF) : En → (Bool → Prop) → Prop := fun en Q => F en fun d => ∃ b, d = .bool b ∧ Q b
theorem wt_val (h : WE X Ts ρ e F) (he : ∀ whole, isTrue e X.env whole = (do let v ← whole; standAt e.pos; holding [v] (truthy v)) := by intro _; rfl) : WT X Ts ρ e (wTB F) :=
  PT.imp (pt_val h he) fun σ H Q ⟨He, O, en, Qd, rp, hF, kk⟩ => ⟨He, O, en, _, rp, hF, fun d v H' ⟨b, hb, hq⟩ r' q x => by subst hb; cases q; exact ⟨b, rfl, kk b H' hq r' x⟩⟩
def wNil : En → (List PyData → Prop) → Prop := fun _ Q => Q []
def wCons (F : WF) (G : En → (List PyData → Prop) → Prop) : En → (List PyData → Prop) → Prop := fun en Q => F en fun x => G en fun xs => Q (x :: xs)
variable {Gs : En → (List PyData → Prop) → Prop}
theorem wa_nil : WA X Ts ρ [] wNil := PA.imp pa_nil fun σ H Q ⟨He, O, en, Qd, rp, hF, kk⟩ => kk [] [] H hF rp .nil (Xw.refl _)
theorem wa_cons (ha : WE X Ts ρ e F) (hr : WA X Ts ρ es Gs) (hs : starEach (e :: es) X.env = (false, eval e X.env) :: starEach es X.env := by rfl) : WA X Ts ρ (e :: es) (wCons F Gs) := PA.imp (pa_cons ha hr hs) fun σ H Q ⟨He, O, en, Qd, rp, hF, kk⟩ =>
  ⟨He, O, en, _, rp, hF, fun x v H1 hx r1 q1 x1 => ⟨He, O, en, _, r1, hx, fun xs vs H2 hxs r2 q2 x2 => kk _ _ H2 hxs r2 (.cons (Dp.mono x2.1 q1) q2) (x1.trans x2)⟩⟩
def wTup (G : En → (List PyData → Prop) → Prop) : WF := fun en Q => G en fun ds => ds.length ≤ 64 ∧ Q (.tuple ds)
def wLst (G : En → (List PyData → Prop) → Prop) : WF := fun en Q => G en fun ds => ds.length ≤ 64 ∧ Q (.list ds)
theorem we_tup {x1} (h : WA X Ts ρ es Gs) : WE X Ts ρ (.Tuple es x1 pos) (wTup Gs) := PE.imp (pe_tup h) fun σ H Q ⟨He, O, en, Qd, rp, hF, kk⟩ =>
  ⟨He, O, en, _, rp, hF, fun ds vs H1 ⟨hl, hq⟩ r1 q1 x1 => ⟨by rw [DpAll.len q1]; exact small64 hl, fun p np => kk _ _ _ hq (r1.go (Xt.upd np) (r1.tabs'.new np)) (tup_new np (new_out r1.occ np) q1) (x1.trans (Xw.of (Xt.upd np)))⟩⟩
theorem we_lst (h : WA X Ts ρ es Gs) : WE X Ts ρ (.List es pos) (wLst Gs) := PE.imp (pe_lst h) fun σ H Q ⟨He, O, en, Qd, rp, hF, kk⟩ =>
  ⟨He, O, en, _, rp, hF, fun ds vs H1 ⟨hl, hq⟩ r1 q1 x1 => ⟨by rw [DpAll.len q1]; exact small64 hl, fun p np => kk _ _ _ hq (r1.go (Xt.upd np) (r1.tabs'.new np)) (lst_new np (new_out r1.occ np) q1) (x1.trans (Xw.of (Xt.upd np)))⟩⟩
theorem we_tuple (hg : Gl X "tuple") (hm : X.mg "tuple" = none) (hv : bootBuiltins "tuple" = some (.type "tuple")) (ha : WE X Ts ρ e F) (he : starEach [e] X.env = (false, eval e X.env) :: starEach [] X.env := by rfl) : WE X Ts ρ (.Call (.Name "tuple" p) [e] [] pos) (w1 gTuple F) :=
  PE.imp (pe_callTy (t := tCons (tW X.K Ts ρ F) tNil) call_tuple_of hg hm hv (pa_cons ha pa_nil he) (by decide) (by decide) he (by rfl)) fun σ H Q ⟨He, O, en, Qd, rp, hF, kk⟩ =>
    ⟨He, O, en, _, rp, hF, fun d v H1 ⟨z, hz, hq⟩ r1 q1 x1 => by
      cases d <;> simp only [gTuple, items, Option.map_some, Option.map_none] at hz <;> try cases hz
      · cases q1 with
        | lst s a => exact ⟨_, _, rfl, .inl ⟨sqL_mono (fun o n e => (hide_some e).2) s, fun l nl => kk _ _ _ hq (r1.go (Xt.upd nl) (r1.tabs'.new nl)) (tup_new nl (new_out r1.occ nl) a) (x1.trans (Xw.of (Xt.upd nl)))⟩⟩
      · cases q1 with
        | tup s a => exact ⟨_, _, rfl, .inr ⟨sqT_mono (fun o n e => (hide_some e).2) s, kk _ _ H1 hq r1 (.tup s a) x1⟩⟩⟩
def wCall (n : Nat) (Fn : List PyData → Option PyData) (G : En → (List PyData → Prop) → Prop) : WF := fun en Q => G en fun ds => ds.length = n ∧ ∃ d, Fn ds = some d ∧ Q d
theorem we_call {k j n : Nat} {x : Str} {Fn : List PyData → Option PyData} (hr : Room j X.A) (hF : DFn X Ts k x n Fn) (hk : k ≤ j) (hg : Gl X x) (ha : WA X Ts ρ (e :: es) Gs) (hdb : (x == ("__debug__" : Str)) = false := by decide)
    (he : starEach (e :: es) X.env = (false, eval e X.env) :: starEach es X.env := by rfl) (hpl : (backTo pos (starEach es X.env)).any (·.1) = false := by rfl) : WE X Ts ρ (.Call (.Name x p) (e :: es) [] pos) (wCall n Fn Gs) := by
  obtain ⟨f, fd, ps, dvs, us, dd, G, h1, h2, h3, h3v, h3d, h4, h5⟩ := hF.ex
  refine PE.imp (pe_call h4 (hr.mono hk) hg h1 h2 h3 h3v pass0 ha hdb he hpl) fun σ H Q ⟨He, O, en, Qd, rp, hF, kk⟩ => ?_
  refine ⟨He, O, en, _, rp, hF, fun ds vs H1 ⟨hl, d, hd, hq⟩ r1 q1 x1 => ?_⟩
  show spD X.K Ts (n + dd.length) G (vs ++ dvs) H1 Q E0
  exact ⟨by rw [List.length_append, DpAll.len q1, hl, DpAll.len (h3d H1)], O, ds ++ dd, d, DpAll.app q1 (h3d _), r1.tabs', r1.occ, h5 ds d hl hd, fun v H' x t q => kk d v H' hq (r1.go x t) q (x1.trans (Xw.of x))⟩
def spW (K : PySem.W.Frag) (Ts : TsT) (n : Nat) (F : List PyData → (PyData → Prop) → Prop) : Sp := fun vs H Q _ => vs.length = n + 1 ∧ ∃ a vs' O ds rw ws Qd, vs = .ref a :: vs' ∧ a ∈ O ∧ H a = some (.lst ws) ∧ DpAll K (hide H O) ws rw ∧ RowOk rw ∧ DpAll K (hide H O) vs' ds ∧ Tb Ts H ∧
  (∀ b ∈ O, H b ≠ none ∧ ∀ ps, H b ≠ some (.tbl ps)) ∧ F ds Qd ∧ ∀ d v H' rw' ws', Qd d → RowOk rw' → H' a = some (.lst ws') → DpAll K (hide H' O) ws' rw' → XtB a H H' → Tb Ts H' → Dp K (hide H' O) v d → Q v H'
theorem spW.imp {n : Nat} {F G : List PyData → (PyData → Prop) → Prop} (h : ∀ ds Q, G ds Q → F ds Q) : ∀ vs H Q E, spW K Ts n G vs H Q E → spW K Ts n F vs H Q E :=
  fun vs H Q E ⟨h1, a, vs', O, ds, rw, ws, Qd, e1, e2, e3, e4, e5, e6, e7, e8, e9, k⟩ => ⟨h1, a, vs', O, ds, rw, ws, Qd, e1, e2, e3, e4, e5, e6, e7, e8, h ds Qd e9, k⟩
structure CW (P : Program) (w : World) (K : PySem.W.Frag) (mg : Str → Option Value) (base : Heap) (Ts : TsT) (k : Nat) (x : Str) (n : Nat) (F : List PyData → (PyData → Prop) → Prop) : Prop where
  ex : ∃ f fd ps, mg x = some (.ref f) ∧ PySem.W.keepIn K (.ref f) = true ∧ Binds K fd ps [] ∧ FnOk P w K mg base CX0 k f fd ps (spW K Ts n F)
theorem CW.imp {P : Program} {w : World} {mg : Str → Option Value} {base : Heap} {k : Nat} {x : Str} {n : Nat} {F G : List PyData → (PyData → Prop) → Prop} (c : CW P w K mg base Ts k x n F) (h : ∀ ds Q, G ds Q → F ds Q) : CW P w K mg base Ts k x n G := by
  obtain ⟨f, fd, ps, h1, h2, h3, h4⟩ := c.ex
  exact ⟨f, fd, ps, h1, h2, h3, h4.imp (spW.imp h)⟩
def wDraw (n : Nat) (Fn : List PyData → (PyData → Prop) → Prop) (G : En → (List PyData → Prop) → Prop) : WF := fun en Q => G en fun ds => ds.length = n ∧ Fn ds Q
theorem WRep.back {He : Hp} {O : List Addr} {σ : St} {H H' : Hp} {en : En} {a : Addr} {rw' : List PyData} {ws' : List V} (r : WRep K Ts ρ He O σ H en) (hs : σ[ρ]? = some (some (V.ref a))) (hr : RowOk rw') (ha : H' a = some (.lst ws')) (q : DpAll K (hide H' O) ws' rw') (x : XtB a H H') (t : Tb Ts H') : WRep K Ts ρ He O σ H' en ∧ Xt (hide H O) (hide H' O) := by
  obtain ⟨hl, rw, hr0, rp⟩ := r
  have hρ : (en.set ρ (Slot.own rw))[ρ]? = some (Slot.own rw) := by rw [List.getElem?_set_self hl]
  obtain ⟨a0, vs0, p1, p2, p3, p4, p5⟩ := rp.own ρ rw hρ
  rw [hs] at p1
  cases p1
  have xh : Xt (hide H O) (hide H' O) := fun b o e => by
    obtain ⟨e1, e2⟩ := hide_some e
    have hne : b ≠ a := fun z => e1 (z ▸ p2)
    rcases x b o hne e2 with q | ⟨ps, qs, e3, q⟩
    · exact .inl (hide_of e1 q)
    · exact .inr ⟨ps, qs, e3, hide_of e1 q⟩
  have toOwn : ∀ (j : Nat) (es : List PyData), (en.set ρ (Slot.own rw'))[j]? = some (Slot.own es) → ∃ es', (en.set ρ (Slot.own rw))[j]? = some (Slot.own es') := fun j es h => by
    by_cases hj : ρ = j
    · subst hj; exact ⟨rw, hρ⟩
    · rw [List.getElem?_set_ne hj] at h ⊢; exact ⟨es, h⟩
  refine ⟨⟨hl, rw', hr, ⟨by simpa using rp.len, fun j d h => ?_, fun j es h => ?_, fun j k es es' aa h1 h2 h3 h4 => ?_, fun b hb => ?_, fun b o e => ?_, t⟩⟩, xh⟩
  · have hj : ρ ≠ j := fun z => by subst z; rw [List.getElem?_set_self hl] at h; cases h
    rw [List.getElem?_set_ne hj] at h
    obtain ⟨v, q1, q2⟩ := rp.dat j d (by rw [List.getElem?_set_ne hj]; exact h)
    exact ⟨v, q1, Dp.mono xh q2⟩
  · by_cases hj : ρ = j
    · subst hj
      rw [List.getElem?_set_self hl] at h
      cases h
      exact ⟨a, ws', hs, p2, p3, ha, q⟩
    · rw [List.getElem?_set_ne hj] at h
      obtain ⟨a', vs', q1, q2, q3, q4, q5⟩ := rp.own j es (by rw [List.getElem?_set_ne hj]; exact h)
      have hne : a' ≠ a := fun z => hj (by subst z; exact rp.inj ρ j rw es a' hρ (by rw [List.getElem?_set_ne hj]; exact h) hs q1)
      rcases x a' _ hne q4 with q | ⟨_, _, z, _⟩
      · exact ⟨a', vs', q1, q2, q3, q, DpAll.mono xh q5⟩
      · cases z
  · obtain ⟨e1, g1⟩ := toOwn j es h1
    obtain ⟨e2, g2⟩ := toOwn k es' h2
    exact rp.inj j k e1 e2 aa g1 g2 h3 h4
  · by_cases z : b = a
    · rw [z, ha]
      exact ⟨by simp, fun ps z => nomatch z⟩
    · obtain ⟨n1, n2⟩ := rp.occ b hb
      cases e : H b with
      | none => exact absurd e n1
      | some o =>
        rcases x b o z e with q | ⟨ps, qs, e3, q⟩
        · rw [q]; exact ⟨by simp, fun ps z => n2 ps (by rw [e]; exact z)⟩
        · exact absurd (by rw [e, e3]) (n2 ps)
  · have hne : b ≠ a := fun z => by rw [z, p3] at e; cases e
    rcases rp.ext b o e with q | ⟨ps, qs, e3, q⟩
    · exact x b o hne q
    · rcases x b _ hne q with q' | ⟨_, qs', _, q'⟩
      · exact .inr ⟨ps, qs, e3, q'⟩
      · exact .inr ⟨ps, qs', e3, q'⟩
theorem WRep.at {He : Hp} {O : List Addr} {σ : St} {H : Hp} {en : En} (r : WRep K Ts ρ He O σ H en) : ∃ a rw ws, σ[ρ]? = some (some (V.ref a)) ∧ a ∈ O ∧ He a = none ∧ H a = some (.lst ws) ∧ DpAll K (hide H O) ws rw ∧ RowOk rw := by
  obtain ⟨hl, rw, hr, rp⟩ := r
  obtain ⟨a, vs, p1, p2, p3, p4, p5⟩ := rp.own ρ rw (by rw [List.getElem?_set_self hl])
  exact ⟨a, rw, vs, p1, p2, p3, p4, p5, hr⟩
theorem we_draw {k j n : Nat} {x y : Str} {py : Pos} {Fn : List PyData → (PyData → Prop) → Prop} (hr : Room j X.A) (hF : CW X.prog X.w X.K X.mg X.base Ts k x n Fn) (hk : k ≤ j) (hg : Gl X x) (hN : X.N[ρ]? = some y) (hv : Vis X.env.scope y) (ha : WA X Ts ρ es Gs) (hdb : (x == ("__debug__" : Str)) = false := by decide) (hd : (y == ("__debug__" : Str)) = false := by decide)
    (hcd : (y == ("__classdict__" : Str)) = false := by decide) (he : starEach (.Name y py :: es) X.env = (false, eval (.Name y py) X.env) :: starEach es X.env := by rfl) (hpl : (backTo pos (starEach es X.env)).any (·.1) = false := by rfl) : WE X Ts ρ (.Call (.Name x p) (.Name y py :: es) [] pos) (wDraw n Fn Gs) := by
  obtain ⟨f, fd, ps, h1, h2, h3, h4⟩ := hF.ex
  refine PE.imp (pe_call h4 (hr.mono hk) hg h1 h2 h3 .nil pass0 (pa_cons (pe_var hN hv hd hcd) ha he) hdb he hpl) fun σ H Q ⟨He, O, en, Qd, rp, hF, kk⟩ => ?_
  obtain ⟨a, rw, ws, p1, p2, p3, p4, p5, p6⟩ := rp.at
  refine ⟨.ref a, p1, He, O, en, _, rp, hF, fun ds vs H1 ⟨hl, hq⟩ r1 q1 x1 => ?_⟩
  obtain ⟨a', rw1, ws1, s1, s2, s3, s4, s5, s6⟩ := r1.at
  rw [p1] at s1
  cases s1
  show spW X.K Ts n Fn ((V.ref a :: vs) ++ []) H1 Q E0
  rw [List.append_nil]
  exact ⟨by rw [List.length_cons, DpAll.len q1, hl], a, vs, O, ds, rw1, ws1, Qd, rfl, s2, s4, s5, s6, q1, r1.tabs', r1.occ, hq, fun d v H' rw' ws' hd hrw ha' hq' hx ht hdp => by
    obtain ⟨b1, b2⟩ := r1.back p1 hrw ha' hq' hx ht
    exact kk d v H' hd b1 hdp (x1.trans ⟨b2, fun a2 h2 => by rw [p1] at h2; cases h2; exact hx⟩)⟩
end
def BOk (ρ : Nat) (b : PyData → En → Option En) : Prop := ∀ (d : PyData) (en en' : En) (rw : List PyData), b d en = some en' → b d (en.set ρ (.own rw)) = some (en'.set ρ (.own rw)) ∧ en'.length = en.length ∧
  (∀ j es, j ≠ ρ → en'[j]? = some (Slot.own es) → en[j]? = some (Slot.own es))
theorem bOk_name {ρ i : Nat} (h : i ≠ ρ) : BOk ρ (bName i) := fun d en en' rw hb => by
  unfold bName at hb ⊢
  split at hb
  · rename_i hi
    cases hb
    refine ⟨by rw [if_pos (by simpa using hi), List.set_comm _ _ (Ne.symm h)], by simp, fun j es hj h1 => ?_⟩
    have hij : i ≠ j := fun z => by subst z; rw [List.getElem?_set_self hi] at h1; cases h1
    rwa [List.getElem?_set_ne hij] at h1
  · cases hb
theorem bOk_names {ρ : Nat} : ∀ {is : List Nat}, (∀ i ∈ is, i ≠ ρ) → ∀ (ds : List PyData) (en en' : En) (rw : List PyData), bNames is ds en = some en' → bNames is ds (en.set ρ (.own rw)) = some (en'.set ρ (.own rw)) ∧ en'.length = en.length ∧
  (∀ j es, j ≠ ρ → en'[j]? = some (Slot.own es) → en[j]? = some (Slot.own es))
  | [], _, [], en, en', rw, h => by cases h; exact ⟨rfl, rfl, fun _ _ _ h => h⟩
  | [], _, _ :: _, _, _, _, h => by cases h
  | _ :: _, _, [], _, _, _, h => by cases h
  | i :: is, hi, d :: ds, en, en', rw, h => by
    obtain ⟨e1, h1, h2⟩ := Option.bind_eq_some_iff.mp h
    obtain ⟨a1, a2, a3⟩ := bOk_name (hi i List.mem_cons_self) d en e1 rw h1
    obtain ⟨b1, b2, b3⟩ := bOk_names (fun j hj => hi j (List.mem_cons_of_mem _ hj)) ds e1 en' rw h2
    exact ⟨by show (bName i d (en.set ρ (.own rw))).bind _ = _; rw [a1]; exact b1, b2.trans a2, fun j es hj h => a3 j es hj (b3 j es hj h)⟩
theorem bOk_tup {ρ : Nat} {is : List Nat} (h : ∀ i ∈ is, i ≠ ρ) : BOk ρ (bTup is) := fun d en en' rw hb => by
  cases d <;> try cases hb
  exact bOk_names h _ en en' rw hb
def tWI (K : PySem.W.Frag) (Ts : TsT) (ρ : Nat) (F : En → (List PyData → Prop) → Prop) : TI := fun σ H R => ∃ He O en Qd, WRep K Ts ρ He O σ H en ∧ F en Qd ∧ ∀ ds J H1, Qd ds → WRep K Ts ρ He O σ H1 en → Xw ρ σ O H H1 → Gives K Ts J ds H1 O → R J H1
abbrev WI (X : Cx) (Ts : TsT) (ρ : Nat) (tg iter : Expr) (F : En → (List PyData → Prop) → Prop) : Prop := PI X tg iter (tWI X.K Ts ρ F)
def gWD (K : PySem.W.Frag) (Ts : TsT) (ρ : Nat) (vs : List Nat) (b : PyData → En → Option En) : TG := fun x σ H Q => ∃ He O en d en', WRep K Ts ρ He O σ H en ∧ Dp K (hide H O) x d ∧ b d en = some en' ∧ ∀ σ', WRep K Ts ρ He O σ' H en' → wipe σ' vs = wipe σ vs → Q σ' H
section
variable {K : PySem.W.Frag} {X : Cx} {Ts : TsT} {ρ : Nat} {pos p : Pos} {e e2 tg iter elt : Expr} {es : List Expr} {f : En → Option PyData} {F G : WF} {it : En → (List PyData → Prop) → Prop} {b : PyData → En → Option En} {t : En → (Bool → Prop) → Prop}
theorem wg_of {vs : List Nat} (h : DG X Ts tg vs b) (hb : BOk ρ b) : PG X tg (gWD X.K Ts ρ vs b) := PG.imp h fun x σ H Q ⟨He, O, en, d, en', ⟨hl, rw, hr, rp⟩, q, hbd, kk⟩ =>
  ⟨He, O, _, d, _, rp, q, (hb d en en' rw hbd).1, fun σ' r' w' => kk σ' ⟨by rw [(hb d en en' rw hbd).2.1]; exact hl, rw, hr, r'⟩ w'⟩
def wIt (ρ : Nat) (f : En → Option (List PyData)) : En → (List PyData → Prop) → Prop := fun en Q => ∃ ds, (∀ rw, f (en.set ρ (.own rw)) = some ds) ∧ Q ds
theorem wi_pure {fi : En → Option (List PyData)} (h : DI X Ts tg iter fi) : WI X Ts ρ tg iter (wIt ρ fi) := PI.imp h fun σ H R ⟨He, O, en, Qd, ⟨hl, rw, hr, rp⟩, ⟨ds, hf, hq⟩, kk⟩ =>
  ⟨He, O, _, ds, rp, hf rw, fun J H1 x1 t1 gv => kk ds J H1 hq ⟨hl, rw, hr, rp.go x1 t1⟩ (Xw.of x1) gv⟩
def wRange1 (F : WF) : En → (List PyData → Prop) → Prop := fun en Q => F en fun d => ∃ j : Int, d = .int j ∧ -1000000 ≤ j ∧ j ≤ 1000000 ∧ Q (rangeD 0 j.toNat)
theorem wi_range1 (hg : Gl X "range") (hm : X.mg "range" = none) (ha : WE X Ts ρ e F) (hs : starEach [e] X.env = [(false, eval e X.env)] := by rfl) : WI X Ts ρ tg (.Call (.Name "range" p) [e] [] pos) (wRange1 F) :=
  PI.imp (pi_range1 (ta := tCons (tW X.K Ts ρ F) tNil) hg hm (pa_cons ha pa_nil hs) hs) fun σ H R ⟨He, O, en, Qd, rp, hF, kk⟩ =>
    ⟨He, O, en, _, rp, hF, fun d v H1 ⟨j, hj, h1, h2, hq⟩ r1 q1 x1 => by
      subst hj
      cases q1
      exact ⟨j, rfl, by omega, by omega, kk _ _ H1 hq r1 x1 gives_range⟩⟩
def wlcGo (b : PyData → En → Option En) (t : En → (Bool → Prop) → Prop) (f : WF) (en : En) : List PyData → (List PyData → Prop) → Prop
  | [], Q => Q []
  | d :: r, Q => ∃ e1, b d en = some e1 ∧ t e1 fun k => if k = true then f e1 fun y => wlcGo b t f en r fun o => Q (y :: o) else wlcGo b t f en r Q
def wLc (it : En → (List PyData → Prop) → Prop) (b : PyData → En → Option En) (t : En → (Bool → Prop) → Prop) (f : WF) (vs : List Nat) : WF := fun en Q => (∀ j ∈ vs, ∀ es, en[j]? ≠ some (Slot.own es)) ∧ it en fun ds => ds.length ≤ 1000000 ∧ wlcGo b t f (wipeE en vs) ds fun o => Q (.list o)
def wYes : En → (Bool → Prop) → Prop := fun _ Q => Q true
theorem wts_nil : PTs X [] (tWT X.K Ts ρ wYes) := ⟨fun pins s σ H Q I ⟨He, O, en, Qd, rp, hF, kk⟩ => pts_nil.run pins s σ H Q I (kk true H hF rp (Xw.refl _))⟩
theorem wipeE_set {en : En} {vs : List Nat} {x : Slot} (h : ρ ∉ vs) : wipeE (en.set ρ x) vs = (wipeE en vs).set ρ x := by
  induction vs with
  | nil => rfl
  | cons v vs ih =>
    have h1 : v ≠ ρ := fun e => h (by rw [e]; exact List.mem_cons_self)
    have h2 : ρ ∉ vs := fun m => h (List.mem_cons_of_mem _ m)
    show (wipeE (en.set ρ x) vs).set v .no = ((wipeE en vs).set v .no).set ρ x
    rw [ih h2, List.set_comm _ _ (Ne.symm h1)]
theorem wipeE_len (en : En) : ∀ vs : List Nat, (wipeE en vs).length = en.length
  | [] => rfl
  | v :: vs => by
    show ((wipeE en vs).set v .no).length = _
    rw [List.length_set, wipeE_len en vs]
theorem WRep.wipe {He : Hp} {O : List Addr} {σ : St} {H : Hp} {en : En} (r : WRep K Ts ρ He O σ H en) {vs : List Nat} (h : ρ ∉ vs) : WRep K Ts ρ He O (L2.wipe σ vs) H (wipeE en vs) := by
  obtain ⟨hl, rw, hr, rp⟩ := r
  refine ⟨by rw [wipeE_len]; exact hl, rw, hr, ?_⟩
  have := rp.wipe vs
  rwa [wipeE_set h] at this
theorem WRep.hid {He : Hp} {O : List Addr} {σ : St} {H : Hp} {en : En} (r : WRep K Ts ρ He O σ H en) {D : Addr} (hD : H D = none) {o : HO} (no : ∀ ps, o ≠ .tbl ps) : WRep K Ts ρ He (D :: O) σ (upd H D o) en := by
  obtain ⟨hl, rw, hr, rp⟩ := r
  exact ⟨hl, rw, hr, rp.hid hD no⟩
theorem WRep.join {He : Hp} {O : List Addr} {σ σ2 : St} {H H5 : Hp} {en e2 : En} (r1 : WRep K Ts ρ He O σ H en) (r2 : WRep K Ts ρ He O σ2 H5 e2) (x : Xt (hide H O) (hide H5 O)) (hρ : σ2[ρ]? = σ[ρ]?)
    (ho : ∀ (j : Nat) (es : List PyData), j ≠ ρ → en[j]? = some (Slot.own es) → e2[j]? = some (Slot.own es) ∧ σ2[j]? = σ[j]?) : WRep K Ts ρ He O σ H5 en := by
  obtain ⟨hl, rw1, hr1, rp1⟩ := r1
  obtain ⟨hl2, rw2, hr2, rp2⟩ := r2
  have h2ρ : (e2.set ρ (Slot.own rw2))[ρ]? = some (Slot.own rw2) := by rw [List.getElem?_set_self hl2]
  have h1ρ : (en.set ρ (Slot.own rw1))[ρ]? = some (Slot.own rw1) := by rw [List.getElem?_set_self hl]
  have toOwn : ∀ (j : Nat) (es : List PyData), (en.set ρ (Slot.own rw2))[j]? = some (Slot.own es) → ∃ es', (en.set ρ (Slot.own rw1))[j]? = some (Slot.own es') := fun j es h => by
    by_cases hj : ρ = j
    · subst hj; exact ⟨rw1, h1ρ⟩
    · rw [List.getElem?_set_ne hj] at h ⊢; exact ⟨es, h⟩
  refine ⟨hl, rw2, hr2, ⟨by simpa using rp1.len, fun j d h => ?_, fun j es h => ?_, fun j k es es' aa h1 h2 h3 h4 => ?_, rp2.occ, rp2.ext, rp2.tabs⟩⟩
  · have hj : ρ ≠ j := fun z => by subst z; rw [List.getElem?_set_self hl] at h; cases h
    rw [List.getElem?_set_ne hj] at h
    obtain ⟨v, q1, q2⟩ := rp1.dat j d (by rw [List.getElem?_set_ne hj]; exact h)
    exact ⟨v, q1, Dp.mono x q2⟩
  · by_cases hj : ρ = j
    · subst hj
      rw [List.getElem?_set_self hl] at h
      cases h
      obtain ⟨a, vs, p1, p2⟩ := rp2.own ρ rw2 h2ρ
      exact ⟨a, vs, by rw [← hρ]; exact p1, p2⟩
    · rw [List.getElem?_set_ne hj] at h
      obtain ⟨q1, q2⟩ := ho j es (Ne.symm hj) h
      obtain ⟨a, vs, p1, p2⟩ := rp2.own j es (by rw [List.getElem?_set_ne hj]; exact q1)
      exact ⟨a, vs, by rw [← q2]; exact p1, p2⟩
  · obtain ⟨f1, g1⟩ := toOwn j es h1
    obtain ⟨f2, g2⟩ := toOwn k es' h2
    exact rp1.inj j k f1 f2 aa g1 g2 h3 h4
theorem WRep.unhide {He : Hp} {O : List Addr} {σ : St} {H : Hp} {en : En} {D : Addr} (r : WRep K Ts ρ He (D :: O) σ H en) (no : ∀ (j : Nat) (es : List PyData) (a : Addr), (∃ rw, (en.set ρ (Slot.own rw))[j]? = some (Slot.own es)) → σ[j]? = some (some (V.ref a)) → a ≠ D) : WRep K Ts ρ He O σ H en := by
  obtain ⟨hl, rw, hr, rp⟩ := r
  have hs : Xt (hide H (D :: O)) (hide H O) := hide_sub fun b hb => List.mem_cons_of_mem _ hb
  refine ⟨hl, rw, hr, ⟨rp.len, fun j d h => let ⟨v, q1, q2⟩ := rp.dat j d h; ⟨v, q1, Dp.mono hs q2⟩, fun j es h => ?_, rp.inj, fun b hb => rp.occ b (List.mem_cons_of_mem _ hb), rp.ext, rp.tabs⟩⟩
  obtain ⟨a, vs, p1, p2, p3, p4, p5⟩ := rp.own j es h
  exact ⟨a, vs, p1, (List.mem_cons.mp p2).elim (fun z => absurd z (no j es a ⟨rw, h⟩ p1)) id, p3, p4, DpAll.mono hs p5⟩
theorem wipeE_out {en : En} {i : Nat} : ∀ {vs : List Nat}, i ∉ vs → (wipeE en vs)[i]? = en[i]?
  | [], _ => rfl
  | v :: vs, h => by
    have h1 : v ≠ i := fun e => h (by rw [e]; exact List.mem_cons_self)
    have h2 : i ∉ vs := fun m => h (List.mem_cons_of_mem _ m)
    show ((wipeE en vs).set v .no)[i]? = _
    rw [List.getElem?_set_ne h1]
    exact wipeE_out h2
theorem WRep.free {He : Hp} {O : List Addr} {σ : St} {H : Hp} {en : En} {D : Addr} (r : WRep K Ts ρ He O σ H en) (nD : H D = none) : ∀ (j : Nat) (es : List PyData) (a : Addr), (∃ rw, (en.set ρ (Slot.own rw))[j]? = some (Slot.own es)) → σ[j]? = some (some (V.ref a)) → a ≠ D := fun j es a ⟨rw', h1⟩ h2 z => by
  obtain ⟨hl, rw0, hr0, rp0⟩ := r
  have : ∃ es', (en.set ρ (Slot.own rw0))[j]? = some (Slot.own es') := by
    by_cases hj : ρ = j
    · subst hj; exact ⟨rw0, by rw [List.getElem?_set_self hl]⟩
    · rw [List.getElem?_set_ne hj] at h1 ⊢; exact ⟨es, h1⟩
  obtain ⟨es', h3⟩ := this
  obtain ⟨a', vs', g1, g2, g3, g4, _⟩ := rp0.own j es' h3
  rw [h2] at g1
  cases g1
  rw [z, nD] at g4
  cases g4
theorem WRep.grow {He : Hp} {O : List Addr} {σ : St} {H : Hp} {en : En} {D : Addr} {l l' : List V} (r : WRep K Ts ρ He O σ H en) (hm : D ∈ O) (hD : H D = some (.lst l)) (nE : He D = none) (no : ∀ (j : Nat) (es : List PyData) (a : Addr), (∃ rw, (en.set ρ (Slot.own rw))[j]? = some (Slot.own es)) → σ[j]? = some (some (V.ref a)) → a ≠ D) : WRep K Ts ρ He O σ (upd H D (.lst l')) en := by
  obtain ⟨hl, rw, hr, rp⟩ := r
  have hu : Xt (hide H O) (hide (upd H D (.lst l')) O) := hide_upd hm
  refine ⟨hl, rw, hr, ⟨rp.len, fun j dd h => let ⟨u, p, q⟩ := rp.dat j dd h; ⟨u, p, Dp.mono hu q⟩, fun j es h => ?_, rp.inj, fun bb hb => ?_, fun bb o e => ?_, rp.tabs.upd fun u z => by rw [hD] at z; cases z; exact lst_noc⟩⟩
  · obtain ⟨a, ws, p1, p2, p3, p4, p5⟩ := rp.own j es h
    exact ⟨a, ws, p1, p2, p3, by rw [upd_ne (no j es a ⟨rw, h⟩ p1)]; exact p4, DpAll.mono hu p5⟩
  · by_cases z : bb = D
    · rw [z, upd_same]
      exact ⟨by simp, fun ps q => nomatch q⟩
    · rw [upd_ne z]
      exact rp.occ bb hb
  · have hne : bb ≠ D := fun z => by rw [z, nE] at e; cases e
    rw [upd_ne hne]
    exact rp.ext bb o e
def tWNew (K : PySem.W.Frag) (Ts : TsT) (ρ : Nat) (F : WF) : TE := fun σ H Q => ∃ He O en Qd, WRep K Ts ρ He O σ H en ∧ F en Qd ∧ ∀ ds a vs H', Qd (.list ds) → WRep K Ts ρ He O σ H' en → H a = none → H' a = some (.lst vs) → DpAll K (hide H' (a :: O)) vs ds → Xt (hide H O) (hide H' (a :: O)) → (∀ r, σ[ρ]? = some (some (V.ref r)) → XtB r H H') → Q (.ref a) H'
theorem wlc_w {vs : List Nat} {σ : St} {H : Hp} {Q : VK} (hρ : ρ ∉ vs) (hbo : BOk ρ b) (hbv : ∀ (d : PyData) (en e1 : En) (j : Nat), j ∉ vs → b d en = some e1 → e1[j]? = en[j]?) (h : tWNew K Ts ρ (wLc it b t F vs) σ H Q) :
    tLc (tWI K Ts ρ it) (gWD K Ts ρ vs b) (tWT K Ts ρ t) (tW K Ts ρ F) vs σ H Q := by
  obtain ⟨He, O, en, Qd, rp, ⟨hno, hF⟩, kk⟩ := h
  refine ⟨He, O, en, _, rp, hF, fun ds J H1 ⟨hlen, hgo0⟩ r1 x1 gv D nD => ?_⟩
  have noD := r1.free nD
  obtain ⟨aρ, rwρ, wsρ, s1, s2, s3, s4, s5, s6⟩ := r1.at
  have hneρ : D ≠ aρ := fun z => by rw [← z, nD] at s4; cases s4
  have rD := r1.hid nD (o := .lst []) (fun _ z => nomatch z)
  have hDm : D ∈ D :: O := List.mem_cons_self
  have x0 : Xt (hide H1 O) (hide (upd H1 D (.lst [])) (D :: O)) := fun bb o e => by
    obtain ⟨e1, e2⟩ := hide_some e
    have hne := ne_of_none e2 nD
    exact .inl (hide_of (fun z => (List.mem_cons.mp z).elim hne e1) (by rw [upd_ne hne]; exact e2))
  have nDH : H D = none := by
    cases e : H D with
    | none => rfl
    | some o =>
      rcases x1.2 aρ s1 D o hneρ e with q | ⟨_, _, _, q⟩ <;> rw [q] at nD <;> cases nD
  have nDHe : He D = none := by
    obtain ⟨_, _, _, rp1⟩ := r1
    exact rp1.ext.there nD
  refine ⟨fun i m H2 => m = ds.length - i ∧ i ≤ ds.length ∧ Xt (hide H1 O) (hide H2 (D :: O)) ∧ XtB aρ H1 H2 ∧ WRep K Ts ρ He (D :: O) σ H2 en ∧ ∃ acc done, H2 D = some (.lst acc) ∧ DpAll K (hide H2 (D :: O)) acc done ∧ acc.length ≤ i ∧ wlcGo b t F (wipeE en vs) (ds.drop i) fun o => Qd (.list (done ++ o)),
    ⟨ds.length, by simp, Nat.zero_le _, x0, .of (Xt.upd nD), rD, [], [], upd_same, .nil, Nat.zero_le _, by simpa using hgo0⟩, fun i m H2 hW => ?_⟩
  obtain ⟨rfl, hi, x12, xb, r2, acc, done, hD, ha, hal, hgo⟩ := hW
  have occ2 : ∀ b ∈ D :: O, H2 b ≠ none ∧ ∀ ps, H2 b ≠ some (.tbl ps) := r2.occ
  obtain ⟨g1, g2, g3⟩ := gv (D :: O) H2 x12 (x12.trans hide_out) occ2
  by_cases hlt : i < ds.length
  · refine .inr ⟨g1 i hlt, fun H' => Xt (hide H1 O) (hide H' (D :: O)) ∧ XtB aρ H1 H' ∧ WRep K Ts ρ He (D :: O) σ H' en ∧ ∃ acc done, H' D = some (.lst acc) ∧ DpAll K (hide H' (D :: O)) acc done ∧ acc.length ≤ i + 1 ∧ wlcGo b t F (wipeE en vs) (ds.drop (i + 1)) fun o => Qd (.list (done ++ o)),
      fun H' ⟨a, c⟩ => ⟨ds.length - (i + 1), by omega, rfl, hlt, a, c⟩, fun x H3 hy => ?_⟩
    obtain ⟨d, hd, x23, t23, qd⟩ := g3 i x H3 hlt hy
    have r3 := r2.go x23 (t23 r2.tabs')
    rw [List.drop_eq_getElem_cons hlt] at hgo
    have hd' : ds[i] = d := by rw [List.getElem?_eq_getElem hlt] at hd; exact Option.some.inj hd
    rw [hd'] at hgo
    obtain ⟨e1, hb, hgo1⟩ := hgo
    refine ⟨He, D :: O, _, d, e1, r3.wipe hρ, qd, hb, fun σ2 r4 hw => ⟨hw.trans (wipe_wipe _ _), ?_⟩⟩
    have hsame : ∀ j, j ∉ vs → σ2[j]? = σ[j]? := fun j hj => by rw [← wipe_out hj, hw, wipe_wipe, wipe_out hj]
    have hown : ∀ (j : Nat) (es : List PyData), j ≠ ρ → en[j]? = some (Slot.own es) → e1[j]? = some (Slot.own es) ∧ σ2[j]? = σ[j]? := fun j es hj h1 => by
      have hjv : j ∉ vs := fun z => hno j z es h1
      exact ⟨by rw [hbv d _ e1 j hjv hb, wipeE_out hjv]; exact h1, hsame j hjv⟩
    have s1' : σ2[ρ]? = some (some (V.ref aρ)) := by rw [hsame ρ hρ]; exact s1
    have hD3 : H3 D = some (.lst acc) := x23.get D _ hD (fun _ z => nomatch z)
    refine ⟨He, D :: O, e1, _, r4, hgo1, fun k H4 hk r5 x34 => ?_⟩
    have hD4 : H4 D = some (.lst acc) := by
      rcases x34.2 aρ s1' D _ hneρ hD3 with q | ⟨_, _, z, _⟩
      · exact q
      · cases z
    have xh24 : Xt (hide H2 (D :: O)) (hide H4 (D :: O)) := (hide_mono x23).trans x34.1
    have xb4 : XtB aρ H1 H4 := (xb.trans (.of x23)).trans (x34.2 aρ s1')
    cases k with
    | false =>
      simp only [Bool.false_eq_true, if_false] at hk ⊢
      exact ⟨x12.trans xh24, xb4, r3.join r5 x34.1 (hsame ρ hρ) hown, acc, done, hD4, DpAll.mono xh24 ha, by omega, hk⟩
    | true =>
      simp only [if_true] at hk ⊢
      refine ⟨He, D :: O, e1, _, r5, hk, fun y v H5 hy5 r6 q6 x45 => ?_⟩
      have hD5 : H5 D = some (.lst acc) := by
        rcases x45.2 aρ s1' D _ hneρ hD4 with q | ⟨_, _, z, _⟩
        · exact q
        · cases z
      have xh25 := xh24.trans x45.1
      have xb5 : XtB aρ H1 H5 := xb4.trans (x45.2 aρ s1')
      have hu : Xt (hide H5 (D :: O)) (hide (upd H5 D (.lst (acc ++ [v]))) (D :: O)) := hide_upd hDm
      have r7 := r3.join r6 (x34.trans x45).1 (hsame ρ hρ) hown
      refine ⟨acc, hD5, by rw [sizeLine_eq]; omega, x12.trans (xh25.trans hu), fun bb o hb2 e => ?_, r7.grow hDm hD5 nDHe noD, acc ++ [v], done ++ [y], upd_same, DpAll.app (DpAll.mono (xh25.trans hu) ha) (.cons (Dp.mono hu q6) .nil), by rw [List.length_append]; simp; omega, by simpa using hy5⟩
      have hne : bb ≠ D := ne_of_none e nD
      rw [upd_ne hne]
      exact xb5 bb o hb2 e
  · have hie : i = ds.length := by omega
    subst hie
    rw [List.drop_of_length_le (Nat.le_refl _)] at hgo
    have hq : Qd (.list done) := by simpa [wlcGo] using hgo
    refine .inl ⟨g2, kk done D acc H2 hq (r2.unhide noD) nDH hD ha (x1.1.trans x12) fun r hr => ?_⟩
    have : r = aρ := by rw [s1] at hr; cases hr; rfl
    subst this
    exact (x1.2 r s1).trans xb
end
section
variable {X : Cx} {Ts : TsT} {ρ : Nat} {pos p : Pos} {e elt tg iter : Expr} {ifs : List Expr} {scope : Scope} {own : List (Str × Nat)} {it : En → (List PyData → Prop) → Prop} {b : PyData → En → Option En} {t : En → (Bool → Prop) → Prop} {F : WF}
theorem wnew_w {K : PySem.W.Frag} {σ : St} {H : Hp} {Q : VK} (hl : ∀ en Qd, F en Qd → F en fun d => (∃ ds, d = .list ds) ∧ Qd d) (h : tW K Ts ρ F σ H Q) : tWNew K Ts ρ F σ H Q := by
  obtain ⟨He, O, en, Qd, rp, hF, kk⟩ := h
  refine ⟨He, O, en, _, rp, hl _ _ hF, fun ds a vs H' ⟨_, hq⟩ r' na ha q x xb => ?_⟩
  have nO : a ∉ O := fun z => (rp.occ a z).1 na
  have hs : Xt (hide H' (a :: O)) (hide H' O) := hide_sub fun b hb => List.mem_cons_of_mem _ hb
  exact kk _ _ H' hq r' (.lst (.inl (.inl (hide_of nO ha))) (DpAll.mono hs q)) ⟨x.trans hs, xb⟩
theorem wlcGo_imp {f : WF} (hf : ∀ en Q Q', (∀ d, Q d → Q' d) → f en Q → f en Q') (ht : ∀ en Q Q', (∀ d, Q d → Q' d) → t en Q → t en Q') : ∀ (ds : List PyData) (en : En) (Q Q' : List PyData → Prop), (∀ o, Q o → Q' o) → wlcGo b t f en ds Q → wlcGo b t f en ds Q'
  | [], _, _, _, hq, h => hq _ h
  | d :: r, en, Q, Q', hq, ⟨e1, h1, h2⟩ => ⟨e1, h1, ht _ _ _ (fun k hk => by
      cases k with
      | false => simp only [Bool.false_eq_true, if_false] at hk ⊢; exact wlcGo_imp hf ht r en Q Q' hq hk
      | true => simp only [if_true] at hk ⊢; exact hf _ _ _ (fun y hy => wlcGo_imp hf ht r en _ _ (fun o ho => hq _ ho) hy) hk) h2⟩
def Mn (F : WF) : Prop := ∀ en Q Q', (∀ d, Q d → Q' d) → F en Q → F en Q'
def MnT (F : En → (Bool → Prop) → Prop) : Prop := ∀ en Q Q', (∀ d, Q d → Q' d) → F en Q → F en Q'
def MnI (F : En → (List PyData → Prop) → Prop) : Prop := ∀ en Q Q', (∀ d, Q d → Q' d) → F en Q → F en Q'
theorem mnt_yes : MnT wYes := fun _ _ _ h q => h _ q
theorem wlc_list {f : WF} {vs : List Nat} (hf : Mn f) (ht : MnT t) (hi : MnI it) : ∀ en Qd, wLc it b t f vs en Qd → wLc it b t f vs en fun d => (∃ ds, d = .list ds) ∧ Qd d := fun en Qd ⟨h0, h⟩ =>
  ⟨h0, hi _ _ _ (fun ds ⟨h1, h2⟩ => ⟨h1, wlcGo_imp hf ht ds _ _ _ (fun o ho => ⟨⟨o, rfl⟩, ho⟩) h2⟩) h⟩
theorem we_lc (hc : X.calm = true) (hN : X.N.Nodup) (hi : WI X Ts ρ tg iter it) (ok : BlkOk X.N X.env.scope scope own) (hρ : ρ ∉ own.map (·.2)) (hbo : BOk ρ b) (hbv : ∀ (d : PyData) (en e1 : En) (j : Nat), j ∉ own.map (·.2) → b d en = some e1 → e1[j]? = en[j]?)
    (hg : ∀ s H C cl fp, DG (BX X scope s H C cl fp) Ts tg (own.map (·.2)) b) (ht : ∀ s H C cl fp, PTs (BX X scope s H C cl fp) ifs (tWT X.K Ts ρ t))
    (he : ∀ s H C cl fp, WE (BX X scope s H C cl fp) Ts ρ elt F) (mf : Mn F) (mt : MnT t) (mi : MnI it) (hs : ∀ x, foldedSetIterable iter X.env x = pure x := by intro _; rfl) : WE X Ts ρ (.ListComp elt [⟨tg, iter, ifs, 0⟩] scope pos) (wLc it b t F (own.map (·.2))) :=
  PE.imp (pe_lc hc hN hi ok (fun s H C cl fp => wg_of (hg s H C cl fp) hbo) (fun s H C cl fp => ht s H C cl fp) (fun s H C cl fp => he s H C cl fp) hs) fun σ H Q h => wlc_w hρ hbo hbv (wnew_w (wlc_list mf mt mi) h)
theorem bName_out {i : Nat} : ∀ (d : PyData) (en e1 : En) (j : Nat), j ∉ [i] → bName i d en = some e1 → e1[j]? = en[j]? := fun d en e1 j hj h => by
  unfold bName at h
  split at h
  · cases h
    rw [List.getElem?_set_ne (fun z => hj (by rw [z]; exact List.mem_cons_self))]
  · cases h
end
section
variable {P : Program} {w : World} {K : PySem.W.Frag} {mg : Str → Option Value} {base : Heap} {Ts : TsT}
def runW (n : Nat) (F : WF) : List PyData → (PyData → Prop) → Prop := fun ds Q => F (Slot.no :: (ds.map Slot.dat ++ List.replicate (n - 1 - ds.length) Slot.no)) Q
theorem start_get {N : List Str} {vs : List V} {i : Nat} {v : V} (h : vs[i]? = some v) : (L2.start N vs)[i]? = some (some v) := by
  have hi : i < vs.length := (List.getElem?_eq_some_iff.mp h).1
  unfold L2.start
  rw [List.getElem?_append_left (by simpa using hi), List.getElem?_map, h]
  rfl
theorem wrep_start {N : List Str} {n : Nat} {vs : List V} {H : Hp} {O : List Addr} {a : Addr} {vs' : List V} {ds rw : List PyData} {ws : List V} (hn : vs.length = n + 1) (hN : vs.length ≤ N.length) (e1 : vs = .ref a :: vs') (e2 : a ∈ O) (e3 : H a = some (.lst ws)) (e4 : DpAll K (hide H O) ws rw) (e6 : DpAll K (hide H O) vs' ds) (e7 : Tb Ts H) (e8 : ∀ b ∈ O, H b ≠ none ∧ ∀ ps, H b ≠ some (.tbl ps)) :
    Rep K Ts (fun b => if b = a then none else H b) O (L2.start N vs) H (Slot.own rw :: (ds.map Slot.dat ++ List.replicate (N.length - 1 - ds.length) Slot.no)) := by
  subst e1
  have hl := DpAll.len e6
  have hlen : (Slot.own rw :: (ds.map Slot.dat ++ List.replicate (N.length - 1 - ds.length) Slot.no)).length = (L2.start N (V.ref a :: vs')).length := by
    simp [L2.start, hl]; simp at hN; omega
  refine ⟨hlen, fun i d h => ?_, fun i es h => ?_, fun i j es es' b h1 h2 h3 h4 => ?_, e8, fun b o e => ?_, e7⟩
  · cases i with
    | zero => cases h
    | succ i =>
      rw [List.getElem?_cons_succ] at h
      by_cases hi : i < ds.length
      · rw [List.getElem?_append_left (by simpa using hi), List.getElem?_map] at h
        obtain ⟨d', h1, h2⟩ := Option.map_eq_some_iff.mp h
        cases h2
        obtain ⟨v, h3, h4⟩ := DpAll.get' e6 h1
        exact ⟨v, start_get (by rw [List.getElem?_cons_succ]; exact h3), h4⟩
      · rw [List.getElem?_append_right (by simpa using hi), List.getElem?_replicate] at h
        split at h <;> cases h
  · cases i with
    | zero =>
      cases h
      exact ⟨a, ws, start_get rfl, e2, if_pos rfl, e3, e4⟩
    | succ i =>
      rw [List.getElem?_cons_succ] at h
      by_cases hi : i < ds.length
      · rw [List.getElem?_append_left (by simpa using hi), List.getElem?_map] at h
        obtain ⟨d', h1, h2⟩ := Option.map_eq_some_iff.mp h
        cases h2
      · rw [List.getElem?_append_right (by simpa using hi), List.getElem?_replicate] at h
        split at h <;> cases h
  · have zero : ∀ {k : Nat} {es : List PyData}, (Slot.own rw :: (ds.map Slot.dat ++ List.replicate (N.length - 1 - ds.length) Slot.no))[k]? = some (Slot.own es) → k = 0 := fun {k es} h => by
      cases k with
      | zero => rfl
      | succ i =>
        rw [List.getElem?_cons_succ] at h
        by_cases hi : i < ds.length
        · rw [List.getElem?_append_left (by simpa using hi), List.getElem?_map] at h
          obtain ⟨d', h1, h2⟩ := Option.map_eq_some_iff.mp h
          cases h2
        · rw [List.getElem?_append_right (by simpa using hi), List.getElem?_replicate] at h
          split at h <;> cases h
    rw [zero h1, zero h2]
  · split at e
    · cases e
    · exact .inl e
theorem DF.okW {x qual : Str} {st : Stmt} {f : Addr} {fd : FuncData} {cdv : Value} {N ps : List Str} {k n : Nat} {F : WF} {e : Expr} {pos : Pos} (D : DF K x qual st f fd cdv) (S : FnScope N ps (defScope st)) (hn : ps.length = n + 1) (hN : n + 1 ≤ N.length) (hb : defBody st = [.Return (some e) pos])
    (hbody : ∀ (A : Around) (outer : List Env) (s : Shared) (H : Hp) (E : XK), Room k (A.deeper (envOfC qual (defScope st) s.heap.objs.size f cdv)) → WE (cxOf CX0 P w K mg base N qual (defScope st) f cdv A outer s H E).nox Ts 0 e F) :
    FnOk P w K mg base CX0 (k + 1) f fd ps (spW K Ts n (runW N.length F)) := by
  obtain ⟨oc, od, dV, kV, doc, pm, an, ct, osl, rfl, lk, hcd⟩ := D.ex
  refine fn_of lk hcd S (fun vs H Q E h => h.1.trans hn.symm) fun A outer s H vs Q E hr hsp => ?_
  rw [hb]
  refine ⟨_, (pss_one (ps_ret (hbody A outer s H E hr))).nox, ?_⟩
  obtain ⟨hl, a, vs', O, ds, rw', ws, Qd, e1, e2, e3, e4, e5, e6, e7, e8, hF, kk⟩ := hsp
  have rp := wrep_start (N := N) hl (by omega) e1 e2 e3 e4 e6 e7 e8
  have hs : (L2.start N vs)[0]? = some (some (V.ref a)) := by rw [e1]; exact start_get rfl
  refine ⟨fun b => if b = a then none else H b, O, _, Qd, ⟨?_, rw', e5, ?_⟩, hF, fun d v H' hd r' q x => ?_⟩
  · simp
  · exact rp
  · obtain ⟨a', rw2, ws2, s1, s2, s3, s4, s5, s6⟩ := r'.at
    rw [hs] at s1
    cases s1
    exact kk d v H' rw2 ws2 hd s6 s4 s5 (x.2 a hs) r'.tabs' q
end
abbrev ZF := En → (En → Prop) → (PyData → En → Prop) → Prop
def tZ (K : PySem.W.Frag) (Ts : TsT) (ρ : Nat) (F : ZF) : TS := fun D σ H => ∃ He O en N R a, Rep K Ts He O σ H en ∧ σ[ρ]? = some (some (V.ref a)) ∧ F en N R ∧
  (∀ en' σ' H', N en' → Rep K Ts He O σ' H' en' → σ'[ρ]? = some (some (V.ref a)) → XtB a H H' → D.nx σ' H') ∧
  (∀ d en' v σ' H', R d en' → Rep K Ts He O σ' H' en' → σ'[ρ]? = some (some (V.ref a)) → XtB a H H' → Dp K (hide H' O) v d → D.rt v H')
abbrev ZS (X : Cx) (Ts : TsT) (ρ : Nat) (st : Stmt) (F : ZF) : Prop := PS X st (tZ X.K Ts ρ F)
abbrev ZSs (X : Cx) (Ts : TsT) (ρ : Nat) (st : List Stmt) (F : ZF) : Prop := PSs X st (tZ X.K Ts ρ F)
def zNil : ZF := fun en N _ => N en
def zSeq (F G : ZF) : ZF := fun en N R => F en (fun e1 => G e1 N R) R
def zSet (i : Nat) (f : En → Option PyData) : ZF := fun en N _ => ∃ d e1, f en = some d ∧ bName i d en = some e1 ∧ N e1
def zRow (ρ c : Nat) (f : En → Option PyData) : ZF := fun en N _ => ∃ d ds, f en = some d ∧ en[ρ]? = some (Slot.own ds) ∧ c < ds.length ∧ N (en.set ρ (.own (ds.set c d)))
def zIf (t : En → Option Bool) (F G : ZF) : ZF := fun en N R => ∃ b, t en = some b ∧ if b = true then F en N R else G en N R
def zRet (f : En → Option PyData) : ZF := fun en _ R => ∃ d, f en = some d ∧ R d en
theorem XtB.refl {a : Addr} (H : Hp) : XtB a H H := .of (Xt.refl H)
theorem DpAll.set {K : PySem.W.Frag} {H : Hp} {v : V} {d : PyData} : ∀ {vs : List V} {ds : List PyData} (c : Nat), DpAll K H vs ds → Dp K H v d → DpAll K H (vs.set c v) (ds.set c d)
  | _, _, _, .nil, _ => .nil
  | _, _, 0, .cons _ b, q => .cons q b
  | _, _, n + 1, .cons a b, q => .cons a (DpAll.set n b q)
theorem Rep.own_set {K : PySem.W.Frag} {Ts : TsT} {He : Hp} {O : List Addr} {σ : St} {H : Hp} {en : En} {i : Nat} {a : Addr} {vs vs' : List V} {ds ds' : List PyData} (rp : Rep K Ts He O σ H en) (hd : en[i]? = some (Slot.own ds)) (p1 : σ[i]? = some (some (V.ref a))) (p2 : a ∈ O) (p3 : He a = none) (p4 : H a = some (.lst vs)) (q : DpAll K (hide H O) vs' ds') :
    Rep K Ts He O σ (upd H a (.lst vs')) (en.set i (.own ds')) := by
  have hi : i < en.length := (List.getElem?_eq_some_iff.mp hd).1
  have hu : Xt (hide H O) (hide (upd H a (.lst vs')) O) := hide_upd p2
  refine ⟨by simp [rp.len], fun j d' h => ?_, fun j es h => ?_, fun j kk es es' aa h1 h2 h3 h4 => ?_, fun b hb => ?_, fun b o e => ?_, rp.tabs.upd fun u z => by rw [p4] at z; cases z; exact lst_noc⟩
  · have hj : i ≠ j := fun z => by subst z; rw [List.getElem?_set_self hi] at h; cases h
    rw [List.getElem?_set_ne hj] at h
    obtain ⟨u, q1, q2⟩ := rp.dat j d' h
    exact ⟨u, q1, Dp.mono hu q2⟩
  · by_cases hj : i = j
    · subst hj
      rw [List.getElem?_set_self hi] at h
      cases h
      exact ⟨a, vs', p1, p2, p3, upd_same, DpAll.mono hu q⟩
    · rw [List.getElem?_set_ne hj] at h
      obtain ⟨a', vs2, q1, q2, q3, q4, q5⟩ := rp.own j es h
      have hne : a' ≠ a := fun z => hj (by subst z; exact rp.inj i j ds es a' hd h p1 q1)
      exact ⟨a', vs2, q1, q2, q3, by rw [upd_ne hne]; exact q4, DpAll.mono hu q5⟩
  · have toOwn : ∀ (j : Nat) (es : List PyData), (en.set i (Slot.own ds'))[j]? = some (Slot.own es) → ∃ es', en[j]? = some (Slot.own es') := fun j es h => by
      by_cases hj : i = j
      · subst hj; exact ⟨ds, hd⟩
      · rw [List.getElem?_set_ne hj] at h; exact ⟨es, h⟩
    obtain ⟨e1, g1⟩ := toOwn j es h1
    obtain ⟨e2, g2⟩ := toOwn kk es' h2
    exact rp.inj j kk e1 e2 aa g1 g2 h3 h4
  · by_cases z : b = a
    · rw [z, upd_same]
      exact ⟨by simp, fun ps z => nomatch z⟩
    · rw [upd_ne z]
      exact rp.occ b hb
  · have hne : b ≠ a := fun z => by rw [z, p3] at e; cases e
    rw [upd_ne hne]
    exact rp.ext b o e
theorem ixN_at {n j : Nat} (hj : j < n) : ixN n (j : Int) = some j := by
  unfold ixN
  rw [if_pos (by omega), if_pos (by omega)]
  simp
section
variable {X : Cx} {Ts : TsT} {ρ : Nat} {pos : Pos} {st : Stmt} {rest : List Stmt} {F G : ZF} {e : Expr} {f g : En → Option PyData}
theorem z_nil : ZSs X Ts ρ [] zNil := PSs.imp pss_nil fun D σ H ⟨He, O, en, N, R, a, rp, hs, hF, k, _⟩ => k en σ H hF rp hs (XtB.refl H)
theorem z_cons (h1 : ZS X Ts ρ st F) (h2 : ZSs X Ts ρ rest G) : ZSs X Ts ρ (st :: rest) (zSeq F G) := PSs.imp (pss_cons h1 h2) fun D σ H ⟨He, O, en, N, R, a, rp, hs, hF, k, l⟩ =>
  ⟨He, O, en, _, R, a, rp, hs, hF, fun e1 σ1 H1 hn r1 s1 x1 => ⟨He, O, e1, N, R, a, r1, s1, hn, fun e2 σ2 H2 hn2 r2 s2 x2 => k e2 σ2 H2 hn2 r2 s2 (x1.trans x2), fun d e2 v σ2 H2 hr r2 s2 x2 q => l d e2 v σ2 H2 hr r2 s2 (x1.trans x2) q⟩, l⟩
theorem z_one (h1 : ZS X Ts ρ st F) : ZSs X Ts ρ [st] F := pss_one h1
theorem z_set {i : Nat} {x : Str} {pos' : Pos} (hN : X.N.Nodup) (hi : X.N[i]? = some x) (hx : Loc X.env.scope x) (hρ : i ≠ ρ) (he : DE X Ts e f) (hs : swapsWith e (some (.Name x pos')) pos.line X.env = pure false := by rfl) (hf : X.fn x = true ∨ X.env.scope.names.lookup x = some .local := by first | exact .inl rfl | exact .inr rfl | assumption) :
    ZS X Ts ρ (.Assign [.Name x pos'] e pos) (zSet i f) := PS.imp (ps_set hN hi hx he hs hf) fun D σ H ⟨He, O, en, N, R, a, rp, hs, ⟨d, e1, h1, h2, hn⟩, k, _⟩ => by
  refine tD.of rp h1 fun v H1 x1 r1 q1 => ?_
  unfold bName at h2
  split at h2
  · rename_i hi'
    cases h2
    exact k _ _ H1 hn (r1.setD hi' q1) (by rw [List.getElem?_set_ne hρ]; exact hs) (.of x1)
  · cases h2
theorem z_row {c : Nat} {x : Str} {px ps pc : Pos} {kc : Nat} (hN : X.N[ρ]? = some x) (hv : Vis X.env.scope x) (he : DE X Ts e f) (hd : (x == ("__debug__" : Str)) = false := by decide) (hcd : (x == ("__classdict__" : Str)) = false := by decide)
    (hs : swapsWithSole [.Subscript (.Name x px) (.Constant (.int (c : Int)) kc pc) ps] e pos.line X.env = pure false := by rfl) (hw : swappedStores [.Subscript (.Name x px) (.Constant (.int (c : Int)) kc pc) ps] e X.env = pure none := by rfl) :
    ZS X Ts ρ (.Assign [.Subscript (.Name x px) (.Constant (.int (c : Int)) kc pc) ps] e pos) (zRow ρ c f) := PS.imp (ps_asg he (pg_sub (pe_var hN hv hd hcd) pe_int set_list) hs hw) fun D σ H ⟨He, O, en, N, R, a, rp, hs, ⟨d, ds, h1, h2, h3, hn⟩, k, _⟩ => by
  refine tD.of rp h1 fun v H1 x1 r1 q1 => ?_
  obtain ⟨a', vs, p1, p2, p3, p4, p5⟩ := r1.own ρ ds h2
  rw [hs] at p1
  cases p1
  have hl : c < vs.length := by rw [DpAll.len p5]; exact h3
  refine ⟨.ref a, hs, a, vs, c, c, rfl, rfl, p4, ixN_at hl, ?_⟩
  exact k _ _ _ hn (r1.own_set h2 hs p2 p3 p4 (DpAll.set c p5 q1)) hs ((XtB.of x1).trans fun b o hb e => .inl (by rw [upd_ne hb]; exact e))
theorem z_if {c : Expr} {a b : List Stmt} {t : En → Option Bool} (hc : DT X Ts c t) (ha : ZSs X Ts ρ a F) (hb : ZSs X Ts ρ b G) : ZS X Ts ρ (.If c a b pos) (zIf t F G) := PS.imp (ps_if hc ha hb) fun D σ H ⟨He, O, en, N, R, a, rp, hs, ⟨b, h1, h2⟩, k, l⟩ => by
  refine tT.of rp h1 fun H1 x1 r1 => ?_
  cases b with
  | true => exact iteT ⟨He, O, en, N, R, a, r1, hs, h2, fun e2 σ2 H2 hn2 r2 s2 x2 => k e2 σ2 H2 hn2 r2 s2 ((XtB.of x1).trans x2), fun d e2 v σ2 H2 hr r2 s2 x2 q => l d e2 v σ2 H2 hr r2 s2 ((XtB.of x1).trans x2) q⟩
  | false => exact iteF ⟨He, O, en, N, R, a, r1, hs, h2, fun e2 σ2 H2 hn2 r2 s2 x2 => k e2 σ2 H2 hn2 r2 s2 ((XtB.of x1).trans x2), fun d e2 v σ2 H2 hr r2 s2 x2 q => l d e2 v σ2 H2 hr r2 s2 ((XtB.of x1).trans x2) q⟩
theorem z_ret (he : DE X Ts e f) : ZS X Ts ρ (.Return (some e) pos) (zRet f) := PS.imp (ps_ret he) fun D σ H ⟨He, O, en, N, R, a, rp, hs, ⟨d, h1, hr⟩, k, l⟩ =>
  tD.of rp h1 fun v H1 x1 r1 q1 => l d en v σ H1 hr r1 hs (.of x1) q1
def cPow (i j : Int) : Bool := decide (0 ≤ j ∧ j ≤ 1000000 ∧ i.natAbs < 2 ^ 64)
def fPow := f2 (gIc cPow fun i j => .int (i ^ j.toNat))
theorem d_pow {a b : Expr} (ha : DE X Ts a f) (hb : DE X Ts b g) : DE X Ts (.BinOp a .Pow b pos) (fPow f g) := d_i (fun i j h => show CPow i j from @of_decide_eq_true (0 ≤ j ∧ j ≤ 1000000 ∧ i.natAbs < 2 ^ 64) _ h) (fun _ _ _ _ => .int _) (pe_op op_pow ha hb)
end
section
variable {P : Program} {w : World} {K : PySem.W.Frag} {mg : Str → Option Value} {base : Heap} {Ts : TsT}
def runZ (n : Nat) (F : ZF) : List PyData → (PyData → Prop) → Prop := fun ds Q => ∀ rw, RowOk rw → F (Slot.own rw :: (ds.map Slot.dat ++ List.replicate (n - 1 - ds.length) Slot.no)) (fun _ => False) fun d en' => (∃ rw', RowOk rw' ∧ en'[0]? = some (Slot.own rw')) ∧ Q d
theorem DF.okZ {x qual : Str} {st : Stmt} {f : Addr} {fd : FuncData} {cdv : Value} {N ps : List Str} {k n : Nat} {F : ZF} (D : DF K x qual st f fd cdv) (S : FnScope N ps (defScope st)) (hn : ps.length = n + 1) (hN : n + 1 ≤ N.length)
    (hbody : ∀ (A : Around) (outer : List Env) (s : Shared) (H : Hp) (E : XK), Room k (A.deeper (envOfC qual (defScope st) s.heap.objs.size f cdv)) → ZSs (cxOf CX0 P w K mg base N qual (defScope st) f cdv A outer s H E).nox Ts 0 (defBody st) F) :
    FnOk P w K mg base CX0 (k + 1) f fd ps (spW K Ts n (runZ N.length F)) := by
  obtain ⟨oc, od, dV, kV, doc, pm, an, ct, osl, rfl, lk, hcd⟩ := D.ex
  refine fn_of lk hcd S (fun vs H Q E h => h.1.trans hn.symm) fun A outer s H vs Q E hr hsp => ?_
  refine ⟨_, (hbody A outer s H E hr).nox, ?_⟩
  obtain ⟨hl, a, vs', O, ds, rw', ws, Qd, e1, e2, e3, e4, e5, e6, e7, e8, hF, kk⟩ := hsp
  have rp := wrep_start (N := N) hl (by omega) e1 e2 e3 e4 e6 e7 e8
  have hs : (L2.start N vs)[0]? = some (some (V.ref a)) := by rw [e1]; exact start_get rfl
  refine ⟨fun b => if b = a then none else H b, O, _, _, _, a, rp, hs, hF rw' e5, fun _ _ _ h => h.elim, fun d en' v σ' H' ⟨⟨rw2, h1, h2⟩, h3⟩ r' s' x' q => ?_⟩
  obtain ⟨a', ws2, s1, s2, s3, s4, s5⟩ := r'.own 0 rw2 h2
  rw [s'] at s1
  cases s1
  exact kk d v H' rw2 ws2 h3 h1 s4 s5 x' r'.tabs q
end
abbrev rw_ (k : Int) : En → Option PyData := fIx (fOwn 0) (fLit (.int k))
abbrev li (k : Int) : En → Option PyData := fLit (.int k)
def F_taken : ZF := zSeq (zIf (fT (fGt (rw_ 3) (li 0))) (zSeq (zSet 2 (fMod (fInt (rw_ 3)) (fVar 1))) (zSeq (zRow 0 3 (fDiv (rw_ 3) (fVar 1))) (zRet (fVar 2)))) zNil)
  (zSeq (zRow 0 1 (fPlus (rw_ 1) (li 1)))
  (zSeq (zIf (fT (fGt (rw_ 1) (fLen (rw_ 0)))) (zSeq (zRow 0 2 (fMod (fInt (fPlus (fMul (rw_ 2) (li 48271)) (li 11))) (li 2147483647))) (zRet (fMod (fInt (fDiv (rw_ 2) (li 7))) (fVar 1)))) zNil)
  (zSeq (zSet 3 (fIx (rw_ 0) (fSub (rw_ 1) (li 1))))
  (zSeq (zRow 0 2 (fMod (fInt (fPlus (fPlus (fMul (rw_ 2) (li 48271)) (fVar 3)) (li 11))) (li 2147483647)))
  (zSeq (zIf (fT (fGe (fVar 3) (fPow (li 10) (li 18)))) (zRow 0 3 (fDiv (fVar 3) (fVar 1))) zNil)
  (zRet (fMod (fInt (fVar 3)) (fVar 1))))))))
def cTaken : List PyData → (PyData → Prop) → Prop := fun ds Q => ∃ m : Int, ds = [.int m] ∧ 0 < m ∧ m ≤ 1000000 ∧ ∀ r, 0 ≤ r → r < m → Q (.int r)
theorem rowOk {ns : List Int} {i m c : Int} (h1 : ns.length ≤ 63) (h2 : 0 ≤ i) (h3 : 0 ≤ m) (h4 : m < 2147483647) (h5 : 0 ≤ c) : RowOk [.list (ns.map .int), .int i, .int m, .int c] := ⟨ns, i, m, c, rfl, h1, h2, h3, h4, h5⟩
theorem modA {f g : En → Option PyData} {en : En} {a b : Int} (h1 : f en = some (.int a)) (h2 : g en = some (.int b)) (hb : 0 < b) : fMod f g en = some (.int (a % b)) := by
  unfold fMod f2
  rw [h1, h2]
  show (if cMod a b = true then _ else _) = _
  rw [if_pos (by unfold cMod; exact decide_eq_true (by omega))]
  show some (PyData.int (a.fmod b)) = _
  rw [Int.fmod_eq_emod_of_nonneg _ (by omega)]
theorem divA {f g : En → Option PyData} {en : En} {a b : Int} (h1 : f en = some (.int a)) (h2 : g en = some (.int b)) (hb : 0 < b) (hl : b.natAbs.log2 < 9000) : fDiv f g en = some (.int (a / b)) := by
  unfold fDiv f2
  rw [h1, h2]
  show (if cDiv a b = true then _ else _) = _
  rw [if_pos (by unfold cDiv; exact decide_eq_true ⟨hb, hl⟩)]
theorem mulA {f g : En → Option PyData} {en : En} {a b : Int} (h1 : f en = some (.int a)) (h2 : g en = some (.int b)) (hl : a.natAbs.log2 + b.natAbs.log2 < 1000000) : fMul f g en = some (.int (a * b)) := by
  unfold fMul f2
  rw [h1, h2]
  show (if cMul a b = true then _ else _) = _
  rw [if_pos (by unfold cMul; exact decide_eq_true hl)]
theorem intA {f : En → Option PyData} {en : En} {a : Int} (h1 : f en = some (.int a)) : fInt f en = some (.int a) := by
  unfold fInt f1
  rw [h1]
  rfl
theorem plusA {f g : En → Option PyData} {en : En} {a b : Int} (h1 : f en = some (.int a)) (h2 : g en = some (.int b)) : fPlus f g en = some (.int (a + b)) := by
  unfold fPlus f2
  rw [h1, h2]
  rfl
theorem subA {f g : En → Option PyData} {en : En} {a b : Int} (h1 : f en = some (.int a)) (h2 : g en = some (.int b)) : fSub f g en = some (.int (a - b)) := by
  unfold fSub f2
  rw [h1, h2]
  rfl
theorem log2_le {a : Int} {k : Nat} (h : a.natAbs < 2 ^ k) (hk : 0 < k) : a.natAbs.log2 < k := by
  by_cases h0 : a.natAbs = 0
  · rw [h0]; simpa using hk
  · exact (Nat.log2_lt h0).mpr h
theorem taken_ok : ∀ ds Q, cTaken ds Q → runZ 4 F_taken ds Q := by
  rintro ds Q ⟨m, rfl, h0, h1, hq⟩ rw ⟨ns, i, mm, c, rfl, hn, hi, hm0, hm1, hc⟩
  have lm : m.natAbs.log2 < 9000 := Nat.lt_of_lt_of_le (log2_le (k := 20) (by omega) (by decide)) (by decide)
  refine ⟨decide (0 < c), rfl, ?_⟩
  by_cases hcp : 0 < c
  · rw [if_pos (by simpa using hcp)]
    refine ⟨_, _, modA (intA (a := c) rfl) (b := m) rfl h0, rfl, ?_⟩
    refine ⟨_, _, divA (a := c) rfl (b := m) rfl h0 lm, rfl, by simp, ?_⟩
    exact ⟨_, rfl, ⟨_, rowOk hn hi hm0 hm1 (Int.ediv_nonneg hc (by omega)), rfl⟩, hq _ (Int.emod_nonneg _ (by omega)) (Int.emod_lt_of_pos _ h0)⟩
  · rw [if_neg (by simpa using hcp)]
    refine ⟨_, _, rfl, rfl, by simp, ?_⟩
    refine ⟨decide ((ns.map PyData.int).length < i + 1), rfl, ?_⟩
    have lmm : mm.natAbs.log2 + (48271 : Int).natAbs.log2 < 1000000 := by
      have := log2_le (a := mm) (k := 31) (by omega) (by decide)
      have h2 : (48271 : Int).natAbs.log2 = 15 := by decide
      omega
    by_cases hl : ((ns.map PyData.int).length : Int) < i + 1
    · rw [if_pos (by simpa using hl)]
      refine ⟨_, _, modA (intA (plusA (mulA (a := mm) rfl (b := 48271) rfl lmm) (b := 11) rfl)) (b := 2147483647) rfl (by decide), rfl, by simp, ?_⟩
      refine ⟨_, modA (intA (divA rfl (b := 7) rfl (by decide) (by decide))) (b := m) rfl h0, ⟨_, rowOk hn (i := i + 1) (by omega) (Int.emod_nonneg _ (by decide)) (Int.emod_lt_of_pos _ (by decide)) hc, rfl⟩, hq _ (Int.emod_nonneg _ (by omega)) (Int.emod_lt_of_pos _ h0)⟩
    · rw [if_neg (by simpa using hl)]
      rw [List.length_map] at hl
      have hi2 : i.toNat < ns.length := by omega
      have hcell : fIx (rw_ 0) (fSub (rw_ 1) (li 1)) [Slot.own [.list (ns.map .int), .int (i + 1), .int mm, .int c], Slot.dat (.int m), Slot.no, Slot.no] = some (.int ns[i.toNat]) := by
        show ((fIx (rw_ 0) (fSub (rw_ 1) (li 1))) _) = _
        unfold fIx f2
        rw [subA (a := i + 1) (f := rw_ 1) rfl (b := 1) rfl]
        show (some (PyData.list (ns.map .int))).bind _ = _
        show atI (ns.map PyData.int) (i + 1 - 1) = _
        have e1 : i + 1 - 1 = (i.toNat : Int) := by omega
        rw [e1]
        unfold atI
        rw [ixN_at (by rw [List.length_map]; exact hi2)]
        show (ns.map PyData.int)[i.toNat]? = _
        rw [List.getElem?_map, List.getElem?_eq_getElem hi2]
        rfl
      refine ⟨_, _, hcell, rfl, ?_⟩
      refine ⟨_, _, modA (intA (plusA (plusA (mulA (a := mm) rfl (b := 48271) rfl lmm) (b := ns[i.toNat]) rfl) (b := 11) rfl)) (b := 2147483647) rfl (by decide), rfl, by simp, ?_⟩
      refine ⟨decide ((10 : Int) ^ 18 ≤ ns[i.toNat]), rfl, ?_⟩
      have hm2 : 0 ≤ (mm * 48271 + ns[i.toNat] + 11) % 2147483647 := Int.emod_nonneg _ (by decide)
      have hm3 : (mm * 48271 + ns[i.toNat] + 11) % 2147483647 < 2147483647 := Int.emod_lt_of_pos _ (by decide)
      by_cases hg : (10 : Int) ^ 18 ≤ ns[i.toNat]
      · rw [if_pos (by simpa using hg)]
        refine ⟨_, _, divA (a := ns[i.toNat]) rfl (b := m) rfl h0 lm, rfl, by simp, ?_⟩
        refine ⟨_, modA (intA (a := ns[i.toNat]) rfl) (b := m) rfl h0, ⟨_, rowOk hn (i := i + 1) (by omega) hm2 hm3 (Int.ediv_nonneg (by omega) (by omega)), rfl⟩, hq _ (Int.emod_nonneg _ (by omega)) (Int.emod_lt_of_pos _ h0)⟩
      · rw [if_neg (by simpa using hg)]
        refine ⟨_, modA (intA (a := ns[i.toNat]) rfl) (b := m) rfl h0, ⟨_, rowOk hn (i := i + 1) (by omega) hm2 hm3 hc, rfl⟩, hq _ (Int.emod_nonneg _ (by omega)) (Int.emod_lt_of_pos _ h0)⟩
section
variable {X : Cx} {Ts : TsT} {ρ : Nat} {pos : Pos} {e e2 : Expr} {F G : WF}
theorem op2_ix : Op2 X.K Ts (rIx X.K) gIx := fun x y v w d H O Q hg q1 q2 ht occ kk => by
  unfold gIx at hg
  cases q2 <;> try cases hg
  rename_i i
  obtain ⟨ds, h4, h5⟩ := Option.bind_eq_some_iff.mp hg
  cases x <;> simp only [items] at h4 <;> cases h4
  · cases q1 with
    | lst s a =>
      obtain ⟨u, h6, h7⟩ := atI_dp a h5
      exact .inl ⟨_, _, i, u, rfl, rfl, sqL_mono (fun o n e => (hide_some e).2) s, h6, kk u H (Xt.refl H) ht h7⟩
  · cases q1 with
    | tup s a =>
      obtain ⟨u, h6, h7⟩ := atI_dp a h5
      exact .inr (.inl ⟨_, _, i, u, rfl, rfl, sqT_mono (fun o n e => (hide_some e).2) s, h6, kk u H (Xt.refl H) ht h7⟩)
theorem we_ix (ha : WE X Ts ρ e F) (hb : WE X Ts ρ e2 G) (hs : PlainIx e2 := by exact fun _ _ => rfl) : WE X Ts ρ (.Subscript e e2 pos) (w2 gIx F G) := PE.imp (pe_ix ix_seq ha hb hs) (ww_2 op2_ix)
end
def F_pick (c : List PyData → (PyData → Prop) → Prop) : WF := w2 gIx (wP 0 (fVar 1)) (wDraw 1 c (wCons (wP 0 (fLen (fVar 1))) wNil))
def cPick : List PyData → (PyData → Prop) → Prop := fun ds Q => ∃ es, ds = [.list es] ∧ 0 < es.length ∧ es.length ≤ 64 ∧ ∀ d ∈ es, Q d
theorem pick_ok : ∀ ds Q, cPick ds Q → runW 2 (F_pick cTaken) ds Q := by
  rintro ds Q ⟨es, rfl, h0, h1, hq⟩
  refine ⟨.list es, fun rw => rfl, ?_⟩
  refine ⟨.int es.length, fun rw => rfl, rfl, (es.length : Int), rfl, by omega, by omega, fun r hr0 hr1 => ?_⟩
  obtain ⟨k, rfl⟩ : ∃ k : Nat, r = (k : Int) := ⟨r.toNat, by omega⟩
  have hi : k < es.length := by omega
  refine ⟨es[k], ?_, hq _ (List.getElem_mem hi)⟩
  show atI es k = _
  unfold atI
  rw [ixN_at hi]
  exact List.getElem?_eq_getElem hi
def Flows (ns : List Int) : Prop := ∀ n ∈ ns, 0 ≤ n ∧ n ≤ 1000
theorem tup_once (l : Addr) (items : Array Value) (n : Nat) (dd : Option Addr) (sl : Array (Option Value)) (x : Int) (u : Tok) (c0 : (decide (x < -(2 ^ 63)) || decide (x ≥ 2 ^ 63)) = false) (c1 : (items.isEmpty || x == 1) = true) :
    Meets (Builtin.«tuple.__mul__» ⟨[.ref l, .int x u], []⟩) (fun _ R s => s.heap.get? l = some { cls := .type "tuple", dict := dd, data := .seq items n, slots := sl } ∧ R (.ok (.ret (Value.ref l))) s) :=
  .of_wp fun prog w A R s h => by
    obtain ⟨hp, g, d, tk, os⟩ := s
    obtain ⟨hl, h⟩ := h
    have f1 := AutoSeq1.idx_int
    wp_walk using wpAny_loadPart' hl
    repeat (first
      | (refine wpAny_ite_false (decide_eq_false (by rw [c0]; exact Bool.false_ne_true)) ?_; wp_walk using wpAny_loadPart' hl)
      | (refine wpAny_ite_true (decide_eq_true (by rw [c1])) ?_; wp_walk using wpAny_loadPart' hl))
    all_goals first | exact ⟨_, rfl, h⟩ | trace_state
def rRepO (K : PySem.W.Frag) : R2 := fun x y H Q => ∃ l xs, x = .ref l ∧ y = .int 1 ∧ SqT K H l xs ∧ Q (.ref l) H
section
variable {X : Cx}
theorem op_repO : OpR X (binaryOp .Mult) (rRepO X.K) := by
  intro pins s σ H x y v u Q I rx ry h
  obtain ⟨l, xs, rfl, rfl, hT, q⟩ := h
  cases rx
  obtain ⟨t, rfl⟩ := ry
  obtain ⟨its, r, ⟨⟨cls, dd, data, sl⟩, ho, hc, n, hd⟩, hs⟩ := I.tuple hT
  simp only at hc hd
  subst hc hd
  refine wpAny_binaryOp_repeat_ref (T := "tuple") (U := "int") (by decide) ⟨_, ho, rfl⟩ (fun s' => typeIs_int s' 1 t) noFill_tuple_mul F.fills_int_mul F.slot_int_rmul repeat_tuple F.slot_int_index.lookup
    (call_meets F.slot_int_rmul (typeIs_int s 1 t) F.entry_int_rmul (F.args_int_rmul_2 _ _) (int_rmul_tuple 1 t l its.toArray n dd sl)
      ⟨ho, rfl, ⟨_, ho, rfl⟩, call_meets F.slot_tuple_mul ⟨_, ho, rfl⟩ F.entry_tuple_mul (F.args_tuple_mul_2 _ _) (tup_once l its.toArray n dd sl 1 t (by decide) (by simp)) ⟨ho, ?_⟩⟩)
  exact ⟨.ref l, H, I, rfl, q⟩
end
def gRep : PyData → PyData → Option PyData
  | .tuple ds, .int k => if ds ≠ [] ∧ 1 ≤ k ∧ k ≤ 1000 ∧ ds.length ≤ 1000 then some (.tuple (List.replicate k.toNat ds).flatten) else none
  | _, _ => none
theorem DpAll.rep {K : PySem.W.Frag} {H : Hp} {vs : List V} {ds : List PyData} (h : DpAll K H vs ds) : ∀ n : Nat, DpAll K H (List.replicate n vs).flatten (List.replicate n ds).flatten
  | 0 => .nil
  | n + 1 => DpAll.app h (DpAll.rep h n)
section
variable {X : Cx} {Ts : TsT} {pos p : Pos} {a b e : Expr} {fa fb : En → Option PyData}
def gTimes : PyData → PyData → Option PyData
  | .int i, .int j => if cMul i j = true then some (.int (i * j)) else none
  | .tuple ds, .int k => gRep (.tuple ds) (.int k)
  | _, _ => none
def fTimes := f2 gTimes
theorem d_times (ha : DE X Ts a fa) (hb : DE X Ts b fb) : DE X Ts (.BinOp a .Mult b pos) (fTimes fa fb) :=
  PE.imp (pe_op (op_mulW.or (op_repT.or op_repO)) ha hb) (w_2 fun x y v w d H O Q hg q1 q2 ht occ kk => by
    cases x <;> cases y <;> simp only [gTimes, gRep] at hg <;> try cases hg
    · rename_i i j
      split at hg
      · rename_i hc
        cases hg
        cases q1
        cases q2
        exact .inl ⟨_, _, rfl, rfl, show CMulW i j from @of_decide_eq_true (i.natAbs.log2 + j.natAbs.log2 < 1000000) _ hc, kk _ H (Xt.refl H) ht (.int _)⟩
      · cases hg
    · rename_i ds k
      split at hg
      · rename_i hc
        obtain ⟨c1, c2, c3, c4⟩ := hc
        cases hg
        cases q2
        cases q1 with
        | tup s q =>
          have hl := DpAll.len q
          by_cases hk : k = 1
          · subst hk
            refine .inr (.inr ⟨_, _, rfl, rfl, sqT_mono (fun o n e => (hide_some e).2) s, kk _ H (Xt.refl H) ht ?_⟩)
            have e1 : (List.replicate (1 : Int).toNat ds).flatten = ds := by simp
            rw [e1]
            exact .tup s q
          · refine .inr (.inl ⟨_, _, _, rfl, rfl, sqT_mono (fun o n e => (hide_some e).2) s, fun z => c1 (by subst z; cases q; rfl), by omega, c3, by omega, fun p np => kk _ _ (Xt.upd np) (ht.new np) (tup_new np (fun z => occ p z np) (DpAll.rep q _))⟩)
      · cases hg)
def gNotB : PyData → PyData → Option PyData
  | .bool a, .bool b => some (.bool (!decide (a = b)))
  | _, _ => none
def fNotB := f2 gNotB
theorem w_notB {K : PySem.W.Frag} : ∀ σ H Q, tD K Ts (fNotB fa fb) σ H Q → tOp rNotB (tD K Ts fa) (tD K Ts fb) σ H Q :=
  w_2 fun x y v w d H O Q hg q1 q2 ht _ kk => by
    cases x <;> cases y <;> simp only [gNotB] at hg <;> try cases hg
    cases q1
    cases q2
    exact ⟨_, _, rfl, rfl, kk _ H (Xt.refl H) ht (.bl _)⟩
theorem dt_notB (ha : DE X Ts a fa) (hb : DE X Ts b fb) : DT X Ts (.Compare a [.IsNot] [b] pos) (fT (fNotB fa fb)) := dt_of (pt_cmpR op_notBl ha hb (nomark _)) w_notB
theorem bName_set {i : Nat} {d : PyData} {en e1 : En} (h : bName i d en = some e1) : i < en.length ∧ e1 = en.set i (.dat d) := by
  unfold bName at h
  split at h
  · cases h; exact ⟨by assumption, rfl⟩
  · cases h
end
abbrev LF := En → (Fl → Prop) → Prop
def lNil : LF := fun en Q => Q (.nx en)
def lSeq (F G : LF) : LF := fun en Q => F en fun r => match r with
  | .nx e => G e Q
  | r => Q r
def lSet (i : Nat) (F : WF) : LF := fun en Q => F en fun d => ∃ e1, bName i d en = some e1 ∧ Q (.nx e1)
def lIf (t : En → (Bool → Prop) → Prop) (F G : LF) : LF := fun en Q => t en fun b => if b = true then F en Q else G en Q
def lEnd (ρ : Nat) (G : En → Option Fl) : LF := fun en Q => ∀ rw, RowOk rw → ∃ b, G (en.set ρ (.own rw)) = some (.rt (.bool b)) ∧ Q (.rt (.bool b))
section
variable {X : Cx} {Ts : TsT} {ρ : Nat} {pos : Pos} {st : Stmt} {rest : List Stmt} {F G : LF} {e a b : Expr} {f g : WF}
theorem WRep.setD {K : PySem.W.Frag} {He : Hp} {O : List Addr} {σ : St} {H : Hp} {en e1 : En} {i : Nat} {v : V} {d : PyData} (r : WRep K Ts ρ He O σ H en) (hi : i ≠ ρ) (hb : bName i d en = some e1) (q : Dp K (hide H O) v d) : WRep K Ts ρ He O (σ.set i (some v)) H e1 := by
  obtain ⟨b1, rfl⟩ := bName_set hb
  obtain ⟨hl, rw, hr, rp⟩ := r
  refine ⟨by simpa using hl, rw, hr, ?_⟩
  rw [List.set_comm _ _ hi]
  exact rp.setD (by simpa using b1) q
def lBind (b : PyData → En → Option En) (F : WF) : LF := fun en Q => F en fun d => ∃ e1, b d en = some e1 ∧ Q (.nx e1)
end
section
variable {P : Program} {w : World} {K : PySem.W.Frag} {mg : Str → Option Value} {base : Heap} {Ts : TsT}
def spLaw (K : PySem.W.Frag) (Ts : TsT) : Sp := fun vs H Q _ => ∃ (a : Addr) (ns : List Int), vs = [.ref a] ∧ SqL K H a (ns.map V.int) ∧ ns.length ≤ 63 ∧ Tb Ts H ∧ ∀ H', Q (.bl true) H'
def lawEn (n : Nat) (ns : List Int) : En := Slot.dat (.list (ns.map .int)) :: List.replicate (n - 1) Slot.no
end
def SqB (K : PySem.W.Frag) (b : Bool) (H : Hp) (a : Addr) (xs : List V) : Prop := match b with | true => SqL K H a xs | false => SqT K H a xs
def ItB (b : Bool) (h : Heap) (i a : Addr) (k : Nat) : Prop := match b with | true => h.IsListIter i a k | false => h.IsTupleIter i a k
def IsB (b : Bool) (h : Heap) (a : Addr) (its : Array Value) : Prop := match b with | true => h.IsList a its | false => h.IsTuple a its
def obB (b : Bool) (a : Addr) : Obj := match b with | true => { cls := .type "list_iterator", data := .fields #[.ref a, .int 0 0] } | false => { cls := .type "tuple_iterator", data := .fields #[.ref a, .int 0 0] }
theorem ItB.at {b : Bool} {h h' : Heap} {i a : Addr} {k : Nat} (x : ItB b h i a k) (hk : ∀ o, h.get? i = some o → h'.get? i = some o) : ItB b h' i a k := by
  cases b with
  | true => exact Heap.IsListIter.at (h := h) x hk
  | false => exact Heap.IsTupleIter.at (h := h) x hk
theorem ItB.obj {b : Bool} {h : Heap} {i a : Addr} {k : Nat} (x : ItB b h i a k) : ∃ o, h.get? i = some o ∧ ∀ v, o.data ≠ .cell v := by
  cases b with
  | true => obtain ⟨o, e, _, d⟩ := x; exact ⟨o, e, fun v q => by rw [d] at q; cases q⟩
  | false => obtain ⟨o, e, _, d⟩ := x; exact ⟨o, e, fun v q => by rw [d] at q; cases q⟩
theorem drB {prog : Program} {w : World} {A : Around} (hh : A.handled = none) (b : Bool) (it a : Addr) (hne : a ≠ it) (items : Array Value) :
    Draws prog w A it [it, a] items.size (fun i v => items[i]? = some v) (fun i h => ItB b h it a i ∧ IsB b h a items) := by
  cases b with
  | true => exact Draws.list hh it a hne items
  | false => exact Draws.tuple hh it a hne items
theorem SqB.inv {X : Cx} {pins : List (Addr × Obj)} {σ : L2.St} {H : Hp} {s : Shared} (I : Inv X pins σ H s) {b : Bool} {a : Addr} {xs : List V} (q : SqB X.K b H a xs) : ∃ its, Vals xs its ∧ IsB b s.heap a its.toArray ∧ a < s.heap.objs.size := by
  cases b with
  | true =>
    obtain ⟨its, rv, p, _⟩ := I.list q
    exact ⟨its, rv, p.isList, p.lt⟩
  | false =>
    obtain ⟨its, rv, p, _⟩ := I.tuple q
    obtain ⟨o, ho, _⟩ := id p
    exact ⟨its, rv, p, Heap.lt_size ho⟩
theorem SqB.inj {X : Cx} {pins : List (Addr × Obj)} {σ : L2.St} {H : Hp} {s : Shared} (I : Inv X pins σ H s) {b : Bool} {a : Addr} {xs ys : List V} (q : SqB X.K b H a xs) (r : SqB X.K b H a ys) : xs = ys := by
  cases b with
  | true => exact I.list_inj q r
  | false => exact I.tuple_inj q r
theorem SqB.mono {K : PySem.W.Frag} {b : Bool} {H H' : Hp} {a : Addr} {xs : List V} (h : ∀ o, (∀ ps, o ≠ .tbl ps) → H a = some o → H' a = some o) (q : SqB K b H a xs) : SqB K b H' a xs := by
  cases b with
  | true => exact sqL_mono (fun o n e => h o n e) q
  | false => exact sqT_mono (fun o n e => h o n e) q
theorem begB (b : Bool) (a : Addr) (items : Array Value) : Begins (.ref a) (obB b a) fun h => IsB b h a items := by
  cases b with
  | true => exact begins_list a items
  | false => exact begins_tuple a items
theorem ItB.start {b : Bool} {h : Heap} {i a : Addr} (e : h.get? i = some (obB b a)) : ItB b h i a 0 := by
  cases b with
  | true => exact ⟨_, e, rfl, rfl⟩
  | false => exact ⟨_, e, rfl, rfl⟩
def Itz3 (K : PySem.W.Frag) (b1 b2 b3 : Bool) (a1 a2 a3 : Addr) : It :=
  ⟨fun i H => ∃ (xs ys zs : List V) (x y z : V), SqB K b1 H a1 xs ∧ SqB K b2 H a2 ys ∧ SqB K b3 H a3 zs ∧ xs[i]? = some x ∧ ys[i]? = some y ∧ zs[i]? = some z,
    fun i H v H' => ∃ T x y z, v = .ref T ∧ H T = none ∧ H' = upd H T (.tup [x, y, z]) ∧ (∀ xs, SqB K b1 H a1 xs → xs[i]? = some x) ∧ (∀ ys, SqB K b2 H a2 ys → ys[i]? = some y) ∧ ∀ zs, SqB K b3 H a3 zs → zs[i]? = some z,
    fun i H => ∃ xs ys zs : List V, SqB K b1 H a1 xs ∧ SqB K b2 H a2 ys ∧ SqB K b3 H a3 zs ∧ i ≤ xs.length ∧ i ≤ ys.length ∧ i ≤ zs.length ∧ (i = xs.length ∨ i = ys.length ∨ i = zs.length)⟩
theorem turn_zip3 {P : Program} {w : World} {K : PySem.W.Frag} {elts : List Expr} {kk : Nat} {tpos : Pos} {b1 b2 b3 : Bool} {a1 a2 a3 z TI TO i1 i2 i3 : Addr} (S : ZipSep3 z TI TO i1 i2 i3 [i1, a1] [i2, a2] [i3, a3]) (n1 : a1 ≠ i1) (n2 : a2 ≠ i2) (n3 : a3 ≠ i3) :
    Turn P w K (.Tuple elts kk tpos) (Itz3 K b1 b2 b3 a1 a2 a3) [z, TI, TO, i1, i2, i3] z (fun i h => IsZip h z TI TO .none ∧ IsTupOf3 h TI (.ref i1) (.ref i2) (.ref i3) ∧ (∃ x y u, IsTupOf3 h TO x y u) ∧ ItB b1 h i1 a1 i ∧ ItB b2 h i2 a2 i ∧ ItB b3 h i3 a3 i) where
  mem := by simp
  obj := fun i h st c hc => by
    obtain ⟨hz, hTI, ⟨x, y, u, hTO⟩, e1, e2, e3⟩ := st
    have e' : c = z ∨ c = TI ∨ c = TO ∨ c = i1 ∨ c = i2 ∨ c = i3 := by simpa using hc
    rcases e' with q | q | q | q | q | q
    · rw [q]; exact ⟨_, hz, fun v q => nomatch q⟩
    · rw [q]; exact ⟨_, hTI, fun v q => nomatch q⟩
    · rw [q]; exact ⟨_, hTO, fun v q => nomatch q⟩
    · rw [q]; exact e1.obj
    · rw [q]; exact e2.obj
    · rw [q]; exact e3.obj
  keep := fun i h h' st k => by
    obtain ⟨hz, hTI, ⟨x, y, u, hTO⟩, h1, h2, h3⟩ := st
    exact ⟨k z (by simp) _ hz, k TI (by simp) _ hTI, ⟨x, y, u, k TO (by simp) _ hTO⟩, h1.at fun o q => k i1 (by simp) o q, h2.at fun o q => k i2 (by simp) o q, h3.at fun o q => k i3 (by simp) o q⟩
  item := by
    intro X hP hw hK hc i pins s σ H E I hf st hg
    subst hP hw hK
    obtain ⟨hz, hTI, ⟨x0, y0, u0, hTO⟩, h1, h2, h3⟩ := st
    obtain ⟨xs, ys, zs, x, y, v, hqx, hqy, hqz, hx, hy, hv⟩ := hg
    obtain ⟨its, rv, p, _⟩ := hqx.inv I
    obtain ⟨its2, rv2, p2, _⟩ := hqy.inv I
    obtain ⟨its3, rv3, p3, _⟩ := hqz.inv I
    obtain ⟨u, hu, ru⟩ := rv.get hx
    obtain ⟨u2, hu2, ru2⟩ := rv2.get hy
    obtain ⟨u3, hu3, ru3⟩ := rv3.get hv
    have hzl : z < s.heap.objs.size := Heap.lt_size hz
    have hh : X.A.in1.handled = none := I.ok.hd hc
    have D1 := drB (prog := X.prog) (w := X.w) hh b1 i1 a1 n1 its.toArray
    have D2 := drB (prog := X.prog) (w := X.w) hh b2 i2 a2 n2 its2.toArray
    have D3 := drB (prog := X.prog) (w := X.w) hh b3 i3 a3 n3 its3.toArray
    have l1 : i < its.length := (List.getElem?_eq_some_iff.mp hu).1
    have l2 : i < its2.length := (List.getElem?_eq_some_iff.mp hu2).1
    have l3 : i < its3.length := (List.getElem?_eq_some_iff.mp hu3).1
    refine wpAny_pyNext_zipD3_item S D1 D2 D3 hz hTI hTO ⟨h1, p⟩ ⟨h2, p2⟩ ⟨h3, p3⟩ (by simpa using l1) (by simpa using l2) (by simpa using l3) fun x1 x2 x3 h' tk y1 y2 y3 z' TO' d1 d2 d3 hT hsz hk => ?_
    have y1 : its[i]? = some x1 := by simpa using y1
    have y2 : its2[i]? = some x2 := by simpa using y2
    have y3 : its3[i]? = some x3 := by simpa using y3
    rw [hu] at y1; cases y1
    rw [hu2] at y2; cases y2
    rw [hu3] at y3; cases y3
    refine ⟨_, rfl, wpAny_letOwnedTupleGo_zip (s := { s with heap := h', toks := tk }) z' fun h'' z'' sb => ?_⟩
    have hT2 : h''.get? s.heap.objs.size = some { cls := .type "tuple", data := .seq #[u, u2, u3] } := (sb.2 _ (Nat.ne_of_gt hzl)).trans hT
    have new : ObjOk X.prog X.w (upd H s.heap.objs.size (.tup [x, y, v])) h'' s.heap.objs.size (.tup [x, y, v]) :=
      ⟨by show 3 ≤ sizeLine; decide, [u, u2, u3], .cons ru (.cons ru2 (.cons ru3 .nil)), ⟨_, hT2, rfl, _, rfl⟩⟩
    have I1 : Inv X pins σ (upd H s.heap.objs.size (.tup [x, y, v])) { s with heap := h'', toks := tk } :=
      I.turnedNew (t' := tk) (ch := [z, TI, TO, i1, i2, i3]) (fun c o hb q => (sb.2 c (fun q' => hb (by simp [q']))).trans (hk c o (fun q' => hb (by simp [q'])) (fun q' => hb (by simp [q'])) (fun q' => hb (by simp [q'])) (fun q' => hb (by simp [q'])) (fun q' => hb (by simp [q'])) q)) hf (Nat.le_refl _) new
    have f1 : ∀ {b : Bool} {ia aa : Addr} {k : Nat}, ia ≠ z → ItB b h' ia aa k → ItB b h'' ia aa k := fun hne q => q.at fun o e => (sb.2 _ hne).trans e
    refine ⟨.ref s.heap.objs.size, _, I1, rfl, ⟨_, x, y, v, rfl, I.hok.fresh (Nat.le_refl _), rfl, fun l hl => by rw [hl.inj I hqx]; exact hx, fun l hl => by rw [hl.inj I hqy]; exact hy, fun l hl => by rw [hl.inj I hqz]; exact hv⟩, ⟨z'', ?_, ⟨u, u2, u3, ?_⟩, f1 S.zi1.symm d1.1, f1 S.zi2.symm d2.1, f1 S.zi3.symm d3.1⟩, fun c hcm => ?_⟩
    · exact (sb.2 _ S.TIz).trans (hk _ _ S.TIz S.TITO S.TIi1 S.TIi2 S.TIi3 hTI)
    · exact (sb.2 _ S.TOz).trans TO'
    · have hlt : c < s.heap.objs.size := by
        have e' : c = z ∨ c = TI ∨ c = TO ∨ c = i1 ∨ c = i2 ∨ c = i3 := by simpa using hcm
        rcases e' with q | q | q | q | q | q
        · rw [q]; exact hzl
        · rw [q]; exact Heap.lt_size hTI
        · rw [q]; exact Heap.lt_size hTO
        · rw [q]; obtain ⟨_, e1, _⟩ := h1.obj; exact Heap.lt_size e1
        · rw [q]; obtain ⟨_, e2, _⟩ := h2.obj; exact Heap.lt_size e2
        · rw [q]; obtain ⟨_, e3, _⟩ := h3.obj; exact Heap.lt_size e3
      rw [upd_ne (Nat.ne_of_lt hlt)]
      exact (hf c hcm).1
  done := by
    intro X hP hw hK hc i pins s σ H E I hf st hg
    subst hP hw hK
    obtain ⟨hz, hTI, ⟨x0, y0, u0, hTO⟩, h1, h2, h3⟩ := st
    obtain ⟨xs, ys, zs, hqx, hqy, hqz, k1, k2, k3, hend⟩ := hg
    obtain ⟨its, rv, p, _⟩ := hqx.inv I
    obtain ⟨its2, rv2, p2, _⟩ := hqy.inv I
    obtain ⟨its3, rv3, p3, _⟩ := hqz.inv I
    have l1 := rv.length
    have l2 := rv2.length
    have l3 := rv3.length
    have hh : X.A.in1.handled = none := I.ok.hd hc
    have D1 := drB (prog := X.prog) (w := X.w) hh b1 i1 a1 n1 its.toArray
    have D2 := drB (prog := X.prog) (w := X.w) hh b2 i2 a2 n2 its2.toArray
    have D3 := drB (prog := X.prog) (w := X.w) hh b3 i3 a3 n3 its3.toArray
    exact wpAny_pyNext_zipD3_end S D1 D2 D3 hz hTI hTO ⟨h1, p⟩ ⟨h2, p2⟩ ⟨h3, p3⟩ (by simp; omega) (by simp; omega) (by simp; omega) (by simp; omega) fun h' tk hk => ⟨rfl, I.turnedL (t' := tk) (ch := [z, TI, TO, i1, i2, i3]) (fun c o hb q =>
      hk c o (fun q' => hb (by simp [q'])) (fun q' => hb (by simp [q'])) (fun q' => hb (by simp [q'])) (fun q' => hb (by simp [q'])) (fun q' => hb (by simp [q'])) q) hf⟩
  self := fun A i s Q E st h => wpAny_pyIter_zip st.1 h
def iZip3A (K : PySem.W.Frag) (ta : TA) : TI := fun σ H R => ta σ H fun vs H1 => ∃ b1 b2 b3 a1 a2 a3 xs ys zs, vs = [.ref a1, .ref a2, .ref a3] ∧ SqB K b1 H1 a1 xs ∧ SqB K b2 H1 a2 ys ∧ SqB K b3 H1 a3 zs ∧ R (Itz3 K b1 b2 b3 a1 a2 a3) H1
theorem pi_zip3A {X : Cx} {e e2 e3 : Expr} {ta : TA} {p pos tpos : Pos} {elts : List Expr} {kk : Nat} (hg : Gl X "zip") (hm : X.mg "zip" = none) (ha : PA X [e, e2, e3] ta)
    (hs : starEach [e, e2, e3] X.env = (false, eval e X.env) :: starEach [e2, e3] X.env := by rfl) (hpl : (backTo pos (starEach [e2, e3] X.env)).any (·.1) = false := by rfl) :
    PI X (.Tuple elts kk tpos) (.Call (.Name "zip" p) [e, e2, e3] [] pos) (iZip3A X.K ta) := by
  refine ⟨fun pins s σ H R I h => ?_⟩
  refine Call_ (ld_blt I hg hm PyProof.Rows.boot_zip (PyProof.Rows.callWith_type1 (thn (ha.run pos pins s σ H _ I h) fun us s1 ⟨vs, H1, I1, r1, q1⟩ => ?_) hs hpl))
  obtain ⟨b1, b2, b3, a1, a2, a3, xs, ys, zs, ex, q1, q2, q3, qR⟩ := q1
  subst ex
  cases r1 with
  | cons r rr =>
    cases rr with
    | cons r' rr =>
      cases rr with
      | cons r'' rr =>
        cases rr
        cases r
        cases r'
        cases r''
        obtain ⟨its, rv, p1, k1⟩ := q1.inv I1
        obtain ⟨its2, rv2, p2, k2⟩ := q2.inv I1
        obtain ⟨its3, rv3, p3, k3⟩ := q3.inv I1
        refine zip_begins3 (begB b1 a1 its.toArray) (begB b2 a2 its2.toArray) (begB b3 a3 its3.toArray) p1 p2 p3 fun h' hz hTI hTO g1 g2 g3 hsz hk => wpAny_pyIter_zip hz ?_
        have I2 : Inv X pins σ H1 { s1 with heap := h' } := I1.kept (t' := s1.toks) hk
        refine ⟨s1.heap.objs.size + 5, [s1.heap.objs.size + 5, s1.heap.objs.size + 3, s1.heap.objs.size + 4, s1.heap.objs.size, s1.heap.objs.size + 1, s1.heap.objs.size + 2], _, _, H1, rfl, I2, turn_zip3 (b1 := b1) (b2 := b2) (b3 := b3) (a1 := a1) (a2 := a2) (a3 := a3) (zip_sep3 (fun b hb => by rw [List.mem_singleton.mp hb]; exact k1) (fun b hb => by rw [List.mem_singleton.mp hb]; exact k2) (fun b hb => by rw [List.mem_singleton.mp hb]; exact k3)) (Nat.ne_of_lt k1) (Nat.ne_of_lt (Nat.lt_succ_of_lt k2)) (Nat.ne_of_lt (Nat.lt_succ_of_lt (Nat.lt_succ_of_lt k3))), ⟨hz, hTI, ⟨_, _, _, hTO⟩, .start g1, .start g2, .start g3⟩, fun c hcm => ?_, qR⟩
        have e' : c = s1.heap.objs.size + 5 ∨ c = s1.heap.objs.size + 3 ∨ c = s1.heap.objs.size + 4 ∨ c = s1.heap.objs.size ∨ c = s1.heap.objs.size + 1 ∨ c = s1.heap.objs.size + 2 := by simpa using hcm
        have hle : s1.heap.objs.size ≤ c := by
          rcases e' with z | z | z | z | z | z
          · rw [z]; exact Nat.le_add_right _ _
          · rw [z]; exact Nat.le_add_right _ _
          · rw [z]; exact Nat.le_add_right _ _
          · rw [z]; exact Nat.le_refl _
          · rw [z]; exact Nat.le_add_right _ _
          · rw [z]; exact Nat.le_add_right _ _
        exact I1.fpOk hle (I1.hok.fresh hle)
def Itz2 (K : PySem.W.Frag) (b1 b2 : Bool) (a1 a2 : Addr) : It :=
  ⟨fun i H => ∃ (xs ys : List V) (x y : V), SqB K b1 H a1 xs ∧ SqB K b2 H a2 ys ∧ xs[i]? = some x ∧ ys[i]? = some y,
    fun i H v H' => ∃ T x y, v = .ref T ∧ H T = none ∧ H' = upd H T (.tup [x, y]) ∧ (∀ xs, SqB K b1 H a1 xs → xs[i]? = some x) ∧ (∀ ys, SqB K b2 H a2 ys → ys[i]? = some y),
    fun i H => ∃ xs ys : List V, SqB K b1 H a1 xs ∧ SqB K b2 H a2 ys ∧ i ≤ xs.length ∧ i ≤ ys.length ∧ (i = xs.length ∨ i = ys.length)⟩
theorem turn_zip2 {P : Program} {w : World} {K : PySem.W.Frag} {elts : List Expr} {kk : Nat} {tpos : Pos} {b1 b2 : Bool} {a1 a2 z TI TO i1 i2 : Addr} (S : ZipSep2 z TI TO i1 i2 [i1, a1] [i2, a2]) (n1 : a1 ≠ i1) (n2 : a2 ≠ i2) :
    Turn P w K (.Tuple elts kk tpos) (Itz2 K b1 b2 a1 a2) [z, TI, TO, i1, i2] z (fun i h => IsZip h z TI TO .none ∧ IsTupOf2 h TI (.ref i1) (.ref i2) ∧ (∃ x y, IsTupOf2 h TO x y) ∧ ItB b1 h i1 a1 i ∧ ItB b2 h i2 a2 i) where
  mem := by simp
  obj := fun i h st c hc => by
    obtain ⟨hz, hTI, ⟨x, y, hTO⟩, e1, e2⟩ := st
    have e' : c = z ∨ c = TI ∨ c = TO ∨ c = i1 ∨ c = i2 := by simpa using hc
    rcases e' with q | q | q | q | q
    · rw [q]; exact ⟨_, hz, fun v q => nomatch q⟩
    · rw [q]; exact ⟨_, hTI, fun v q => nomatch q⟩
    · rw [q]; exact ⟨_, hTO, fun v q => nomatch q⟩
    · rw [q]; exact e1.obj
    · rw [q]; exact e2.obj
  keep := fun i h h' st k => by
    obtain ⟨hz, hTI, ⟨x, y, hTO⟩, h1, h2⟩ := st
    exact ⟨k z (by simp) _ hz, k TI (by simp) _ hTI, ⟨x, y, k TO (by simp) _ hTO⟩, h1.at fun o q => k i1 (by simp) o q, h2.at fun o q => k i2 (by simp) o q⟩
  item := by
    intro X hP hw hK hc i pins s σ H E I hf st hg
    subst hP hw hK
    obtain ⟨hz, hTI, ⟨x0, y0, hTO⟩, h1, h2⟩ := st
    obtain ⟨xs, ys, x, y, hqx, hqy, hx, hy⟩ := hg
    obtain ⟨its, rv, p, _⟩ := hqx.inv I
    obtain ⟨its2, rv2, p2, _⟩ := hqy.inv I
    obtain ⟨u, hu, ru⟩ := rv.get hx
    obtain ⟨u2, hu2, ru2⟩ := rv2.get hy
    have hzl : z < s.heap.objs.size := Heap.lt_size hz
    have hh : X.A.in1.handled = none := I.ok.hd hc
    have D1 := drB (prog := X.prog) (w := X.w) hh b1 i1 a1 n1 its.toArray
    have D2 := drB (prog := X.prog) (w := X.w) hh b2 i2 a2 n2 its2.toArray
    have l1 : i < its.length := (List.getElem?_eq_some_iff.mp hu).1
    have l2 : i < its2.length := (List.getElem?_eq_some_iff.mp hu2).1
    refine wpAny_pyNext_zipD2_item S D1 D2 hz hTI hTO ⟨h1, p⟩ ⟨h2, p2⟩ (by simpa using l1) (by simpa using l2) fun x1 x2 h' tk y1 y2 z' TO' d1 d2 hT hsz hk => ?_
    have y1 : its[i]? = some x1 := by simpa using y1
    have y2 : its2[i]? = some x2 := by simpa using y2
    rw [hu] at y1; cases y1
    rw [hu2] at y2; cases y2
    refine ⟨_, rfl, wpAny_letOwnedTupleGo_zip (s := { s with heap := h', toks := tk }) z' fun h'' z'' sb => ?_⟩
    have hT2 : h''.get? s.heap.objs.size = some { cls := .type "tuple", data := .seq #[u, u2] } := (sb.2 _ (Nat.ne_of_gt hzl)).trans hT
    have new : ObjOk X.prog X.w (upd H s.heap.objs.size (.tup [x, y])) h'' s.heap.objs.size (.tup [x, y]) :=
      ⟨by show 2 ≤ sizeLine; decide, [u, u2], .cons ru (.cons ru2 .nil), ⟨_, hT2, rfl, _, rfl⟩⟩
    have I1 : Inv X pins σ (upd H s.heap.objs.size (.tup [x, y])) { s with heap := h'', toks := tk } :=
      I.turnedNew (t' := tk) (ch := [z, TI, TO, i1, i2]) (fun c o hb q => (sb.2 c (fun q' => hb (by simp [q']))).trans (hk c o (fun q' => hb (by simp [q'])) (fun q' => hb (by simp [q'])) (fun q' => hb (by simp [q'])) (fun q' => hb (by simp [q'])) q)) hf (Nat.le_refl _) new
    have f1 : ∀ {b : Bool} {ia aa : Addr} {k : Nat}, ia ≠ z → ItB b h' ia aa k → ItB b h'' ia aa k := fun hne q => q.at fun o e => (sb.2 _ hne).trans e
    refine ⟨.ref s.heap.objs.size, _, I1, rfl, ⟨_, x, y, rfl, I.hok.fresh (Nat.le_refl _), rfl, fun l hl => by rw [hl.inj I hqx]; exact hx, fun l hl => by rw [hl.inj I hqy]; exact hy⟩, ⟨z'', ?_, ⟨u, u2, ?_⟩, f1 S.zi1.symm d1.1, f1 S.zi2.symm d2.1⟩, fun c hcm => ?_⟩
    · exact (sb.2 _ S.TIz).trans (hk _ _ S.TIz S.TITO S.TIi1 S.TIi2 hTI)
    · exact (sb.2 _ S.TOz).trans TO'
    · have hlt : c < s.heap.objs.size := by
        have e' : c = z ∨ c = TI ∨ c = TO ∨ c = i1 ∨ c = i2 := by simpa using hcm
        rcases e' with q | q | q | q | q
        · rw [q]; exact hzl
        · rw [q]; exact Heap.lt_size hTI
        · rw [q]; exact Heap.lt_size hTO
        · rw [q]; obtain ⟨_, e1, _⟩ := h1.obj; exact Heap.lt_size e1
        · rw [q]; obtain ⟨_, e2, _⟩ := h2.obj; exact Heap.lt_size e2
      rw [upd_ne (Nat.ne_of_lt hlt)]
      exact (hf c hcm).1
  done := by
    intro X hP hw hK hc i pins s σ H E I hf st hg
    subst hP hw hK
    obtain ⟨hz, hTI, ⟨x0, y0, hTO⟩, h1, h2⟩ := st
    obtain ⟨xs, ys, hqx, hqy, k1, k2, hend⟩ := hg
    obtain ⟨its, rv, p, _⟩ := hqx.inv I
    obtain ⟨its2, rv2, p2, _⟩ := hqy.inv I
    have l1 := rv.length
    have l2 := rv2.length
    have hh : X.A.in1.handled = none := I.ok.hd hc
    have D1 := drB (prog := X.prog) (w := X.w) hh b1 i1 a1 n1 its.toArray
    have D2 := drB (prog := X.prog) (w := X.w) hh b2 i2 a2 n2 its2.toArray
    exact wpAny_pyNext_zipD2_end S D1 D2 hz hTI hTO ⟨h1, p⟩ ⟨h2, p2⟩ (by simp; omega) (by simp; omega) (by simp; omega) fun h' tk hk => ⟨rfl, I.turnedL (t' := tk) (ch := [z, TI, TO, i1, i2]) (fun c o hb q =>
      hk c o (fun q' => hb (by simp [q'])) (fun q' => hb (by simp [q'])) (fun q' => hb (by simp [q'])) (fun q' => hb (by simp [q'])) q) hf⟩
  self := fun A i s Q E st h => wpAny_pyIter_zip st.1 h
def iZip2A (K : PySem.W.Frag) (ta : TA) : TI := fun σ H R => ta σ H fun vs H1 => ∃ b1 b2 a1 a2 xs ys, vs = [.ref a1, .ref a2] ∧ SqB K b1 H1 a1 xs ∧ SqB K b2 H1 a2 ys ∧ R (Itz2 K b1 b2 a1 a2) H1
theorem pi_zip2A {X : Cx} {e e2 : Expr} {ta : TA} {p pos tpos : Pos} {elts : List Expr} {kk : Nat} (hg : Gl X "zip") (hm : X.mg "zip" = none) (ha : PA X [e, e2] ta)
    (hs : starEach [e, e2] X.env = (false, eval e X.env) :: starEach [e2] X.env := by rfl) (hpl : (backTo pos (starEach [e2] X.env)).any (·.1) = false := by rfl) :
    PI X (.Tuple elts kk tpos) (.Call (.Name "zip" p) [e, e2] [] pos) (iZip2A X.K ta) := by
  refine ⟨fun pins s σ H R I h => ?_⟩
  refine Call_ (ld_blt I hg hm PyProof.Rows.boot_zip (PyProof.Rows.callWith_type1 (thn (ha.run pos pins s σ H _ I h) fun us s1 ⟨vs, H1, I1, r1, q1⟩ => ?_) hs hpl))
  obtain ⟨b1, b2, a1, a2, xs, ys, ex, q1, q2, qR⟩ := q1
  subst ex
  cases r1 with
  | cons r rr =>
    cases rr with
    | cons r' rr =>
      cases rr
      cases r
      cases r'
      obtain ⟨its, rv, p1, k1⟩ := q1.inv I1
      obtain ⟨its2, rv2, p2, k2⟩ := q2.inv I1
      refine zip_begins2 (begB b1 a1 its.toArray) (begB b2 a2 its2.toArray) p1 p2 fun h' hz hTI hTO g1 g2 hsz hk => wpAny_pyIter_zip hz ?_
      have I2 : Inv X pins σ H1 { s1 with heap := h' } := I1.kept (t' := s1.toks) hk
      refine ⟨s1.heap.objs.size + 4, [s1.heap.objs.size + 4, s1.heap.objs.size + 2, s1.heap.objs.size + 3, s1.heap.objs.size, s1.heap.objs.size + 1], _, _, H1, rfl, I2, turn_zip2 (b1 := b1) (b2 := b2) (a1 := a1) (a2 := a2) (zip_sep2 (fun b hb => by rw [List.mem_singleton.mp hb]; exact k1) (fun b hb => by rw [List.mem_singleton.mp hb]; exact k2)) (Nat.ne_of_lt k1) (Nat.ne_of_lt (Nat.lt_succ_of_lt k2)), ⟨hz, hTI, ⟨_, _, hTO⟩, .start g1, .start g2⟩, fun c hcm => ?_, qR⟩
      have e' : c = s1.heap.objs.size + 4 ∨ c = s1.heap.objs.size + 2 ∨ c = s1.heap.objs.size + 3 ∨ c = s1.heap.objs.size ∨ c = s1.heap.objs.size + 1 := by simpa using hcm
      have hle : s1.heap.objs.size ≤ c := by
        rcases e' with z | z | z | z | z
        · rw [z]; exact Nat.le_add_right _ _
        · rw [z]; exact Nat.le_add_right _ _
        · rw [z]; exact Nat.le_add_right _ _
        · rw [z]; exact Nat.le_refl _
        · rw [z]; exact Nat.le_add_right _ _
      exact I1.fpOk hle (I1.hok.fresh hle)
def trips : List PyData → List PyData → List PyData → List PyData
  | x :: xs, y :: ys, z :: zs => .tuple [x, y, z] :: trips xs ys zs
  | _, _, _ => []
theorem trips_len : ∀ xs ys zs : List PyData, (trips xs ys zs).length = min xs.length (min ys.length zs.length)
  | [], _, _ => by simp [trips]
  | _ :: _, [], _ => by simp [trips]
  | _ :: _, _ :: _, [] => by simp [trips]
  | x :: xs, y :: ys, z :: zs => by
    show (trips xs ys zs).length + 1 = _
    rw [trips_len xs ys zs, List.length_cons, List.length_cons, List.length_cons]
    omega
theorem trips_get : ∀ {xs ys zs : List PyData} {i : Nat} {x y z : PyData}, xs[i]? = some x → ys[i]? = some y → zs[i]? = some z → (trips xs ys zs)[i]? = some (.tuple [x, y, z])
  | [], _, _, _, _, _, _, h, _, _ => by simp at h
  | _ :: _, [], _, _, _, _, _, _, h, _ => by simp at h
  | _ :: _, _ :: _, [], _, _, _, _, _, _, h => by simp at h
  | a :: xs, b :: ys, c :: zs, 0, x, y, z, h1, h2, h3 => by
    simp at h1 h2 h3
    subst h1 h2 h3
    rfl
  | a :: xs, b :: ys, c :: zs, i + 1, x, y, z, h1, h2, h3 => by
    rw [List.getElem?_cons_succ] at h1 h2 h3
    show (trips xs ys zs)[i]? = _
    exact trips_get h1 h2 h3
def lt_items : PyData → Option (List PyData)
  | .tuple xs => some xs
  | .list xs => some xs
  | _ => none
def iZip3 (f g h : En → Option PyData) : En → Option (List PyData) := fun en => (f en).bind fun x => (g en).bind fun y => (h en).bind fun z => (lt_items x).bind fun xs => (lt_items y).bind fun ys => (lt_items z).bind fun zs => some (trips xs ys zs)
theorem dp_sqB {K : PySem.W.Frag} {H : Hp} {v : V} {x : PyData} {xs : List PyData} (q : Dp K H v x) (h : lt_items x = some xs) : ∃ b a vs, v = .ref a ∧ SqB K b H a vs ∧ DpAll K H vs xs := by
  cases x <;> simp only [lt_items] at h <;> cases h
  · cases q with
    | lst s a => exact ⟨true, _, _, rfl, s, a⟩
  · cases q with
    | tup s a => exact ⟨false, _, _, rfl, s, a⟩
section
variable {X : Cx} {Ts : TsT} {pos p tpos : Pos} {e e2 e3 : Expr} {f g h : En → Option PyData} {elts : List Expr} {kk : Nat}
theorem gives_zip3 {K : PySem.W.Frag} {H1 : Hp} {O : List Addr} {b1 b2 b3 : Bool} {a1 a2 a3 : Addr} {xs ys zs : List V} {ds es fs : List PyData} (s1 : SqB K b1 (hide H1 O) a1 xs) (s2 : SqB K b2 (hide H1 O) a2 ys) (s3 : SqB K b3 (hide H1 O) a3 zs)
    (q1 : DpAll K (hide H1 O) xs ds) (q2 : DpAll K (hide H1 O) ys es) (q3 : DpAll K (hide H1 O) zs fs) : Gives K Ts (Itz3 K b1 b2 b3 a1 a2 a3) (trips ds es fs) H1 O := fun O' H2 h1 h2 occ => by
  have u1 := s1.mono fun o n e => h2.get _ o e n
  have u2 := s2.mono fun o n e => h2.get _ o e n
  have u3 := s3.mono fun o n e => h2.get _ o e n
  have la := DpAll.len q1
  have lb := DpAll.len q2
  have lc := DpAll.len q3
  have q1 := DpAll.mono h1 q1
  have q2 := DpAll.mono h1 q2
  have q3 := DpAll.mono h1 q3
  refine ⟨fun i hi => ?_, ?_, fun i v H3 hi hy => ?_⟩
  · rw [trips_len] at hi
    exact ⟨xs, ys, zs, xs[i]'(by omega), ys[i]'(by omega), zs[i]'(by omega), u1, u2, u3, List.getElem?_eq_getElem _, List.getElem?_eq_getElem _, List.getElem?_eq_getElem _⟩
  · rw [trips_len]
    exact ⟨xs, ys, zs, u1, u2, u3, by omega, by omega, by omega, by omega⟩
  · obtain ⟨T, x, y, z, rfl, nT, rfl, ex, ey, ez⟩ := hy
    obtain ⟨d1, hd1, r1⟩ := DpAll.get q1 (ex _ u1)
    obtain ⟨d2, hd2, r2⟩ := DpAll.get q2 (ey _ u2)
    obtain ⟨d3, hd3, r3⟩ := DpAll.get q3 (ez _ u3)
    exact ⟨.tuple [d1, d2, d3], trips_get hd1 hd2 hd3, Xt.upd nT, fun t => t.new nT, tup_new nT (fun z => (occ T z).1 nT) (.cons r1 (.cons r2 (.cons r3 .nil)))⟩
theorem di_zip3 (hg : Gl X "zip") (hm : X.mg "zip" = none) (ha : DE X Ts e f) (hb : DE X Ts e2 g) (hc : DE X Ts e3 h)
    (hs : starEach [e, e2, e3] X.env = (false, eval e X.env) :: starEach [e2, e3] X.env := by rfl) (hs2 : starEach [e2, e3] X.env = (false, eval e2 X.env) :: starEach [e3] X.env := by rfl) (hs3 : starEach [e3] X.env = (false, eval e3 X.env) :: starEach [] X.env := by rfl) (hpl : (backTo pos (starEach [e2, e3] X.env)).any (·.1) = false := by rfl) :
    DI X Ts (.Tuple elts kk tpos) (.Call (.Name "zip" p) [e, e2, e3] [] pos) (iZip3 f g h) :=
  PI.imp (pi_zip3A (ta := tCons (tD X.K Ts f) (tCons (tD X.K Ts g) (tCons (tD X.K Ts h) tNil))) hg hm (pa_cons ha (pa_cons hb (pa_cons hc pa_nil hs3) hs2) hs) hs hpl) fun σ H R ⟨He, O, en, ds, rp, hf, kk⟩ => by
    unfold iZip3 at hf
    obtain ⟨x, h1, hf1⟩ := Option.bind_eq_some_iff.mp hf
    obtain ⟨y, h2, hf2⟩ := Option.bind_eq_some_iff.mp hf1
    obtain ⟨z, h3, hf3⟩ := Option.bind_eq_some_iff.mp hf2
    obtain ⟨xs, h4, hf4⟩ := Option.bind_eq_some_iff.mp hf3
    obtain ⟨ys, h5, hf5⟩ := Option.bind_eq_some_iff.mp hf4
    obtain ⟨zs, h6, hf6⟩ := Option.bind_eq_some_iff.mp hf5
    cases hf6
    refine tD.of rp h1 fun v H1 x1 r1 q1 => tD.of r1 h2 fun w H2 x2 r2 q2 => tD.of r2 h3 fun u H3 x3 r3 q3 => ?_
    have q1 := Dp.mono (hide_mono (x2.trans x3)) q1
    have q2 := Dp.mono (hide_mono x3) q2
    obtain ⟨b1, a1, vs1, rfl, s1, t1⟩ := dp_sqB q1 h4
    obtain ⟨b2, a2, vs2, rfl, s2, t2⟩ := dp_sqB q2 h5
    obtain ⟨b3, a3, vs3, rfl, s3, t3⟩ := dp_sqB q3 h6
    exact ⟨b1, b2, b3, a1, a2, a3, vs1, vs2, vs3, rfl, s1.mono fun o n e => (hide_some e).2, s2.mono fun o n e => (hide_some e).2, s3.mono fun o n e => (hide_some e).2, kk _ H3 ((x1.trans x2).trans x3) r3.tabs (gives_zip3 s1 s2 s3 t1 t2 t3)⟩
end
def pairs : List PyData → List PyData → List PyData
  | x :: xs, y :: ys => .tuple [x, y] :: pairs xs ys
  | _, _ => []
theorem pairs_len : ∀ xs ys : List PyData, (pairs xs ys).length = min xs.length ys.length
  | [], _ => by simp [pairs]
  | _ :: _, [] => by simp [pairs]
  | x :: xs, y :: ys => by
    show (pairs xs ys).length + 1 = _
    rw [pairs_len xs ys, List.length_cons, List.length_cons]
    omega
theorem pairs_get : ∀ {xs ys : List PyData} {i : Nat} {x y : PyData}, xs[i]? = some x → ys[i]? = some y → (pairs xs ys)[i]? = some (.tuple [x, y])
  | [], _, _, _, _, h, _ => by simp at h
  | _ :: _, [], _, _, _, _, h => by simp at h
  | a :: xs, b :: ys, 0, x, y, h1, h2 => by
    simp at h1 h2
    subst h1 h2
    rfl
  | a :: xs, b :: ys, i + 1, x, y, h1, h2 => by
    rw [List.getElem?_cons_succ] at h1 h2
    show (pairs xs ys)[i]? = _
    exact pairs_get h1 h2
def iZip (f g : En → Option PyData) : En → Option (List PyData) := fun en => (f en).bind fun x => (g en).bind fun y => match x, y with
  | .tuple xs, .tuple ys => some (pairs xs ys)
  | .list xs, .list ys => some (pairs xs ys)
  | .tuple xs, .list ys => some (pairs xs ys)
  | .list xs, .tuple ys => some (pairs xs ys)
  | _, _ => none
section
variable {X : Cx} {Ts : TsT} {pos p tpos : Pos} {e e2 : Expr} {f g : En → Option PyData} {elts : List Expr} {kk : Nat}
theorem gives_zip2 {K : PySem.W.Frag} {H1 : Hp} {O : List Addr} {b1 b2 : Bool} {a1 a2 : Addr} {xs ys : List V} {ds es : List PyData} (s1 : SqB K b1 (hide H1 O) a1 xs) (s2 : SqB K b2 (hide H1 O) a2 ys)
    (q1 : DpAll K (hide H1 O) xs ds) (q2 : DpAll K (hide H1 O) ys es) : Gives K Ts (Itz2 K b1 b2 a1 a2) (pairs ds es) H1 O := fun O' H2 h1 h2 occ => by
  have u1 := s1.mono fun o n e => h2.get _ o e n
  have u2 := s2.mono fun o n e => h2.get _ o e n
  have la := DpAll.len q1
  have lb := DpAll.len q2
  have q1 := DpAll.mono h1 q1
  have q2 := DpAll.mono h1 q2
  refine ⟨fun i hi => ?_, ?_, fun i v H3 hi hy => ?_⟩
  · rw [pairs_len] at hi
    exact ⟨xs, ys, xs[i]'(by omega), ys[i]'(by omega), u1, u2, List.getElem?_eq_getElem _, List.getElem?_eq_getElem _⟩
  · rw [pairs_len]
    exact ⟨xs, ys, u1, u2, by omega, by omega, by omega⟩
  · obtain ⟨T, x, y, rfl, nT, rfl, ex, ey⟩ := hy
    obtain ⟨d1, hd1, r1⟩ := DpAll.get q1 (ex _ u1)
    obtain ⟨d2, hd2, r2⟩ := DpAll.get q2 (ey _ u2)
    exact ⟨.tuple [d1, d2], pairs_get hd1 hd2, Xt.upd nT, fun t => t.new nT, tup_new nT (fun z => (occ T z).1 nT) (.cons r1 (.cons r2 .nil))⟩
theorem di_zip (hg : Gl X "zip") (hm : X.mg "zip" = none) (ha : DE X Ts e f) (hb : DE X Ts e2 g)
    (hs : starEach [e, e2] X.env = (false, eval e X.env) :: starEach [e2] X.env := by rfl) (hs2 : starEach [e2] X.env = (false, eval e2 X.env) :: starEach [] X.env := by rfl) (hpl : (backTo pos (starEach [e2] X.env)).any (·.1) = false := by rfl) :
    DI X Ts (.Tuple elts kk tpos) (.Call (.Name "zip" p) [e, e2] [] pos) (iZip f g) :=
  PI.imp (pi_zip2A (ta := tCons (tD X.K Ts f) (tCons (tD X.K Ts g) tNil)) hg hm (pa_cons ha (pa_cons hb pa_nil hs2) hs) hs hpl) fun σ H R ⟨He, O, en, ds, rp, hf, kk⟩ => by
    unfold iZip at hf
    obtain ⟨x, h1, hf1⟩ := Option.bind_eq_some_iff.mp hf
    obtain ⟨y, h2, hf2⟩ := Option.bind_eq_some_iff.mp hf1
    refine tD.of rp h1 fun v H1 x1 r1 q1 => tD.of r1 h2 fun w H2 x2 r2 q2 => ?_
    have q1 := Dp.mono (hide_mono x2) q1
    have fin : ∀ xs ys, lt_items x = some xs → lt_items y = some ys → ds = pairs xs ys → ∃ b1 b2 a1 a2 us ws, [v, w] = [V.ref a1, V.ref a2] ∧ SqB X.K b1 H2 a1 us ∧ SqB X.K b2 H2 a2 ws ∧ R (Itz2 X.K b1 b2 a1 a2) H2 := fun xs ys h4 h5 e => by
      subst e
      obtain ⟨b1, a1, vs1, rfl, s1, t1⟩ := dp_sqB q1 h4
      obtain ⟨b2, a2, vs2, rfl, s2, t2⟩ := dp_sqB q2 h5
      exact ⟨b1, b2, a1, a2, vs1, vs2, rfl, s1.mono fun o n e => (hide_some e).2, s2.mono fun o n e => (hide_some e).2, kk _ H2 (x1.trans x2) r2.tabs (gives_zip2 s1 s2 t1 t2)⟩
    cases x <;> cases y <;> simp only at hf2 <;> cases hf2 <;> exact fin _ _ rfl rfl rfl
theorem d_gcd {x : Str} (hg : Gl X x) (hm : X.mg x = some (.builtin "math.gcd")) (ha : DE X Ts e f) (hb : DE X Ts e2 g) (hdb : (x == ("__debug__" : Str)) = false := by decide)
    (hs : starEach [e, e2] X.env = (false, eval e X.env) :: starEach [e2] X.env := by rfl) (hs2 : starEach [e2] X.env = (false, eval e2 X.env) :: starEach [] X.env := by rfl) (hpl : (backTo pos (starEach [e2] X.env)).any (·.1) = false := by rfl) :
    DE X Ts (.Call (.Name x p) [e, e2] [] pos) (fGcd f g) :=
  PE.imp (pe_callBfun cr_gcd hg hm (pa_cons ha (pa_cons hb pa_nil hs2) hs) hdb hs hpl) fun σ H Q ⟨He, O, en, d, rp, hf, kk⟩ => by
    unfold fGcd at hf
    obtain ⟨x, y, h1, h2, h3⟩ := f2_some hf
    refine tD.of rp h1 fun v H1 x1 r1 q1 => tD.of r1 h2 fun w H2 x2 r2 q2 => ?_
    cases x <;> cases y <;> simp only [gI] at h3 <;> try cases h3
    cases q1
    cases q2
    exact ⟨_, _, rfl, kk _ H2 (x1.trans x2) r2.tabs (.int _)⟩
end
def RepV (K : PySem.W.Frag) (Ts : TsT) (ρ : Nat) (a : Addr) (He : Hp) (O₀ : List Addr) (Vz : Hp) (σ : St) (H : Hp) (en : En) : Prop :=
  ∃ O, (∀ b ∈ O₀, b ∈ O) ∧ WRep K Ts ρ He O σ H en ∧ σ[ρ]? = some (some (V.ref a)) ∧ Xt Vz (hide H O)
def tV (K : PySem.W.Frag) (Ts : TsT) (ρ : Nat) (fin : Bool) (F : LF) : TS := fun D σ H => ∃ a He O₀ Vz en Q, RepV K Ts ρ a He O₀ Vz σ H en ∧ F en Q ∧
  (∀ en' σ' H', Q (.nx en') → RepV K Ts ρ a He O₀ Vz σ' H' en' → D.nx σ' H') ∧
  ((∀ d v en' σ' H', Q (.rt d) → RepV K Ts ρ a He O₀ Vz σ' H' en' → Dp K (hide H' O₀) v d → D.rt v H') ∧ (fin = true → ∀ b H', Q (.rt (.bool b)) → D.rt (.bl b) H'))
abbrev VS (X : Cx) (Ts : TsT) (ρ : Nat) (fin : Bool) (st : Stmt) (F : LF) : Prop := PS X st (tV X.K Ts ρ fin F)
abbrev VSs (X : Cx) (Ts : TsT) (ρ : Nat) (fin : Bool) (st : List Stmt) (F : LF) : Prop := PSs X st (tV X.K Ts ρ fin F)
def lforGo (b : PyData → En → Option En) (F : LF) : List PyData → LF
  | [], en, Q => Q (.nx en)
  | d :: r, en, Q => ∃ e1, b d en = some e1 ∧ F e1 fun fl => match fl with
    | .nx e2 => lforGo b F r e2 Q
    | .rt v => Q (.rt v)
    | _ => False
def lFor (it : En → (List PyData → Prop) → Prop) (b : PyData → En → Option En) (F : LF) : LF := fun en Q => it en fun ds => lforGo b F ds en Q
def lRetV (F : WF) : LF := fun en Q => F en fun d => Q (.rt d)
section
variable {X : Cx} {Ts : TsT} {ρ : Nat} {fin : Bool} {pos : Pos} {st : Stmt} {rest : List Stmt} {F G : LF} {e a b : Expr} {f g : WF}
theorem v_nil : VSs X Ts ρ fin [] lNil := PSs.imp pss_nil fun D σ H ⟨a, He, O₀, Vz, en, Q, rp, hF, k, _⟩ => k en σ H hF rp
theorem v_cons (h1 : VS X Ts ρ fin st F) (h2 : VSs X Ts ρ fin rest G) : VSs X Ts ρ fin (st :: rest) (lSeq F G) := PSs.imp (pss_cons h1 h2) fun D σ H ⟨a, He, O₀, Vz, en, Q, rp, hF, k, l⟩ =>
  ⟨a, He, O₀, Vz, en, _, rp, hF, fun e1 σ1 H1 hq r1 => ⟨a, He, O₀, Vz, e1, Q, r1, hq, k, l⟩, ⟨fun d v en' σ' H' hq => l.1 d v en' σ' H' hq, fun hf b H' hq => l.2 hf b H' hq⟩⟩
theorem v_one (h1 : VS X Ts ρ fin st F) : VSs X Ts ρ fin [st] F := pss_one h1
theorem v_set {i : Nat} {x : Str} {pos' : Pos} (hN : X.N.Nodup) (hi : X.N[i]? = some x) (hx : Loc X.env.scope x) (hρ : i ≠ ρ) (he : WE X Ts ρ e f) (hs : swapsWith e (some (.Name x pos')) pos.line X.env = pure false := by rfl) (hf : X.fn x = true ∨ X.env.scope.names.lookup x = some .local := by first | exact .inl rfl | exact .inr rfl | assumption) :
    VS X Ts ρ fin (.Assign [.Name x pos'] e pos) (lSet i f) := PS.imp (ps_set hN hi hx he hs hf) fun D σ H ⟨aa, He, O₀, Vz, en, Q, ⟨O, s1, rp, ha, xv⟩, hF, k, _⟩ =>
  ⟨He, O, en, _, rp, hF, fun d v H' ⟨e1, h1, hq⟩ r' q x => k e1 _ H' hq ⟨O, s1, r'.setD hρ h1 q, by rw [List.getElem?_set_ne hρ]; exact ha, xv.trans x.1⟩⟩
theorem v_bind {tg : Expr} {vs : List Nat} {b : PyData → En → Option En} (he : WE X Ts ρ e f) (hg : DG X Ts tg vs b) (hb : BOk ρ b) (hv : ρ ∉ vs) (hs : swapsWithSole [tg] e pos.line X.env = pure false := by rfl) (hw : swappedStores [tg] e X.env = pure none := by rfl)
    (h1 : (assignEach [tg] X.env).map (·.2) = [assign tg X.env] := by rfl) : VS X Ts ρ fin (.Assign [tg] e pos) (lBind b f) := PS.imp (ps_asg he (wg_of hg hb) hs hw h1) fun D σ H ⟨aa, He, O₀, Vz, en, Q, ⟨O, s1, rp, hA, xv⟩, hF, k, _⟩ =>
  ⟨He, O, en, _, rp, hF, fun d v H1 ⟨e1, h1, hq⟩ r1 q1 x1 => ⟨He, O, en, d, e1, r1, q1, h1, fun σ' r' hw' => k e1 σ' H1 hq ⟨O, s1, r', by rw [← wipe_out (vs := vs) hv, hw', wipe_out hv]; exact hA, xv.trans x1.1⟩⟩⟩
theorem v_if {c : Expr} {a b : List Stmt} {t : En → (Bool → Prop) → Prop} (hc : WT X Ts ρ c t) (ha : VSs X Ts ρ fin a F) (hb : VSs X Ts ρ fin b G) : VS X Ts ρ fin (.If c a b pos) (lIf t F G) := PS.imp (ps_if hc ha hb) fun D σ H ⟨aa, He, O₀, Vz, en, Q, ⟨O, s1, rp, hA, xv⟩, hF, k, l⟩ =>
  ⟨He, O, en, _, rp, hF, fun b H' hq r' x => by
    cases b with
    | true => exact iteT ⟨aa, He, O₀, Vz, en, Q, ⟨O, s1, r', hA, xv.trans x.1⟩, hq, k, l⟩
    | false => exact iteF ⟨aa, He, O₀, Vz, en, Q, ⟨O, s1, r', hA, xv.trans x.1⟩, hq, k, l⟩⟩
theorem v_ret (he : WE X Ts ρ e f) : VS X Ts ρ fin (.Return (some e) pos) (lRetV f) := PS.imp (ps_ret he) fun D σ H ⟨aa, He, O₀, Vz, en, Q, ⟨O, s1, rp, hA, xv⟩, hF, k, l⟩ =>
  ⟨He, O, en, _, rp, hF, fun d v H' hq r' q x => l.1 d v en σ H' hq ⟨O, s1, r', hA, xv.trans x.1⟩ (Dp.mono (hide_sub s1) q)⟩
theorem v_for {tg iter : Expr} {body : List Stmt} {vs : List Nat} {it : En → (List PyData → Prop) → Prop} {b : PyData → En → Option En} (hp : PassesOwn (model X.prog X.w) X.A X.env X.xe) (hc : X.calm = true) (hi : WI X Ts ρ tg iter it) (hg : DG X Ts tg vs b) (hbo : BOk ρ b) (hv : ρ ∉ vs) (hb : VSs X Ts ρ fin body F)
    (hs : ∀ x, foldedSetIterable iter X.env x = pure x := by intro _; rfl) : VS X Ts ρ fin (.For tg iter body [] pos) (lFor it b F) := PS.imp (ps_for hp hc hi (wg_of hg hbo) hb hs) fun D σ H ⟨aa, He, O₀, Vz, en, Q, ⟨O, s1, rp, hA, xv⟩, hF, k, l⟩ => by
  refine ⟨He, O, en, _, rp, hF, fun ds J H1 hgo0 r1 x1 gv => ?_⟩
  have xv1 : Xt Vz (hide H1 O) := xv.trans x1.1
  have weak : ∀ {σ' H' en'}, RepV X.K Ts ρ aa He O₀ (hide H1 O) σ' H' en' → RepV X.K Ts ρ aa He O₀ Vz σ' H' en' := fun ⟨O', c1, c2, c3, c4⟩ => ⟨O', c1, c2, c3, xv1.trans c4⟩
  refine ⟨fun i m σ2 H2 => m = ds.length - i ∧ i ≤ ds.length ∧ ∃ en2, RepV X.K Ts ρ aa He O₀ (hide H1 O) σ2 H2 en2 ∧ lforGo b F (ds.drop i) en2 Q,
    ⟨ds.length, by simp, Nat.zero_le _, en, ⟨O, s1, r1, hA, Xt.refl _⟩, by simpa using hgo0⟩, fun i m σ2 H2 hW => ?_⟩
  obtain ⟨rfl, hi', en2, ⟨O2, b1, r2, hA2, x12⟩, hgo⟩ := hW
  obtain ⟨g1, g2, g3⟩ := gv O2 H2 x12 (x12.trans hide_out) r2.occ
  by_cases hlt : i < ds.length
  · rw [List.drop_eq_getElem_cons hlt] at hgo
    obtain ⟨e1, hb1, hgo1⟩ := hgo
    refine .inr ⟨g1 i hlt, fun σ' H' => ∃ en2, RepV X.K Ts ρ aa He O₀ (hide H1 O) σ' H' en2 ∧ lforGo b F (ds.drop (i + 1)) en2 Q, fun σ' H' c => ⟨ds.length - (i + 1), by omega, rfl, hlt, c⟩, fun x H3 hy => ?_⟩
    obtain ⟨d, hd, x23, t23, qd⟩ := g3 i x H3 hlt hy
    have r3 := r2.go x23 (t23 r2.tabs')
    have hd' : ds[i] = d := by rw [List.getElem?_eq_getElem hlt] at hd; exact Option.some.inj hd
    rw [hd'] at hb1
    refine ⟨He, O2, en2, d, e1, r3, qd, hb1, fun σ4 r4 hw => ?_⟩
    have hA4 : σ4[ρ]? = some (some (V.ref aa)) := by rw [← wipe_out (vs := vs) hv, hw, wipe_out hv]; exact hA2
    refine ⟨aa, He, O₀, hide H1 O, e1, _, ⟨O2, b1, r4, hA4, x12.trans (hide_mono x23)⟩, hgo1, fun e2 σ' H' hq r' => ⟨e2, r', hq⟩, ⟨fun d v e2 σ' H' hq r' q => l.1 d v e2 σ' H' hq (weak r') q, fun hf b H' hq => l.2 hf b H' hq⟩⟩
  · have hie : i = ds.length := by omega
    subst hie
    rw [List.drop_of_length_le (Nat.le_refl _)] at hgo
    exact .inl ⟨g2, k en2 σ2 H2 hgo ⟨O2, b1, r2, hA2, xv1.trans x12⟩⟩
end
section
variable {P : Program} {w : World} {K : PySem.W.Frag} {mg : Str → Option Value} {base : Heap} {Ts : TsT}
def runV (n : Nat) (F : LF) : List PyData → (PyData → Prop) → Prop := fun ds Q => F (Slot.no :: (ds.map Slot.dat ++ List.replicate (n - 1 - ds.length) Slot.no)) fun r => ∃ d, r = .rt d ∧ Q d
theorem DF.okV {x qual : Str} {st : Stmt} {f : Addr} {fd : FuncData} {cdv : Value} {N ps : List Str} {k n : Nat} {F : LF} (D : DF K x qual st f fd cdv) (S : FnScope N ps (defScope st)) (hn : ps.length = n + 1) (hN : n + 1 ≤ N.length)
    (hbody : ∀ (A : Around) (outer : List Env) (s : Shared) (H : Hp) (E : XK), Room k (A.deeper (envOfC qual (defScope st) s.heap.objs.size f cdv)) → VSs (cxOf CX0 P w K mg base N qual (defScope st) f cdv A outer s H E).nox Ts 0 false (defBody st) F) :
    FnOk P w K mg base CX0 (k + 1) f fd ps (spW K Ts n (runV N.length F)) := by
  obtain ⟨oc, od, dV, kV, doc, pm, an, ct, osl, rfl, lk, hcd⟩ := D.ex
  refine fn_of lk hcd S (fun vs H Q E h => h.1.trans hn.symm) fun A outer s H vs Q E hr hsp => ?_
  refine ⟨_, (hbody A outer s H E hr).nox, ?_⟩
  obtain ⟨hl, a, vs', O, ds, rw', ws, Qd, e1, e2, e3, e4, e5, e6, e7, e8, hF, kk⟩ := hsp
  have rp := wrep_start (N := N) hl (by omega) e1 e2 e3 e4 e6 e7 e8
  have hs : (L2.start N vs)[0]? = some (some (V.ref a)) := by rw [e1]; exact start_get rfl
  refine ⟨a, fun b => if b = a then none else H b, O, fun _ => none, (Slot.no :: (ds.map Slot.dat ++ List.replicate (N.length - 1 - ds.length) Slot.no)), _, ⟨O, fun _ z => z, ⟨by simp, rw', e5, rp⟩, hs, fun _ _ z => (nomatch z)⟩, hF, fun en' σ' H' hq _ => ?_, ⟨fun d v en' σ' H' hq r' q => ?_, fun z => nomatch z⟩⟩
  · obtain ⟨_, z, _⟩ := hq
    cases z
  · obtain ⟨d', z, hq⟩ := hq
    cases z
    obtain ⟨O', s1, r2, hA, _⟩ := r'
    obtain ⟨hl2, rw2, hr2, rp2⟩ := r2
    obtain ⟨a', ws2, p1, p2, p3, p4, p5⟩ := rp2.own 0 rw2 (by rw [List.getElem?_set_self hl2])
    rw [hA] at p1
    cases p1
    refine kk d v H' rw2 ws2 hq hr2 p4 (DpAll.mono (hide_sub s1) p5) (fun b o hb e => ?_) rp2.tabs q
    exact rp2.ext b o (by show (if b = a then none else H b) = some o; rw [if_neg hb]; exact e)
theorem v_end {X : Cx} {ρ : Nat} {rest : List Stmt} {G : En → Option Fl} (h : DSs X Ts rest G) : VSs X Ts ρ true rest (lEnd ρ G) := PSs.imp h fun D σ H ⟨a, He, O₀, Vz, en, Q, ⟨O, s1, ⟨hl, rw, hr, rp⟩, hA, xv⟩, hF, k, l⟩ => by
  obtain ⟨b, h1, h2⟩ := hF rw hr
  exact ⟨He, [], fun _ => none, _, _, ⟨O, fun _ z => (nomatch z), fun _ z => (nomatch z), rp, fun _ _ z => (nomatch z)⟩, h1, fun v H' _ _ q => by cases q; exact l.2 rfl b H' h2⟩
theorem DF.okVL {x qual : Str} {st st1 : Stmt} {rest : List Stmt} {f : Addr} {fd : FuncData} {cdv : Value} {N : List Str} {sc : Str} {k ρ : Nat} {f1 : En → Option PyData} {F : LF} (D : DF K x qual st f fd cdv) (S : FnScope N [sc] (defScope st)) (hN : 1 ≤ N.length) (hb : defBody st = st1 :: rest) (hρ : ρ < N.length)
    (h1 : ∀ (A : Around) (outer : List Env) (s : Shared) (H : Hp) (E : XK), Room k (A.deeper (envOfC qual (defScope st) s.heap.objs.size f cdv)) → DS (cxOf CX0 P w K mg base N qual (defScope st) f cdv A outer s H E).nox Ts st1 (sOwn ρ f1))
    (h2 : ∀ (A : Around) (outer : List Env) (s : Shared) (H : Hp) (E : XK), Room k (A.deeper (envOfC qual (defScope st) s.heap.objs.size f cdv)) → VSs (cxOf CX0 P w K mg base N qual (defScope st) f cdv A outer s H E).nox Ts ρ true rest F)
    (hF : ∀ ns : List Int, ns.length ≤ 63 → ∃ rw, RowOk rw ∧ f1 (lawEn N.length ns) = some (.list rw) ∧ ∀ en', (∃ rw', en' = (lawEn N.length ns).set ρ (.own rw')) → F en' fun r => r = .rt (.bool true)) :
    FnOk P w K mg base CX0 (k + 1) f fd [sc] (spLaw K Ts) := by
  obtain ⟨oc, od, dV, kV, doc, pm, an, ct, osl, rfl, lk, hcd⟩ := D.ex
  refine fn_of lk hcd S (fun vs H Q E ⟨a, ns, h, _⟩ => by rw [h]; rfl) fun A outer s H vs Q E hr hsp => ?_
  rw [hb]
  refine ⟨_, (pss_cons (h1 A outer s H E hr) (h2 A outer s H E hr)).nox, ?_⟩
  obtain ⟨a, ns, rfl, hS, hns, ht, kk⟩ := hsp
  obtain ⟨rw, hrw, hf1, hFF⟩ := hF ns hns
  have hlen : (lawEn N.length ns).length = N.length := by simp [lawEn]; omega
  have rp : Rep K Ts H [] (L2.start N [.ref a]) H (lawEn N.length ns) := by
    have noX : ∀ {i : Nat} {x : Slot}, (lawEn N.length ns)[i + 1]? = some x → x = Slot.no := fun {i x} h => by
      unfold lawEn at h
      rw [List.getElem?_cons_succ, List.getElem?_replicate] at h
      split at h <;> cases h
      rfl
    refine ⟨by rw [hlen]; simp [L2.start]; omega, fun i d h => ?_, fun i es h => ?_, fun i j es es' a h => ?_, fun _ z => (nomatch z), Xt.refl H, ht⟩
    · cases i with
      | zero =>
        cases h
        exact ⟨.ref a, start_get rfl, .lst (sqL_mono (fun o n e => hide_of (fun z => nomatch z) e) hS) (DpAll.of_ints ns)⟩
      | succ i => exact absurd (noX h) (fun z => nomatch z)
    · cases i with
      | zero => cases h
      | succ i => exact absurd (noX h) (fun z => nomatch z)
    · cases i with
      | zero => cases h
      | succ i => exact absurd (noX h) (fun z => nomatch z)
  refine ⟨H, [], fun _ => none, lawEn N.length ns, .nx ((lawEn N.length ns).set ρ (.own rw)), ⟨[], fun _ z => (nomatch z), fun _ z => (nomatch z), rp, fun _ _ z => (nomatch z)⟩, ?_, fun σ' H' r' => ?_⟩
  · unfold sOwn
    rw [hf1]
    show (if ρ < (lawEn N.length ns).length then _ else _) = _
    rw [if_pos (by rw [hlen]; exact hρ)]
  · obtain ⟨O, a1, a2, rp', _⟩ := r'
    obtain ⟨aa, vs2, p1, _⟩ := rp'.own ρ rw (by rw [List.getElem?_set_self (by rw [hlen]; exact hρ)])
    refine ⟨aa, H, [], fun _ => none, (lawEn N.length ns).set ρ (.own rw), _, ⟨O, fun _ z => (nomatch z), ⟨by rw [List.length_set, hlen]; exact hρ, rw, hrw, by rw [List.set_set]; exact rp'⟩, p1, fun _ _ z => (nomatch z)⟩, hFF _ ⟨rw, rfl⟩, fun en' σ2 H2 hq => ?_, ⟨fun d v en' σ2 H2 hq _ q => ?_, fun _ b H2 hq => ?_⟩⟩
    · cases hq
    · cases hq
      cases q
      exact kk H2
    · cases hq
      exact kk H2
end
section
variable {ρ n : Nat} {F G : WF}
def MnA (F : En → (List PyData → Prop) → Prop) : Prop := ∀ en Q Q', (∀ d, Q d → Q' d) → F en Q → F en Q'
def McC (c : List PyData → (PyData → Prop) → Prop) : Prop := ∀ ds Q Q', (∀ d, Q d → Q' d) → c ds Q → c ds Q'
theorem mn_p {f : En → Option PyData} : Mn (wP ρ f) := fun en Q Q' h ⟨d, a, b⟩ => ⟨d, a, h _ b⟩
theorem mna_nil : MnA wNil := fun en Q Q' h a => h _ a
theorem mna_cons {Gs : En → (List PyData → Prop) → Prop} (hF : Mn F) (hG : MnA Gs) : MnA (wCons F Gs) := fun en Q Q' h a => hF en _ _ (fun x hx => hG en _ _ (fun xs hxs => h _ hxs) hx) a
theorem mn_draw {c : List PyData → (PyData → Prop) → Prop} {Gs : En → (List PyData → Prop) → Prop} (hc : McC c) (hG : MnA Gs) : Mn (wDraw n c Gs) := fun en Q Q' h a => hG en _ _ (fun ds ⟨h1, h2⟩ => ⟨h1, hc ds _ _ h h2⟩) a
theorem mn_2 {g : PyData → PyData → Option PyData} (hF : Mn F) (hG : Mn G) : Mn (w2 g F G) := fun en Q Q' h a => hF en _ _ (fun x hx => hG en _ _ (fun y ⟨d, h1, h2⟩ => ⟨d, h1, h _ h2⟩) hx) a
theorem mn_lst {Gs : En → (List PyData → Prop) → Prop} (hG : MnA Gs) : Mn (wLst Gs) := fun en Q Q' h a => hG en _ _ (fun ds ⟨h1, h2⟩ => ⟨h1, h _ h2⟩) a
theorem mni_range (hF : Mn F) : MnI (wRange1 F) := fun en Q Q' h a => hF en _ _ (fun d ⟨j, h1, h2, h3, h4⟩ => ⟨j, h1, h2, h3, h _ h4⟩) a
theorem mc_taken : McC cTaken := fun ds Q Q' h ⟨m, h0, h1, h2, h3⟩ => ⟨m, h0, h1, h2, fun r a b => h _ (h3 r a b)⟩
theorem mc_pick : McC cPick := fun ds Q Q' h ⟨es, h0, h1, h2, h3⟩ => ⟨es, h0, h1, h2, fun d hd => h _ (h3 d hd)⟩
inductive All2 {α β : Type} (P : α → β → Prop) : List α → List β → Prop
  | nil : All2 P [] []
  | cons {x : α} {y : β} {xs : List α} {ys : List β} : P x y → All2 P xs ys → All2 P (x :: xs) (y :: ys)
theorem All2.len {α β : Type} {P : α → β → Prop} : ∀ {xs : List α} {ys : List β}, All2 P xs ys → ys.length = xs.length
  | _, _, .nil => rfl
  | _, _, .cons _ t => by rw [List.length_cons, List.length_cons, t.len]
theorem All2.all {α β : Type} {P : α → β → Prop} {R : β → Prop} (h : ∀ x y, P x y → R y) : ∀ {xs : List α} {ys : List β}, All2 P xs ys → ∀ y ∈ ys, R y
  | _, _, .nil => fun _ z => nomatch z
  | _, _, .cons a t => fun y hy => (List.mem_cons.mp hy).elim (fun e => e ▸ h _ _ a) (fun m => t.all h y m)
theorem wlc_all {α β : Type} {b : PyData → En → Option En} {F : WF} {en : En} {ea : α → PyData} {eb : β → PyData} {P : α → β → Prop} (hb : ∀ x, ∃ e1, b (ea x) en = some e1 ∧ ∀ Q : PyData → Prop, (∀ y, P x y → Q (eb y)) → F e1 Q) :
    ∀ (xs : List α) (Q : List PyData → Prop), (∀ ys : List β, All2 P xs ys → Q (ys.map eb)) → wlcGo b wYes F en (xs.map ea) Q
  | [], Q, h => h [] .nil
  | x :: r, Q, h => by
    obtain ⟨e1, h1, h2⟩ := hb x
    refine ⟨e1, h1, ?_⟩
    refine (show (if true = true then F e1 (fun y => wlcGo b wYes F en (r.map ea) fun o => Q (y :: o)) else wlcGo b wYes F en (r.map ea) Q) from ?_)
    rw [if_pos rfl]
    exact h2 _ fun y hy => wlc_all hb r _ fun ys hys => h (y :: ys) (.cons hy hys)
end
section
variable {K : PySem.W.Frag} {x qual : Str} {st : Stmt} {f : Addr} {fd : FuncData}
theorem df_of {dvs : List V} (F : FunD K x qual (defArgs st) (defBody st) (defScope st) dvs [] f fd) : ∃ cdv, DF K x qual st f fd cdv := by
  obtain ⟨oc, od, dV, kV, doc, pm, an, cdv, ct, osl, rfl, lk, hcd, hD, _⟩ := F.ex
  exact ⟨cdv, df_mk lk hcd F.kp⟩
theorem df_gen {dvs : List V} (F : FunD K x qual (defArgs st) (defBody st) (defScope st) dvs [] (He.ga K x) fd) : DF K x qual st (He.ga K x) fd (.ref (He.codeOf K (x, none))) := by
  obtain ⟨oc, od, dV, kV, doc, pm, an, cdv, ct, osl, rfl, lk, hcd, hD, _⟩ := F.ex
  obtain ⟨c, rfl⟩ := He.codeIn_ref hcd
  have e1 : He.codeOf K (x, none) = c := He.codeOf_eq (p := (x, none)) lk rfl
  rw [e1]
  exact df_mk lk hcd F.kp
end
structure TfOk (h : Heap) (K : PySem.W.Frag) (cs : List (Addr × Addr)) : Prop where
  empty : ∀ p ∈ cs, h.get? p.2 = some { cls := .none, data := .fields #[] }
  out : ∀ p ∈ cs, K.lookup p.2 = none
  hd : ∀ p ∈ cs, PySem.W.CodeHd h p.1 p.2
theorem tf_ok {fa : List He.Fa} {fn : List He.DefD} {ts : List He.Tab} {tf : List He.Defn} {ex : PySem.W.Frag → Bool} {w : World} {h : Heap} {K : PySem.W.Frag} (X : K.In h) (c : He.SaysX fa fn ts tf ex w h K) : TfOk h K (tf.map (He.cT K)) :=
  ⟨fun p hp => by obtain ⟨a, ha, rfl⟩ := List.mem_map.mp hp; exact c.empty a ha, fun p hp => by obtain ⟨a, ha, rfl⟩ := List.mem_map.mp hp; exact c.out a ha, fun p hp => by obtain ⟨a, ha, rfl⟩ := List.mem_map.mp hp; exact PySem.W.codeHd_of_K X (c.hd a ha)⟩
theorem end_atL {l : PySem.W.OpenLaw} {w : World} {K : PySem.W.Frag} {h : Heap} {mg : Str → Option Value} {fa : Addr} {k : Nat} {x : Str} {fd : FuncData} {cs : List (Addr × Addr)} (gs : List Addr) (ls : List (Addr × Str)) (hg : ∀ P ∈ gs, ∃ p ∈ cs, p.2 = P) (hl : ∀ P ∈ ls, ∃ p ∈ cs, p.2 = P.1) (hd : ∀ P ∈ ls, P.1 ∉ gs ∧ ∀ Q ∈ ls, Q.1 = P.1 → Q = P) (T : TfOk h K cs)
    (hb : ∀ (s : Shared) (us : List Value), us.length = [x].length → BindsTo s fd ⟨us, []⟩ ([x].zip us))
    (hF : ∀ base : Heap, K.In base → base.Ns mainGlobals mg → (∀ p ∈ cs, LamX.TabB base mg p.1 p.2) → FnOk l.prog w K mg base CX0 k fa fd [x] (spLaw K ⟨gs, ls⟩)) : LamX.LawAtS l w K CX0 k 63 x mg fa h :=
  ⟨fd, cs, spLaw K ⟨gs, ls⟩, T.empty, T.out, T.hd, fun s u => hb s [u] rfl, fun H a ns hl' _ hT hS => ⟨a, ns, rfl, hS, hl', ⟨fun P hP => by
    obtain ⟨p, hp, rfl⟩ := hg P hP
    exact ⟨#[], hT p hp, by simp [TriplesOk]⟩, fun P hP => by
    obtain ⟨p, hp, e⟩ := hl P hP
    exact LamX.TabS.nil (by rw [← e]; exact hT p hp), hd⟩, fun _ => rfl⟩, hF⟩
theorem end_at2 {l : PySem.W.OpenLaw} {w : World} {K : PySem.W.Frag} {h : Heap} {mg : Str → Option Value} {fa : Addr} {k : Nat} {x : Str} {fd : FuncData} {tg tl : List He.Defn} (hd : ∀ P ∈ lsOf K tl, P.1 ∉ (tg.map (He.cT K)).map (·.2) ∧ ∀ Q ∈ lsOf K tl, Q.1 = P.1 → Q = P) (T : TfOk h K ((tg ++ tl).map (He.cT K)))
    (hb : ∀ (s : Shared) (us : List Value), us.length = [x].length → BindsTo s fd ⟨us, []⟩ ([x].zip us))
    (hF : ∀ base : Heap, K.In base → base.Ns mainGlobals mg → (∀ p ∈ (tg ++ tl).map (He.cT K), LamX.TabB base mg p.1 p.2) → FnOk l.prog w K mg base CX0 k fa fd [x] (spLaw K ⟨(tg.map (He.cT K)).map (·.2), lsOf K tl⟩)) : LamX.LawAtS l w K CX0 k 63 x mg fa h :=
  end_atL _ _ (fun P hP => by
    obtain ⟨p, hp, rfl⟩ := List.mem_map.mp hP
    exact ⟨p, by rw [List.map_append]; exact List.mem_append_left _ hp, rfl⟩) (fun P hP => by
    obtain ⟨d, hd, rfl⟩ := List.mem_map.mp hP
    exact ⟨He.cT K d, List.mem_map_of_mem (List.mem_append_right _ hd), rfl⟩) hd T hb hF
section
variable {X : Cx} {Ts : TsT} {pos : Pos}
def wAnd (t u : En → (Bool → Prop) → Prop) : En → (Bool → Prop) → Prop := fun en Q => t en fun b => if b = true then u en Q else Q false
theorem wt_and {ρ : Nat} {a b : Expr} {t u : En → (Bool → Prop) → Prop} (ha : WT X Ts ρ a t) (hb : WT X Ts ρ b u) : WT X Ts ρ (.BoolOp .And [a, b] pos) (wAnd t u) :=
  PT.imp ((pw_and ha (pw_and1 hb)).pt) fun σ H Q ⟨He, O, en, Qd, rp, hF, kk⟩ => ⟨He, O, en, _, rp, hF, fun c H1 hx r1 x1 => by
    cases c with
    | true => exact ⟨He, O, en, Qd, r1, hx, fun d H2 hd r2 x2 => kk d H2 hd r2 (x1.trans x2)⟩
    | false => exact kk false H1 hx r1 x1⟩
end
section
variable {α β γ δ σ : Type}
abbrev eI : Int → PyData := .int
abbrev eB : Bool → PyData := .bool
abbrev eS : Str → PyData := .str
abbrev eA : PyData → PyData := fun d => d
def eU : Unit → PyData := fun _ => .none
def eR (e : α → PyData) (l : List α) : PyData := .tuple (l.map e)
def eL (e : α → PyData) (l : List α) : PyData := .list (l.map e)
def e0 : Unit → PyData := fun _ => .tuple []
def e1 (a : α → PyData) (p : α) : PyData := .tuple [a p]
def e2 (a : α → PyData) (b : β → PyData) (p : α × β) : PyData := .tuple [a p.1, b p.2]
def e3 (a : α → PyData) (b : β → PyData) (c : γ → PyData) (p : α × β × γ) : PyData := .tuple [a p.1, b p.2.1, c p.2.2]
def e4 (a : α → PyData) (b : β → PyData) (c : γ → PyData) (d : δ → PyData) (p : α × β × γ × δ) : PyData := .tuple [a p.1, b p.2.1, c p.2.2.1, d p.2.2.2]
def mulO (x y : Int) : Option Int := if cMul x y = true then some (x * y) else none
def divO (x y : Int) : Option Int := if cDiv x y = true then some (x / y) else none
def modO (x y : Int) : Option Int := if cMod x y = true then some (x.fmod y) else none
def catO (x y : List α) : Option (List α) := if x.length + y.length ≤ 1000000 then some (x ++ y) else none
def repO (l : List α) (k : Int) : Option (List α) := if l.length ≠ 0 ∧ 1 ≤ k ∧ k ≤ 1000 ∧ l.length ≤ 1000 then some (List.replicate k.toNat l).flatten else none
def eqO (x y : PyData) : Option Bool := if (SeqAt.shaped x && SeqAt.shaped y) = true then some (PyData.eqv x y) else none
def max2 (x y : Int) : Int := if y > x then y else x
def min2 (x y : Int) : Int := if y < x then y else x
def abs1 (x : Int) : Int := if x < 0 then -x else x
def cutT (l : List α) (lo hi : Option Int) : List α := (l.drop (HT.sIx l.length 0 lo)).take (HT.sIx l.length l.length hi - HT.sIx l.length 0 lo)
def dispO (l : List α) : Option (List α) := if l.length ≤ 64 then some l else none
def iteO (c : Option Bool) (a b : Option α) : Option α := c.bind fun k => match k with
  | true => a
  | false => b
def andO (c d : Option Bool) : Option Bool := iteO c d (some false)
def orO (c d : Option Bool) : Option Bool := iteO c (some true) d
def compO (T : α → Option Bool) (B : α → Option β) : List α → Option (List β)
  | [] => some []
  | x :: r => (T x).bind fun k => match k with
    | true => (B x).bind fun y => (compO T B r).bind fun ys => some (y :: ys)
    | false => compO T B r
theorem compO_cons (T : α → Option Bool) (B : α → Option β) (x : α) (r : List α) : compO T B (x :: r) = (T x).bind fun k => match k with
    | true => (B x).bind fun y => (compO T B r).bind fun ys => some (y :: ys)
    | false => compO T B r := rfl
def compL (T : α → Option Bool) (B : α → Option β) (l : List α) : Option (List β) := if l.length ≤ 1000000 then compO T B l else none
def allO (ev : Bool) (B : α → Option Bool) : List α → Option Bool
  | [] => some ev
  | x :: r => (B x).bind fun k => if k = ev then allO ev B r else some k
theorem allO_cons (ev : Bool) (B : α → Option Bool) (x : α) (r : List α) : allO ev B (x :: r) = (B x).bind fun k => if k = ev then allO ev B r else some k := rfl
def appO (l : List α) (x : α) : Option (List α) := if l.length ≤ 1000000 then some (l ++ [x]) else none
def foldO (Bd : α → σ → Option σ) : List α → σ → Option σ
  | [], s => some s
  | x :: r, s => (Bd x s).bind (foldO Bd r)
def thenJ (K : σ → Option (β ⊕ γ)) (o : β ⊕ σ) : Option (β ⊕ γ) := match o with
  | .inl v => some (.inl v)
  | .inr s => K s
def foldJ (Bd : α → σ → Option (β ⊕ σ)) : List α → σ → Option (β ⊕ σ)
  | [], s => some (.inr s)
  | x :: r, s => (Bd x s).bind (thenJ (foldJ Bd r))
def whileO (T : σ → Option Bool) (Bd : σ → Option σ) : Nat → σ → Option σ
  | 0, _ => none
  | n + 1, s => (T s).bind fun k => match k with
    | true => (Bd s).bind (whileO T Bd n)
    | false => some s
def outJ (K : σ → Option β) (o : β ⊕ σ) : Option β := match o with
  | .inl v => some v
  | .inr s => K s
end
structure Enc {α : Type} [DecidableEq α] (k : Nat) (e : α → PyData) : Prop where
  lay : ∀ a, PyData.canLay0 (e a) = true
  dep : ∀ a, PyData.depth (e a) ≤ k
  eq : ∀ a b, PyData.eqv (e a) (e b) = decide (a = b)
theorem Enc.sh {α : Type} [DecidableEq α] {k : Nat} {e : α → PyData} (E : Enc k e) (hk : k ≤ 64) (a : α) : SeqAt.shaped (e a) = true := by
  unfold SeqAt.shaped
  rw [E.lay]
  have := E.dep a
  rw [decide_eq_true (by omega)]
  rfl
section
variable {α β γ δ σ : Type} {en : En} {f g h : En → Option PyData} {ea : α → PyData} {eb : β → PyData} {ec : γ → PyData} {ed : δ → PyData} {A : Option α} {B : Option β} {C : Option γ} {D : Option δ}
theorem t_var {i : Nat} {e : α → PyData} {v : α} (h : en[i]? = some (.dat (e v))) : fVar i en = (some v).map e := by
  unfold fVar
  rw [h]
  rfl
theorem t_own {i : Nat} {e : α → PyData} {v : List α} (h : en[i]? = some (.own (v.map e))) : fOwn i en = (some v).map (eL e) := by
  unfold fOwn
  rw [h]
  rfl
theorem t_int {i : Int} : fLit (.int i) en = (some i).map eI := rfl
theorem t_bl {b : Bool} : fLit (.bool b) en = (some b).map eB := rfl
theorem t_f2 {G : PyData → PyData → Option PyData} {h : α → β → Option γ} (hG : ∀ x y, G (ea x) (eb y) = (h x y).map ec) (pa : f en = A.map ea) (pb : g en = B.map eb) : f2 G f g en = (A.bind fun x => B.bind fun y => h x y).map ec := by
  unfold f2
  rw [pa, pb]
  cases A with
  | none => rfl
  | some a => cases B with
    | none => rfl
    | some b => exact hG a b
theorem t_f1 {G : PyData → Option PyData} {h : α → Option γ} (hG : ∀ x, G (ea x) = (h x).map ec) (pa : f en = A.map ea) : f1 G f en = (A.bind h).map ec := by
  unfold f1
  rw [pa]
  cases A with
  | none => rfl
  | some a => exact hG a
theorem g_add (x y : Int) : gPlus (eI x) (eI y) = (some (x + y)).map eI := rfl
theorem g_sub (x y : Int) : (gI fun i j => .int (i - j)) (eI x) (eI y) = (some (x - y)).map eI := rfl
theorem g_mul (x y : Int) : gTimes (eI x) (eI y) = (mulO x y).map eI := by
  show (if cMul x y = true then some (PyData.int (x * y)) else none) = _
  unfold mulO
  split <;> rfl
theorem g_div (x y : Int) : (gIc cDiv fun i j => .int (i / j)) (eI x) (eI y) = (divO x y).map eI := by
  show (if cDiv x y = true then some (PyData.int (x / y)) else none) = _
  unfold divO
  split <;> rfl
theorem g_mod (x y : Int) : (gIc cMod fun i j => .int (i.fmod j)) (eI x) (eI y) = (modO x y).map eI := by
  show (if cMod x y = true then some (PyData.int (x.fmod y)) else none) = _
  unfold modO
  split <;> rfl
theorem g_addR {e : α → PyData} (x y : List α) : gPlus (eR e x) (eR e y) = (catO x y).map (eR e) := by
  show (if (x.map e).length + (y.map e).length ≤ 1000000 then some (PyData.tuple (x.map e ++ y.map e)) else none) = _
  unfold catO eR
  rw [List.length_map, List.length_map]
  split
  · simp
  · rfl
theorem g_addL {e : α → PyData} (x y : List α) : gPlus (eL e x) (eL e y) = (catO x y).map (eL e) := by
  show (if (x.map e).length + (y.map e).length ≤ 1000000 then some (PyData.list (x.map e ++ y.map e)) else none) = _
  unfold catO eL
  rw [List.length_map, List.length_map]
  split
  · simp
  · rfl
theorem g_repR {e : α → PyData} (x : List α) (k : Int) : gTimes (eR e x) (eI k) = (repO x k).map (eR e) := by
  show (if x.map e ≠ [] ∧ 1 ≤ k ∧ k ≤ 1000 ∧ (x.map e).length ≤ 1000 then some (PyData.tuple (List.replicate k.toNat (x.map e)).flatten) else none) = _
  unfold repO eR
  rw [List.length_map]
  have h1 : (x.map e ≠ []) ↔ (x.length ≠ 0) := by cases x <;> simp
  by_cases h : x.length ≠ 0 ∧ 1 ≤ k ∧ k ≤ 1000 ∧ x.length ≤ 1000
  · rw [if_pos h, if_pos ⟨h1.mpr h.1, h.2⟩]
    simp [List.map_flatten, List.map_replicate]
  · rw [if_neg h, if_neg (fun z => h ⟨h1.mp z.1, z.2⟩)]
    rfl
theorem g_lt (x y : Int) : (gI fun i j => .bool (decide (i < j))) (eI x) (eI y) = (some (decide (x < y))).map eB := rfl
theorem g_gt (x y : Int) : (gI fun i j => .bool (decide (j < i))) (eI x) (eI y) = (some (decide (y < x))).map eB := rfl
theorem g_ge (x y : Int) : (gI fun i j => .bool (decide (j ≤ i))) (eI x) (eI y) = (some (decide (y ≤ x))).map eB := rfl
theorem g_max2 (x y : Int) : (gI fun i j => .int (if j > i then j else i)) (eI x) (eI y) = (some (max2 x y)).map eI := rfl
theorem g_min2 (x y : Int) : (gI fun i j => .int (if j < i then j else i)) (eI x) (eI y) = (some (min2 x y)).map eI := rfl
theorem g_gcd (x y : Int) : (gI fun i j => .int ((Nat.gcd i.natAbs j.natAbs : Nat) : Int)) (eI x) (eI y) = (some ((Nat.gcd x.natAbs y.natAbs : Nat) : Int)).map eI := rfl
theorem g_eq [DecidableEq α] {e : α → PyData} {n : Nat} (E : Enc n e) (hn : Nat.ble n 64 = true) (x y : α) : gEq (e x) (e y) = (some (decide (x = y))).map eB := by
  unfold gEq
  rw [if_pos (by rw [E.sh (Nat.le_of_ble_eq_true hn), E.sh (Nat.le_of_ble_eq_true hn)]; rfl), E.eq]
  rfl
theorem g_ne [DecidableEq α] {e : α → PyData} {n : Nat} (E : Enc n e) (hn : Nat.ble n 64 = true) (x y : α) : gNe (e x) (e y) = (some (!decide (x = y))).map eB := by
  unfold gNe
  rw [if_pos (by rw [E.sh (Nat.le_of_ble_eq_true hn), E.sh (Nat.le_of_ble_eq_true hn)]; rfl), E.eq]
  rfl
theorem atI_map {e : α → PyData} (l : List α) (i : Int) : atI (l.map e) i = (atI l i).map e := by
  unfold atI
  rw [List.length_map]
  cases ixN l.length i with
  | none => rfl
  | some j => simp
theorem g_ixR {e : α → PyData} (l : List α) (i : Int) : gIx (eR e l) (eI i) = (atI l i).map e := atI_map l i
theorem g_ixL {e : α → PyData} (l : List α) (i : Int) : gIx (eL e l) (eI i) = (atI l i).map e := atI_map l i
theorem t_ixc {k : Int} {pr : α → β} (h : ∀ p, gIx (ea p) (.int k) = some (eb (pr p))) (pa : f en = A.map ea) : fIx f (fLit (.int k)) en = (A.bind fun p => some (pr p)).map eb := by
  unfold fIx f2
  rw [pa]
  cases A with
  | none => rfl
  | some a => exact h a
theorem t_part {o : Option Int} (p : f en = o.map eI) : fPart f en = o.bind fun i => some (some i) := by
  unfold fPart
  rw [p]
  cases o <;> rfl
theorem t_nopart : fNoPart en = some none := rfl
theorem cutD_map {e : α → PyData} (l : List α) (lo hi : Option Int) : cutD (l.map e) lo hi = (cutT l lo hi).map e := by
  unfold cutD cutT
  rw [List.length_map, List.map_take, List.map_drop]
theorem t_cut {fl fh : En → Option (Option Int)} {L H : Option (Option Int)} {e : List α → PyData} {A : Option (List α)} (hG : ∀ l lo hi, gCut (e l) lo hi = some (e (cutT l lo hi))) (pa : f en = A.map e) (pl : fl en = L) (ph : fh en = H) :
    fCut f fl fh en = (A.bind fun l => L.bind fun lo => H.bind fun hi => some (cutT l lo hi)).map e := by
  unfold fCut
  rw [pa, pl, ph]
  cases A with
  | none => rfl
  | some l => cases L with
    | none => rfl
    | some lo => cases H with
      | none => rfl
      | some hi => exact hG l lo hi
theorem g_cutR {e : α → PyData} (l : List α) (lo hi : Option Int) : gCut (eR e l) lo hi = some (eR e (cutT l lo hi)) := by
  show some (PyData.tuple (cutD (l.map e) lo hi)) = _
  rw [cutD_map]
  rfl
theorem g_cutL {e : α → PyData} (l : List α) (lo hi : Option Int) : gCut (eL e l) lo hi = some (eL e (cutT l lo hi)) := by
  show some (PyData.list (cutD (l.map e) lo hi)) = _
  rw [cutD_map]
  rfl
theorem t_tup1 (pa : f en = A.map ea) : fTup (fCons f fNil) en = A.map (e1 ea) := by
  unfold fTup fCons fNil
  rw [pa]
  cases A <;> rfl
theorem t_tup2 (pa : f en = A.map ea) (pb : g en = B.map eb) : fTup (fCons f (fCons g fNil)) en = (A.bind fun x => B.bind fun y => some (x, y)).map (e2 ea eb) := by
  unfold fTup fCons fNil
  rw [pa, pb]
  cases A <;> cases B <;> rfl
theorem t_tup3 (pa : f en = A.map ea) (pb : g en = B.map eb) (pc : h en = C.map ec) : fTup (fCons f (fCons g (fCons h fNil))) en = (A.bind fun x => B.bind fun y => C.bind fun z => some (x, y, z)).map (e3 ea eb ec) := by
  unfold fTup fCons fNil
  rw [pa, pb, pc]
  cases A <;> cases B <;> cases C <;> rfl
theorem t_tup4 {k : En → Option PyData} (pa : f en = A.map ea) (pb : g en = B.map eb) (pc : h en = C.map ec) (pd : k en = D.map ed) : fTup (fCons f (fCons g (fCons h (fCons k fNil)))) en = (A.bind fun x => B.bind fun y => C.bind fun z => D.bind fun w => some (x, y, z, w)).map (e4 ea eb ec ed) := by
  unfold fTup fCons fNil
  rw [pa, pb, pc, pd]
  cases A <;> cases B <;> cases C <;> cases D <;> rfl
theorem t_nil {e : α → PyData} : fNil en = (some ([] : List α)).map (List.map e) := rfl
theorem t_cons {gs : En → Option (List PyData)} {L : Option (List α)} (pa : f en = A.map ea) (pr : gs en = L.map (List.map ea)) : fCons f gs en = (A.bind fun x => L.bind fun xs => some (x :: xs)).map (List.map ea) := by
  unfold fCons
  rw [pa, pr]
  cases A <;> cases L <;> rfl
theorem t_tupR {gs : En → Option (List PyData)} {L : Option (List α)} (pr : gs en = L.map (List.map ea)) : fTup gs en = (L.bind dispO).map (eR ea) := by
  unfold fTup
  rw [pr]
  cases L with
  | none => rfl
  | some l =>
    show (if (l.map ea).length ≤ 64 then some (PyData.tuple (l.map ea)) else none) = (dispO l).map _
    unfold dispO
    rw [List.length_map]
    split <;> rfl
theorem t_lstL {gs : En → Option (List PyData)} {L : Option (List α)} (pr : gs en = L.map (List.map ea)) : fLst gs en = (L.bind dispO).map (eL ea) := by
  unfold fLst
  rw [pr]
  cases L with
  | none => rfl
  | some l =>
    show (if (l.map ea).length ≤ 64 then some (PyData.list (l.map ea)) else none) = (dispO l).map _
    unfold dispO
    rw [List.length_map]
    split <;> rfl
theorem g_lenR {e : α → PyData} (l : List α) : gLen (eR e l) = (some (l.length : Int)).map eI := by
  show some (PyData.int ((l.map e).length : Nat)) = _
  rw [List.length_map]
  rfl
theorem g_sumR (l : List Int) : gSum (eR eI l) = (some l.sum).map eI := by
  show Option.map _ (intsOf (l.map PyData.int)) = _
  rw [intsOf_map]
  rfl
theorem g_sumL (l : List Int) : gSum (eL eI l) = (some l.sum).map eI := by
  show Option.map _ (intsOf (l.map PyData.int)) = _
  rw [intsOf_map]
  rfl
theorem g_tupL {e : α → PyData} (l : List α) : gTuple (eL e l) = (some l).map (eR e) := rfl
theorem g_abs (x : Int) : gAbs (eI x) = (some (abs1 x)).map eI := rfl
theorem g_int (x : Int) : gInt (eI x) = (some x).map eI := rfl
theorem g_neg (x : Int) : gNeg (eI x) = (some (-x)).map eI := rfl
theorem t_isi {q : PyData → Bool} {b : α → Bool} (hq : ∀ x, q (ea x) = b x) (pa : f en = A.map ea) : fIsi q f en = (A.bind fun x => some (b x)).map eB := by
  unfold fIsi f1
  rw [pa]
  cases A with
  | none => rfl
  | some a => show some (PyData.bool (q (ea a))) = _; rw [hq]; rfl
theorem t_and {P Q : Option Bool} (p : f en = P.map eB) (q : g en = Q.map eB) : fAnd f g en = (andO P Q).map eB := by
  unfold fAnd andO iteO
  rw [p]
  cases P with
  | none => rfl
  | some b => cases b with
    | true => exact q
    | false => rfl
theorem t_not {P : Option Bool} (p : f en = P.map eB) : fNot f en = (P.bind fun b => some (!b)).map eB := by
  unfold fNot
  rw [p]
  cases P <;> rfl
theorem t_T {P : Option Bool} (p : f en = P.map eB) : fT f en = P := by
  unfold fT
  rw [p]
  cases P <;> rfl
section
variable {k l : En → Option Bool} {P Q : Option Bool}
theorem t_kand (p : k en = P) (q : l en = Q) : kAnd k l en = andO P Q := by
  unfold kAnd andO iteO
  rw [p]
  cases P with
  | none => rfl
  | some b => cases b with
    | true => exact q
    | false => rfl
theorem t_kor (p : k en = P) (q : l en = Q) : kOr k l en = orO P Q := by
  unfold kOr orO iteO
  rw [p]
  cases P with
  | none => rfl
  | some b => cases b with
    | true => rfl
    | false => exact q
theorem t_knot (p : k en = P) : kNot k en = P.bind fun b => some (!b) := by
  unfold kNot
  rw [p]
  cases P <;> rfl
theorem t_yes : kYes en = some true := rfl
theorem t_if {A B : Option α} (p : k en = P) (pa : f en = A.map ea) (pb : g en = B.map ea) : fIf k f g en = (iteO P A B).map ea := by
  unfold fIf iteO
  rw [p]
  cases P with
  | none => rfl
  | some b => cases b with
    | true => exact pa
    | false => exact pb
end
theorem t_as {u : α → β} (h : ∀ x, ea x = eb (u x)) (pa : f en = A.map ea) : f en = (A.bind fun x => some (u x)).map eb := by
  rw [pa]
  cases A with
  | none => rfl
  | some a => exact congrArg some (h a)
theorem t_chain {A B C : Option Int} (pa : f en = A.map eI) (pb : g en = B.map eI) (pc : h en = C.map eI) : fChain gLe gLe f g h en = (A.bind fun x => B.bind fun y => iteO (some (decide (x ≤ y))) (C.bind fun z => some (decide (y ≤ z))) (some false)).map eB := by
  unfold fChain
  rw [pa, pb]
  cases A with
  | none => rfl
  | some x => cases B with
    | none => rfl
    | some y =>
      rw [pc]
      have e : gLe (eI x) (eI y) = some (PyData.bool (decide (x ≤ y))) := rfl
      simp only [Option.map_some, Option.bind_some, e]
      cases decide (x ≤ y) with
      | true => cases C <;> rfl
      | false => rfl
theorem i_seq {e : α → PyData} {s : σ → PyData} {u : σ → List α} {A : Option σ} (h : ∀ x, items (s x) = some ((u x).map e)) (pa : f en = A.map s) : iSeq f en = (A.bind fun x => some (u x)).map (List.map e) := by
  unfold iSeq
  rw [pa]
  cases A with
  | none => rfl
  | some x => exact h x
theorem i_seqR {e : α → PyData} {A : Option (List α)} (pa : f en = A.map (eR e)) : iSeq f en = A.map (List.map e) := by
  unfold iSeq
  rw [pa]
  cases A <;> rfl
theorem i_seqL {e : α → PyData} {A : Option (List α)} (pa : f en = A.map (eL e)) : iSeq f en = A.map (List.map e) := by
  unfold iSeq
  rw [pa]
  cases A <;> rfl
theorem pairs_zip : ∀ (xs : List α) (ys : List β), pairs (xs.map ea) (ys.map eb) = (xs.zip ys).map (e2 ea eb)
  | [], _ => by simp [pairs]
  | _ :: _, [] => by simp [pairs]
  | x :: xs, y :: ys => by
    show PyData.tuple [ea x, eb y] :: pairs (xs.map ea) (ys.map eb) = _
    rw [pairs_zip xs ys]
    rfl
theorem i_zip {A : Option (List α)} {B : Option (List β)} {s : List α → PyData} {t : List β → PyData} (h : ∀ x y, iZip (fun _ => some (s x)) (fun _ => some (t y)) [] = some (pairs (x.map ea) (y.map eb))) (pa : f en = A.map s) (pb : g en = B.map t) : iZip f g en = (A.bind fun x => B.bind fun y => some (x.zip y)).map (List.map (e2 ea eb)) := by
  unfold iZip
  rw [pa, pb]
  cases A with
  | none => rfl
  | some x => cases B with
    | none => rfl
    | some y => exact (h x y).trans (congrArg some (pairs_zip x y))
section
variable {it : En → Option (List PyData)} {b b2 : PyData → En → Option En} {t t2 : En → Option Bool} {vs vs2 : List Nat} {T : α → Option Bool} {Bf : α → Option β} {L : Option (List α)}
theorem lcGo_eq (hb : ∀ x, ∃ e1, b (ea x) en = some e1 ∧ t e1 = T x ∧ f e1 = (Bf x).map eb) : ∀ l : List α, lcGo b t f en (l.map ea) = (compO T Bf l).map (List.map eb)
  | [] => rfl
  | x :: r => by
    obtain ⟨e1, h1, h2, h3⟩ := hb x
    have ih := lcGo_eq hb r
    show (b (ea x) en).bind _ = _
    rw [h1, Option.bind_some, h2, h3, ih, compO_cons]
    cases T x with
    | none => rfl
    | some k => cases k with
      | true =>
        show (Option.bind (Option.map eb (Bf x)) _) = _
        cases Bf x with
        | none => rfl
        | some y =>
          show Option.map _ (Option.map (List.map eb) (compO T Bf r)) = Option.map (List.map eb) ((compO T Bf r).bind _)
          cases compO T Bf r <;> rfl
      | false => rfl
theorem t_lc (hi : it en = L.map (List.map ea)) (hb : ∀ x, ∃ e1, b (ea x) (wipeE en vs) = some e1 ∧ t e1 = T x ∧ f e1 = (Bf x).map eb) : fLc it b t f vs en = (L.bind fun l => compL T Bf l).map (eL eb) := by
  unfold fLc
  rw [hi]
  cases L with
  | none => rfl
  | some l =>
    show (if (l.map ea).length ≤ 1000000 then (lcGo b t f (wipeE en vs) (l.map ea)).map PyData.list else none) = (compL T Bf l).map _
    unfold compL
    rw [List.length_map, lcGo_eq hb]
    split
    · cases compO T Bf l <;> rfl
    · rfl
theorem t_all {ev : Bool} {Bf : α → Option Bool} (hi : it en = L.map (List.map ea)) (hb : ∀ x, ∃ e1, b (ea x) (wipeE en vs) = some e1 ∧ f e1 = (Bf x).map eB) : fAll ev it b f vs en = (L.bind fun l => allO ev Bf l).map eB := by
  unfold fAll
  rw [hi]
  cases L with
  | none => rfl
  | some l =>
    show allGo ev b f (wipeE en vs) (l.map ea) = (allO ev Bf l).map eB
    clear hi
    induction l with
    | nil => rfl
    | cons x r ih =>
      obtain ⟨e1, h1, h2⟩ := hb x
      show (b (ea x) (wipeE en vs)).bind _ = _
      rw [h1, Option.bind_some, h2, allO_cons]
      cases Bf x with
      | none => rfl
      | some k =>
        show (if k = ev then allGo ev b f (wipeE en vs) (r.map ea) else some (PyData.bool k)) = Option.map eB (if k = ev then allO ev Bf r else some k)
        split
        · exact ih
        · rfl
end
section
variable {S : List PyData → Option PyData} {ζ ε : Type} {er : ζ → PyData} {k l : En → Option PyData} {ee : ε → PyData} {E : Option ε}
theorem t_call1 {N : α → Option ζ} (hS : ∀ x, S [ea x] = (N x).map er) (pa : f en = A.map ea) : fCall 1 S (fCons f fNil) en = (A.bind fun x => N x).map er := by
  unfold fCall fCons fNil
  rw [pa]
  cases A with
  | none => rfl
  | some a => exact hS a
theorem t_call2 {N : α → β → Option ζ} (hS : ∀ x y, S [ea x, eb y] = (N x y).map er) (pa : f en = A.map ea) (pb : g en = B.map eb) : fCall 2 S (fCons f (fCons g fNil)) en = (A.bind fun x => B.bind fun y => N x y).map er := by
  unfold fCall fCons fNil
  rw [pa, pb]
  cases A with
  | none => rfl
  | some a => cases B with
    | none => rfl
    | some b => exact hS a b
theorem t_call3 {N : α → β → γ → Option ζ} (hS : ∀ x y z, S [ea x, eb y, ec z] = (N x y z).map er) (pa : f en = A.map ea) (pb : g en = B.map eb) (pc : h en = C.map ec) : fCall 3 S (fCons f (fCons g (fCons h fNil))) en = (A.bind fun x => B.bind fun y => C.bind fun z => N x y z).map er := by
  unfold fCall fCons fNil
  rw [pa, pb, pc]
  cases A with
  | none => rfl
  | some a => cases B with
    | none => rfl
    | some b => cases C with
      | none => rfl
      | some c => exact hS a b c
theorem t_call4 {N : α → β → γ → δ → Option ζ} (hS : ∀ x y z u, S [ea x, eb y, ec z, ed u] = (N x y z u).map er) (pa : f en = A.map ea) (pb : g en = B.map eb) (pc : h en = C.map ec) (pd : k en = D.map ed) :
    fCall 4 S (fCons f (fCons g (fCons h (fCons k fNil)))) en = (A.bind fun x => B.bind fun y => C.bind fun z => D.bind fun u => N x y z u).map er := by
  unfold fCall fCons fNil
  rw [pa, pb, pc, pd]
  cases A with
  | none => rfl
  | some a => cases B with
    | none => rfl
    | some b => cases C with
      | none => rfl
      | some c => cases D with
        | none => rfl
        | some d => exact hS a b c d
end
end
section
variable {α β γ σ τ ζ ξ : Type}
def rtO (e : α → PyData) (A : Option α) : Option Fl := A.map fun v => .rt (e v)
def NX (r : Option Fl) (A : Option σ) (env : σ → ζ → En) : Prop := match A with
  | none => r = none
  | some s => ∃ z, r = some (.nx (env s z))
def JX (r : Option Fl) (A : Option (β ⊕ σ)) (e : β → PyData) (env : σ → ζ → En) : Prop := match A with
  | none => r = none
  | some (.inl v) => r = some (.rt (e v))
  | some (.inr s) => ∃ z, r = some (.nx (env s z))
variable {en : En} {f g h : En → Option PyData} {F G H : En → Option Fl} {ea : α → PyData} {eb : β → PyData} {ec : γ → PyData} {er : ξ → PyData} {A : Option α} {B : Option β} {C : Option γ} {k : En → Option Bool} {P : Option Bool} {i j l : Nat} {env : σ → ζ → En} {env2 : τ → ζ → En}
theorem r_ret (p : f en = A.map ea) : sRet f en = rtO ea A := by
  unfold sRet rtO
  rw [p]
  cases A <;> rfl
theorem r_seq_set {K : α → Option ξ} (p : f en = A.map ea) (hi : i < en.length) (q : ∀ x, G (en.set i (.dat (ea x))) = rtO er (K x)) : sSeq (sSet i f) G en = rtO er (A.bind K) := by
  unfold sSeq sSet bName
  rw [p]
  cases A with
  | none => rfl
  | some a =>
    show (match (if i < en.length then some (en.set i (.dat (ea a))) else none).map Fl.nx with
      | some (.nx e) => G e
      | r => r) = _
    rw [if_pos hi]
    exact q a
theorem r_seq_bind {b : PyData → En → Option En} {envb : α → En} {K : α → Option ξ} (p : f en = A.map ea) (hb : ∀ x, b (ea x) en = some (envb x)) (q : ∀ x, G (envb x) = rtO er (K x)) : sSeq (sBind b f) G en = rtO er (A.bind K) := by
  unfold sSeq sBind
  rw [p]
  cases A with
  | none => rfl
  | some a =>
    show (match (b (ea a) en).map Fl.nx with
      | some (.nx e) => G e
      | r => r) = _
    rw [hb]
    exact q a
theorem r_seq_par {K : α → β → Option ξ} (p : f en = A.map ea) (p2 : g en = B.map eb) (hi : i < en.length) (hj : j < en.length) (q : ∀ x y, G ((en.set i (.dat (ea x))).set j (.dat (eb y))) = rtO er (K x y)) : sSeq (sPar i j f g) G en = rtO er (A.bind fun x => B.bind fun y => K x y) := by
  unfold sSeq sPar bName
  rw [p, p2]
  cases A with
  | none => rfl
  | some a => cases B with
    | none => rfl
    | some b =>
      simp only [Option.map_some, Option.bind_some, hi, hj, if_true, List.length_set]
      exact q a b
theorem r_seq_own {A : Option (List α)} {K : List α → Option ξ} (p : f en = A.map (eL ea)) (hi : i < en.length) (q : ∀ x : List α, G (en.set i (.own (x.map ea))) = rtO er (K x)) : sSeq (sOwn i f) G en = rtO er (A.bind K) := by
  unfold sSeq sOwn
  rw [p]
  cases A with
  | none => rfl
  | some a =>
    show (match (if i < en.length then some (Fl.nx (en.set i (.own (a.map ea)))) else none) with
      | some (.nx e) => G e
      | r => r) = _
    rw [if_pos hi]
    exact q a
theorem r_seq_rel {a : List α} {K : Option ξ} (ho : en[i]? = some (.own (a.map ea))) (q : G (en.set i (.dat (eL ea a))) = rtO er K) : sSeq (sRel i) G en = rtO er K := by
  unfold sSeq sRel
  rw [ho]
  exact q
theorem r_seq_expr {K : Option ξ} (p : f en = A.map ea) (q : G en = rtO er K) : sSeq (sExpr f) G en = rtO er (A.bind fun _ => K) := by
  unfold sSeq sExpr
  rw [p]
  cases A with
  | none => rfl
  | some a => exact q
theorem r_seq_ifret {A K : Option ξ} (p : k en = P) (ha : F en = rtO er A) (q : G en = rtO er K) : sSeq (sIf k F sNil) G en = rtO er (iteO P A K) := by
  unfold sSeq sIf iteO
  rw [p]
  cases P with
  | none => rfl
  | some b => cases b with
    | true =>
      show (match F en with
        | some (.nx e) => G e
        | r => r) = _
      rw [ha]
      cases A <;> rfl
    | false => exact q
theorem r_seq_nx {A : Option σ} {K : σ → Option ξ} (p : NX (F en) A env) (q : ∀ s z, G (env s z) = rtO er (K s)) : sSeq F G en = rtO er (A.bind K) := by
  unfold sSeq
  cases A with
  | none =>
    have e : F en = none := p
    rw [e]
    rfl
  | some s =>
    obtain ⟨z, e⟩ := p
    rw [e]
    exact q s z
theorem r_seq_j {A : Option (ξ ⊕ σ)} {K : σ → Option ξ} (p : JX (F en) A er env) (q : ∀ s z, G (env s z) = rtO er (K s)) : sSeq F G en = rtO er (A.bind (outJ K)) := by
  unfold sSeq
  cases A with
  | none =>
    have e : F en = none := p
    rw [e]
    rfl
  | some o => cases o with
    | inl v =>
      have e : F en = some (.rt (er v)) := p
      rw [e]
      rfl
    | inr s =>
      obtain ⟨z, e⟩ := p
      rw [e]
      exact q s z
theorem n_nil {s : σ} {z : ζ} (h : en = env s z) : NX (sNil en) (some s) env := ⟨z, by rw [h]; rfl⟩
theorem n_never : NX (sNever en) (none : Option σ) env := rfl
theorem n_set {K : α → σ} (p : f en = A.map ea) (hi : i < en.length) (q : ∀ x, ∃ z, en.set i (.dat (ea x)) = env (K x) z) : NX (sSet i f en) (A.bind fun x => some (K x)) env := by
  unfold sSet bName
  rw [p]
  cases A with
  | none => exact rfl
  | some a =>
    obtain ⟨z, e⟩ := q a
    refine ⟨z, ?_⟩
    show (if i < en.length then some (en.set i (.dat (ea a))) else none).map Fl.nx = _
    rw [if_pos hi, e]
    rfl
theorem n_seq_set {K : α → Option σ} (p : f en = A.map ea) (hi : i < en.length) (q : ∀ x, NX (G (en.set i (.dat (ea x)))) (K x) env) : NX (sSeq (sSet i f) G en) (A.bind K) env := by
  unfold sSeq sSet bName
  rw [p]
  cases A with
  | none => exact rfl
  | some a =>
    show NX (match (if i < en.length then some (en.set i (.dat (ea a))) else none).map Fl.nx with
      | some (.nx e) => G e
      | r => r) (K a) env
    rw [if_pos hi]
    exact q a
theorem n_par {K : α → β → σ} (p : f en = A.map ea) (p2 : g en = B.map eb) (hi : i < en.length) (hj : j < en.length) (q : ∀ x y, ∃ z, (en.set i (.dat (ea x))).set j (.dat (eb y)) = env (K x y) z) : NX (sPar i j f g en) (A.bind fun x => B.bind fun y => some (K x y)) env := by
  unfold sPar bName
  rw [p, p2]
  cases A with
  | none => exact rfl
  | some a => cases B with
    | none => exact rfl
    | some b =>
      obtain ⟨z, e⟩ := q a b
      refine ⟨z, ?_⟩
      simp only [Option.map_some, Option.bind_some, hi, hj, if_true, List.length_set, e]
theorem n_app {v : List α} {K : List α → σ} (p : f en = A.map ea) (ho : en[i]? = some (.own (v.map ea))) (q : ∀ w : List α, ∃ z, en.set i (.own (w.map ea)) = env (K w) z) : NX (sApp i f en) (A.bind fun x => (appO v x).bind fun w => some (K w)) env := by
  unfold sApp
  rw [p]
  cases A with
  | none => exact rfl
  | some a =>
    show NX (match en[i]? with
      | some (.own ds) => if ds.length ≤ 1000000 then some (.nx (en.set i (.own (ds ++ [ea a])))) else none
      | _ => none) ((appO v a).bind fun w => some (K w)) env
    rw [ho]
    show NX (if (v.map ea).length ≤ 1000000 then some (.nx (en.set i (.own (v.map ea ++ [ea a])))) else none) _ env
    unfold appO
    rw [List.length_map]
    split
    · obtain ⟨z, e⟩ := q (v ++ [a])
      refine ⟨z, ?_⟩
      rw [← e, List.map_append]
      rfl
    · exact rfl
theorem n_seq_app {v : List α} {K : List α → Option σ} (p : f en = A.map ea) (ho : en[i]? = some (.own (v.map ea))) (q : ∀ w : List α, NX (G (en.set i (.own (w.map ea)))) (K w) env) : NX (sSeq (sApp i f) G en) (A.bind fun x => (appO v x).bind K) env := by
  unfold sSeq sApp
  rw [p]
  cases A with
  | none => exact rfl
  | some a =>
    show NX (match (match en[i]? with
      | some (.own ds) => if ds.length ≤ 1000000 then some (Fl.nx (en.set i (.own (ds ++ [ea a])))) else none
      | _ => none) with
      | some (.nx e) => G e
      | r => r) ((appO v a).bind K) env
    rw [ho]
    show NX (match (if (v.map ea).length ≤ 1000000 then some (Fl.nx (en.set i (.own (v.map ea ++ [ea a])))) else none) with
      | some (.nx e) => G e
      | r => r) _ env
    unfold appO
    rw [List.length_map]
    split
    · rename_i hh
      split at hh
      · cases hh
        have := q (v ++ [a])
        rw [List.map_append] at this
        rw [if_pos (by assumption)]
        exact this
      · cases hh
    · rename_i hh
      split at hh
      · exact absurd rfl (hh _)
      · rw [if_neg (by assumption), if_neg (by assumption)]
        exact rfl
theorem n_if {A B : Option σ} (p : k en = P) (ha : NX (F en) A env) (hb : NX (G en) B env) : NX (sIf k F G en) (iteO P A B) env := by
  unfold sIf iteO
  rw [p]
  cases P with
  | none => exact rfl
  | some b => cases b with
    | true => exact ha
    | false => exact hb
theorem n_seq {A : Option τ} {K : τ → Option σ} {ζ' : Type} {env2 : τ → ζ' → En} (p : NX (F en) A env2) (q : ∀ s z, NX (G (env2 s z)) (K s) env) : NX (sSeq F G en) (A.bind K) env := by
  unfold sSeq
  cases A with
  | none =>
    have e : F en = none := p
    rw [e]
    exact rfl
  | some s =>
    obtain ⟨z, e⟩ := p
    rw [e]
    exact q s z
theorem n_aug {x : Int} {o : Int → Int → Int} {K : Int → σ} {A : Option Int} (hv : en[i]? = some (.dat (.int x))) (p : f en = A.map eI) (q : ∀ y : Int, ∃ z, en.set i (.dat (.int y)) = env (K y) z) : NX (sAug i (gI fun a b => .int (o a b)) f en) (A.bind fun y => some (K (o x y))) env := by
  have hi : i < en.length := (List.getElem?_eq_some_iff.mp hv).1
  unfold sAug fVar bName
  rw [hv, p]
  cases A with
  | none => exact rfl
  | some a =>
    obtain ⟨z, e⟩ := q (o x a)
    refine ⟨z, ?_⟩
    show (if i < en.length then some (en.set i (.dat (.int (o x a)))) else none).map Fl.nx = _
    rw [if_pos hi, e]
    rfl
theorem n_seq_aug {x : Int} {o : Int → Int → Int} {K : Int → Option σ} {A : Option Int} (hv : en[i]? = some (.dat (.int x))) (p : f en = A.map eI) (q : ∀ y : Int, NX (G (en.set i (.dat (.int y)))) (K y) env) : NX (sSeq (sAug i (gI fun a b => .int (o a b)) f) G en) (A.bind fun y => K (o x y)) env := by
  have hi : i < en.length := (List.getElem?_eq_some_iff.mp hv).1
  unfold sSeq sAug fVar bName
  rw [hv, p]
  cases A with
  | none => exact rfl
  | some a =>
    show NX (match (if i < en.length then some (en.set i (.dat (.int (o x a)))) else none).map Fl.nx with
      | some (.nx e) => G e
      | r => r) _ env
    rw [if_pos hi]
    exact q (o x a)
theorem n_for {it : En → Option (List PyData)} {b : PyData → En → Option En} {L : Option (List α)} {Bd : α → σ → Option σ} {s : σ} {z : ζ} (he : en = env s z) (hi : it en = L.map (List.map ea)) (hb : ∀ x s z, ∃ e1, b (ea x) (env s z) = some e1 ∧ NX (F e1) (Bd x s) env) : NX (sFor it b F en) (L.bind fun l => foldO Bd l s) env := by
  subst he
  unfold sFor
  rw [hi]
  cases L with
  | none => exact rfl
  | some l =>
    show NX (forGo b F (l.map ea) (env s z)) (foldO Bd l s) env
    clear hi
    induction l generalizing s z with
    | nil => exact ⟨z, rfl⟩
    | cons x r ih =>
      obtain ⟨e1, h1, h2⟩ := hb x s z
      have ef : foldO Bd (x :: r) s = (Bd x s).bind (foldO Bd r) := rfl
      show NX ((b (ea x) (env s z)).bind _) _ env
      rw [h1, Option.bind_some, ef]
      cases hB : Bd x s with
      | none =>
        rw [hB] at h2
        have e : F e1 = none := h2
        rw [e]
        exact rfl
      | some s' =>
        rw [hB] at h2
        obtain ⟨z', e⟩ := h2
        rw [e]
        exact ih
theorem n_while {N : Nat} {T : σ → Option Bool} {Bd : σ → Option σ} {s : σ} {z : ζ} (he : en = env s z) (ht : ∀ s z, k (env s z) = T s) (hb : ∀ s z, NX (F (env s z)) (Bd s) env) : NX (sWhile (fun _ => N) k F en) (whileO T Bd N s) env := by
  subst he
  show NX (whGo k F N (env s z)) _ env
  induction N generalizing s z with
  | zero => exact rfl
  | succ n ih =>
    have ew : whileO T Bd (n + 1) s = (T s).bind fun k => match k with
      | true => (Bd s).bind (whileO T Bd n)
      | false => some s := rfl
    show NX (match k (env s z) with
      | some true => match F (env s z) with
        | some (.nx e2) => whGo k F n e2
        | some (.ct e2) => whGo k F n e2
        | some (.bk e2) => some (.nx e2)
        | some (.rt v) => some (.rt v)
        | none => none
      | some false => some (.nx (env s z))
      | none => none) _ env
    rw [ht, ew]
    cases T s with
    | none => exact rfl
    | some c => cases c with
      | false => exact ⟨z, rfl⟩
      | true =>
        have h2 := hb s z
        show NX (match F (env s z) with
          | some (.nx e2) => whGo k F n e2
          | some (.ct e2) => whGo k F n e2
          | some (.bk e2) => some (.nx e2)
          | some (.rt v) => some (.rt v)
          | none => none) ((Bd s).bind (whileO T Bd n)) env
        cases hB : Bd s with
        | none =>
          rw [hB] at h2
          have e : F (env s z) = none := h2
          rw [e]
          exact rfl
        | some s' =>
          rw [hB] at h2
          obtain ⟨z', e⟩ := h2
          rw [e]
          exact ih
theorem j_of_n {A : Option σ} {e : ξ → PyData} {r : Option Fl} (h : NX r A env) : JX r (A.bind fun s => some (.inr s)) e env := by
  cases A with
  | none => exact h
  | some s => exact h
theorem j_of_r {A : Option ξ} {e : ξ → PyData} {r : Option Fl} (h : r = rtO e A) : JX r (A.bind fun v => some (.inl v)) e env := by
  subst h
  cases A <;> exact rfl
theorem j_if {A B : Option (ξ ⊕ σ)} {e : ξ → PyData} (p : k en = P) (ha : JX (F en) A e env) (hb : JX (G en) B e env) : JX (sIf k F G en) (iteO P A B) e env := by
  unfold sIf iteO
  rw [p]
  cases P with
  | none => exact rfl
  | some b => cases b with
    | true => exact ha
    | false => exact hb
theorem j_seq_set {K : α → Option (ξ ⊕ σ)} {e : ξ → PyData} (p : f en = A.map ea) (hi : i < en.length) (q : ∀ x, JX (G (en.set i (.dat (ea x)))) (K x) e env) : JX (sSeq (sSet i f) G en) (A.bind K) e env := by
  unfold sSeq sSet bName
  rw [p]
  cases A with
  | none => exact rfl
  | some a =>
    show JX (match (if i < en.length then some (en.set i (.dat (ea a))) else none).map Fl.nx with
      | some (.nx e) => G e
      | r => r) (K a) e env
    rw [if_pos hi]
    exact q a
theorem j_for {it : En → Option (List PyData)} {b : PyData → En → Option En} {L : Option (List α)} {Bd : α → σ → Option (ξ ⊕ σ)} {e : ξ → PyData} {s : σ} {z : ζ} (he : en = env s z) (hi : it en = L.map (List.map ea)) (hb : ∀ x s z, ∃ e1, b (ea x) (env s z) = some e1 ∧ JX (F e1) (Bd x s) e env) :
    JX (sFor it b F en) (L.bind fun l => foldJ Bd l s) e env := by
  subst he
  unfold sFor
  rw [hi]
  cases L with
  | none => exact rfl
  | some l =>
    show JX (forGo b F (l.map ea) (env s z)) (foldJ Bd l s) e env
    clear hi
    induction l generalizing s z with
    | nil => exact ⟨z, rfl⟩
    | cons x r ih =>
      obtain ⟨e1, h1, h2⟩ := hb x s z
      have ef : foldJ Bd (x :: r) s = (Bd x s).bind (thenJ (foldJ Bd r)) := rfl
      show JX ((b (ea x) (env s z)).bind _) _ e env
      rw [h1, Option.bind_some, ef]
      cases hB : Bd x s with
      | none =>
        rw [hB] at h2
        have e : F e1 = none := h2
        rw [e]
        exact rfl
      | some o => cases o with
        | inl v =>
          rw [hB] at h2
          have e : F e1 = some (.rt (e v)) := h2
          rw [e]
          exact rfl
        | inr s' =>
          rw [hB] at h2
          obtain ⟨z', e⟩ := h2
          rw [e]
          exact ih
theorem d_run {N : Nat} {ds : List PyData} {A : Option ξ} (h : F (ds.map .dat ++ List.replicate (N - ds.length) .no) = rtO er A) : runD N F ds = A.map er := by
  unfold runD
  rw [h]
  cases A <;> rfl
theorem d_runN {N : Nat} {ds : List PyData} {A : Option σ} (h : NX (F (ds.map .dat ++ List.replicate (N - ds.length) .no)) A env) : runD N F ds = (A.bind fun _ => some ()).map eU := by
  unfold runD
  cases A with
  | none =>
    have e : F (ds.map .dat ++ List.replicate (N - ds.length) .no) = none := h
    rw [e]
    rfl
  | some s =>
    obtain ⟨z, e⟩ := h
    rw [e]
    rfl
end
theorem lt_of {i : Nat} {en : En} (h : Nat.ble (i + 1) en.length = true) : i < en.length := Nat.le_of_ble_eq_true h
section
variable {α β γ σ ζ ξ : Type} {en : En} {f g h : En → Option PyData} {F G : En → Option Fl} {ea : α → PyData} {eb : β → PyData} {k l : En → Option Bool}
theorem t_andP {b c : Bool} (p : f en = (some b).map eB) (q : g en = (some c).map eB) : fAnd f g en = (some (b && c)).map eB := by
  rw [t_and p q]
  cases b <;> rfl
theorem t_kandP {b c : Bool} (p : k en = some b) (q : l en = some c) : kAnd k l en = some (b && c) := by
  rw [t_kand p q]
  cases b <;> rfl
theorem t_chainP {x y z : Int} (pa : f en = (some x).map eI) (pb : g en = (some y).map eI) (pc : h en = (some z).map eI) : fChain gLe gLe f g h en = (some (decide (x ≤ y) && decide (y ≤ z))).map eB := by
  rw [t_chain pa pb pc]
  show Option.map eB (iteO (some (decide (x ≤ y))) (some (decide (y ≤ z))) (some false)) = _
  cases decide (x ≤ y) <;> rfl
theorem j_seq_ifret {A : Option ξ} {K : Option (ξ ⊕ σ)} {P : Option Bool} {e : ξ → PyData} {env : σ → ζ → En} (p : k en = P) (ha : F en = rtO e A) (q : JX (G en) K e env) : JX (sSeq (sIf k F sNil) G en) (iteO P (A.bind fun v => some (.inl v)) K) e env := by
  unfold sSeq sIf iteO
  rw [p]
  cases P with
  | none => exact rfl
  | some b => cases b with
    | true =>
      show JX (match F en with
        | some (.nx e) => G e
        | r => r) (A.bind fun v => some (.inl v)) e env
      rw [ha]
      cases A <;> exact rfl
    | false => exact q
end
theorem enc_I : Enc 0 eI := ⟨fun _ => rfl, fun _ => Nat.le_refl _, fun _ _ => rfl⟩
section
variable {α β γ δ : Type} [DecidableEq α] [DecidableEq β] [DecidableEq γ] [DecidableEq δ] {k l m n : Nat} {ea : α → PyData} {eb : β → PyData} {ec : γ → PyData} {ed : δ → PyData}
theorem enc_2 (E : Enc k ea) (F : Enc l eb) : Enc (max k l + 1) (e2 ea eb) := ⟨fun p => by simp only [e2, PyData.canLay0, PyData.canLayAll0, E.lay, F.lay, Bool.and_true], fun p => by
  simp only [e2, PyData.depth, PyData.depthAll]; have := E.dep p.1; have := F.dep p.2; omega, fun p q => by
  obtain ⟨a, b⟩ := p; obtain ⟨c, d⟩ := q
  simp only [e2, PyData.eqv, PyData.eqvAll, E.eq, F.eq, Bool.and_true, Prod.mk.injEq, Bool.decide_and]⟩
end
theorem pick_of {α : Type} {e : α → PyData} {l : List α} {Q : PyData → Prop} (h : ∀ x, x ∈ l → Q (e x)) : ∀ d ∈ l.map e, Q d := fun d hd => by
  obtain ⟨x, hx, rfl⟩ := List.mem_map.mp hd
  exact h x hx
theorem if_of {b : Bool} {P Q : Prop} (h1 : b = true → P) (h2 : b = false → Q) : if b = true then P else Q := by
  cases b with
  | true => exact h1 rfl
  | false => exact h2 rfl
theorem noown1 {en : En} {i : Nat} (h : en[i]? = some .no) : ∀ j ∈ [i], ∀ es, en[j]? ≠ some (Slot.own es) := fun j hj es z => by
  rw [List.mem_singleton.mp hj, h] at z
  cases z
def rangeI (n : Int) : List Int := (List.range n.toNat).map fun (i : Nat) => (0 + (i : Int))
theorem rangeD_I (n : Int) : rangeD 0 n.toNat = (rangeI n).map eI := by
  unfold rangeD rangeI
  simp
theorem wlc_range {β : Type} {b : PyData → En → Option En} {F : WF} {en : En} {eb : β → PyData} {P : Int → β → Prop} {n : Int} {Q : List PyData → Prop} (hb : ∀ x, ∃ e1, b (eI x) en = some e1 ∧ ∀ Q : PyData → Prop, (∀ y, P x y → Q (eb y)) → F e1 Q) (h : ∀ ys : List β, All2 P (rangeI n) ys → Q (ys.map eb)) : wlcGo b wYes F en (rangeD 0 n.toNat) Q := by
  rw [rangeD_I]
  exact wlc_all hb _ _ h
theorem rangeD_len {n : Int} (h : n ≤ 1000000) : (rangeD 0 n.toNat).length ≤ 1000000 := by
  simp [rangeD]
  omega
def wfor {α σ : Type} (Bd : α → σ → (σ → Prop) → Prop) : List α → σ → (σ → Prop) → Prop
  | [], s, K => K s
  | x :: r, s, K => Bd x s fun s' => wfor Bd r s' K
theorem lfor_of {α σ ζ : Type} {b : PyData → En → Option En} {F : LF} {ea : α → PyData} {env : σ → ζ → En} {Bd : α → σ → (σ → Prop) → Prop}
    (hb : ∀ x s z (Q : Fl → Prop) (K : σ → Prop), (∀ s', K s' → ∀ z', Q (.nx (env s' z'))) → Bd x s K → ∃ e1, b (ea x) (env s z) = some e1 ∧ F e1 Q) :
    ∀ (l : List α) (s : σ) (z : ζ) (Q : Fl → Prop) (K : σ → Prop), (∀ s', K s' → ∀ z', Q (.nx (env s' z'))) → wfor Bd l s K → lforGo b F (l.map ea) (env s z) Q
  | [], s, z, Q, K, hK, h => hK s h z
  | x :: r, s, z, Q, K, hK, h => hb x s z _ _ (fun s' h' z' => lfor_of hb r s' z' Q K hK h') h
end DN
namespace Ty
open PySem PySem.Spec PyProof.Rows L2 DN
def FUEL : Nat := 100000000
def F_is_whole : En → Option Fl := (sRet (fAnd (fIsi isInt (fVar 0)) (fNot (fIsi isBool (fVar 0)))))
def S_is_whole := runD 1 (F_is_whole)
def F_is_between (c_is_whole : List PyData → Option PyData) : En → Option Fl := (sRet (fAnd (fCall 1 c_is_whole (fCons (fVar 0) fNil)) (fChain gLe gLe (fVar 1) (fVar 0) (fVar 2))))
def S_is_between := runD 3 (F_is_between S_is_whole)
def F_is_row_between (c_is_between : List PyData → Option PyData) : En → Option Fl := (sRet (fAnd (fIsi isTup (fVar 0)) (fAll true (iSeq (fVar 0)) (bName 3) (fCall 3 c_is_between (fCons (fVar 3) (fCons (fVar 1) (fCons (fVar 2) fNil)))) [3])))
def S_is_row_between := runD 4 (F_is_row_between S_is_between)
def F_ratio : En → Option Fl := (sSeq (sSet 2 (fGcd (fVar 0) (fVar 1))) (sRet (fTup (fCons (fDiv (fVar 0) (fVar 2)) (fCons (fDiv (fVar 1) (fVar 2)) fNil)))))
def S_ratio := runD 3 (F_ratio)
def F_is_less : En → Option Fl := (sRet (fLt (fTimes (fIx (fVar 0) (fLit (.int 0))) (fIx (fVar 1) (fLit (.int 1)))) (fTimes (fIx (fVar 1) (fLit (.int 0))) (fIx (fVar 0) (fLit (.int 1))))))
def S_is_less := runD 2 (F_is_less)
def F__law_ratio (w0 : En → Nat) : En → Option Fl := (sSeq (sPar 2 3 (fAbs (fVar 0)) (fAbs (fVar 1))) (sSeq (sWhile w0 (fT (fNe (fVar 3) (fLit (.int 0)))) (sPar 2 3 (fVar 3) (fMod (fInt (fVar 2)) (fVar 3)))) (sRet (fIf (fT (fGt (fVar 1) (fLit (.int 0)))) (fTup (fCons (fDiv (fVar 0) (fVar 2)) (fCons (fDiv (fVar 1) (fVar 2)) fNil))) (fTup (fCons (fSub (fLit (.int 0)) (fDiv (fVar 0) (fVar 2))) (fCons (fSub (fLit (.int 0)) (fDiv (fVar 1) (fVar 2))) fNil)))))))
def S__law_ratio := runD 4 (F__law_ratio (fun _ => FUEL))
def F__law_plus (c__law_ratio : List PyData → Option PyData) : En → Option Fl := (sRet (fCall 2 c__law_ratio (fCons (fPlus (fTimes (fIx (fVar 0) (fLit (.int 0))) (fIx (fVar 1) (fLit (.int 1)))) (fTimes (fIx (fVar 1) (fLit (.int 0))) (fIx (fVar 0) (fLit (.int 1))))) (fCons (fTimes (fIx (fVar 0) (fLit (.int 1))) (fIx (fVar 1) (fLit (.int 1)))) fNil))))
def S__law_plus := runD 2 (F__law_plus S__law_ratio)
def F__law_sum (c__law_plus : List PyData → Option PyData) : En → Option Fl := (sSeq (sSet 1 (fTup (fCons (fLit (.int 0)) (fCons (fLit (.int 1)) fNil)))) (sSeq (sFor (iSeq (fVar 0)) (bName 2) (sSet 1 (fCall 2 c__law_plus (fCons (fVar 1) (fCons (fVar 2) fNil))))) (sRet (fVar 1))))
def S__law_sum := runD 3 (F__law_sum S__law_plus)
def F__law_less : En → Option Fl := (sRet (fLt (fTimes (fIx (fVar 0) (fLit (.int 0))) (fIx (fVar 1) (fLit (.int 1)))) (fTimes (fIx (fVar 1) (fLit (.int 0))) (fIx (fVar 0) (fLit (.int 1))))))
def S__law_less := runD 2 (F__law_less)
def N__law_ratio (top' : Int) (bottom' : Int) : Option (Int × Int) := ((some (abs1 top')).bind fun one_3 => (some (abs1 bottom')).bind fun other_4 => ((whileO (fun s5 => (some (!decide (s5.2 = (0 : Int))))) (fun s5 => ((some s5.2).bind fun one_12 => (modO s5.1 s5.2).bind fun other_13 => some (one_12, other_13))) FUEL (one_3, other_4)).bind fun s14 => (iteO (some (decide ((0 : Int) < bottom'))) ((divO top' s14.1).bind fun x22 => (divO bottom' s14.1).bind fun x23 => some (x22, x23)) (((some (0 : Int)).bind fun x26 => (divO top' s14.1).bind fun y27 => some (x26 - y27)).bind fun x32 => ((some (0 : Int)).bind fun x30 => (divO bottom' s14.1).bind fun y31 => some (x30 - y31)).bind fun x33 => some (x32, x33)))))
theorem t__law_ratio (top' : Int) (bottom' : Int) : S__law_ratio [eI top', eI bottom'] = (N__law_ratio top' bottom').map (e2 eI eI) := d_run (r_seq_par (i := 2) (j := 3) (A := (some (abs1 top'))) (B := (some (abs1 bottom'))) (t_f1 (A := (some top')) (h := (fun x1 => some (abs1 x1))) g_abs (t_var (i := 0) (e := eI) (v := top') rfl)) (t_f1 (A := (some bottom')) (h := (fun x2 => some (abs1 x2))) g_abs (t_var (i := 1) (e := eI) (v := bottom') rfl)) (lt_of rfl) (lt_of rfl) (fun one_3 other_4 => (r_seq_nx (env := (fun (s : (Int × Int)) (z : Unit) => [.dat (eI top'), .dat (eI bottom'), .dat (eI s.1), .dat (eI s.2)])) (A := (whileO (fun s5 => (some (!decide (s5.2 = (0 : Int))))) (fun s5 => ((some s5.2).bind fun one_12 => (modO s5.1 s5.2).bind fun other_13 => some (one_12, other_13))) FUEL (one_3, other_4))) (n_while (env := (fun (s : (Int × Int)) (z : Unit) => [.dat (eI top'), .dat (eI bottom'), .dat (eI s.1), .dat (eI s.2)])) (s := (one_3, other_4)) (z := ()) (T := fun s5 => (some (!decide (s5.2 = (0 : Int))))) (Bd := fun s5 => ((some s5.2).bind fun one_12 => (modO s5.1 s5.2).bind fun other_13 => some (one_12, other_13))) rfl (fun s5 z6 => (t_T (P := (some (!decide (s5.2 = (0 : Int))))) (t_f2 (A := (some s5.2)) (B := (some (0 : Int))) (h := (fun x7 y8 => some (!decide (x7 = y8)))) (g_ne enc_I rfl) (t_var (i := 3) (e := eI) (v := s5.2) rfl) (t_int (i := 0))))) (fun s5 z6 => (n_par  (K := fun one_12 other_13 => (one_12, other_13)) (i := 2) (j := 3) (A := (some s5.2)) (B := (modO s5.1 s5.2)) (t_var (i := 3) (e := eI) (v := s5.2) rfl) (t_f2 (A := (some s5.1)) (B := (some s5.2)) (h := (fun x10 y11 => (modO x10 y11))) g_mod (t_f1 (A := (some s5.1)) (h := (fun x9 => some x9)) g_int (t_var (i := 2) (e := eI) (v := s5.1) rfl)) (t_var (i := 3) (e := eI) (v := s5.2) rfl)) (lt_of rfl) (lt_of rfl) (fun one_12 other_13 => ⟨(), rfl⟩)))) (fun s14 z15 => (r_ret (A := (iteO (some (decide ((0 : Int) < bottom'))) ((divO top' s14.1).bind fun x22 => (divO bottom' s14.1).bind fun x23 => some (x22, x23)) (((some (0 : Int)).bind fun x26 => (divO top' s14.1).bind fun y27 => some (x26 - y27)).bind fun x32 => ((some (0 : Int)).bind fun x30 => (divO bottom' s14.1).bind fun y31 => some (x30 - y31)).bind fun x33 => some (x32, x33)))) (t_if (P := (some (decide ((0 : Int) < bottom')))) (A := ((divO top' s14.1).bind fun x22 => (divO bottom' s14.1).bind fun x23 => some (x22, x23))) (B := (((some (0 : Int)).bind fun x26 => (divO top' s14.1).bind fun y27 => some (x26 - y27)).bind fun x32 => ((some (0 : Int)).bind fun x30 => (divO bottom' s14.1).bind fun y31 => some (x30 - y31)).bind fun x33 => some (x32, x33))) (t_T (P := (some (decide ((0 : Int) < bottom')))) (t_f2 (A := (some bottom')) (B := (some (0 : Int))) (h := (fun x16 y17 => some (decide (y17 < x16)))) g_gt (t_var (i := 1) (e := eI) (v := bottom') rfl) (t_int (i := 0)))) (t_tup2 (A := (divO top' s14.1)) (B := (divO bottom' s14.1)) (t_f2 (A := (some top')) (B := (some s14.1)) (h := (fun x18 y19 => (divO x18 y19))) g_div (t_var (i := 0) (e := eI) (v := top') rfl) (t_var (i := 2) (e := eI) (v := s14.1) rfl)) (t_f2 (A := (some bottom')) (B := (some s14.1)) (h := (fun x20 y21 => (divO x20 y21))) g_div (t_var (i := 1) (e := eI) (v := bottom') rfl) (t_var (i := 2) (e := eI) (v := s14.1) rfl))) (t_tup2 (A := ((some (0 : Int)).bind fun x26 => (divO top' s14.1).bind fun y27 => some (x26 - y27))) (B := ((some (0 : Int)).bind fun x30 => (divO bottom' s14.1).bind fun y31 => some (x30 - y31))) (t_f2 (A := (some (0 : Int))) (B := (divO top' s14.1)) (h := (fun x26 y27 => some (x26 - y27))) g_sub (t_int (i := 0)) (t_f2 (A := (some top')) (B := (some s14.1)) (h := (fun x24 y25 => (divO x24 y25))) g_div (t_var (i := 0) (e := eI) (v := top') rfl) (t_var (i := 2) (e := eI) (v := s14.1) rfl))) (t_f2 (A := (some (0 : Int))) (B := (divO bottom' s14.1)) (h := (fun x30 y31 => some (x30 - y31))) g_sub (t_int (i := 0)) (t_f2 (A := (some bottom')) (B := (some s14.1)) (h := (fun x28 y29 => (divO x28 y29))) g_div (t_var (i := 1) (e := eI) (v := bottom') rfl) (t_var (i := 2) (e := eI) (v := s14.1) rfl))))))))))
def N__law_plus (one' : (Int × Int)) (other' : (Int × Int)) : Option (Int × Int) := (((mulO one'.1 other'.2).bind fun x9 => (mulO other'.1 one'.2).bind fun y10 => some (x9 + y10)).bind fun a15 => (mulO one'.2 other'.2).bind fun a16 => N__law_ratio a15 a16)
theorem t__law_plus (one' : (Int × Int)) (other' : (Int × Int)) : S__law_plus [(e2 eI eI) one', (e2 eI eI) other'] = (N__law_plus one' other').map (e2 eI eI) := d_run (r_ret (A := (((mulO one'.1 other'.2).bind fun x9 => (mulO other'.1 one'.2).bind fun y10 => some (x9 + y10)).bind fun a15 => (mulO one'.2 other'.2).bind fun a16 => N__law_ratio a15 a16)) (t_call2 (A := ((mulO one'.1 other'.2).bind fun x9 => (mulO other'.1 one'.2).bind fun y10 => some (x9 + y10))) (B := (mulO one'.2 other'.2)) t__law_ratio (t_f2 (A := (mulO one'.1 other'.2)) (B := (mulO other'.1 one'.2)) (h := (fun x9 y10 => some (x9 + y10))) g_add (t_f2 (A := (some one'.1)) (B := (some other'.2)) (h := (fun x3 y4 => (mulO x3 y4))) g_mul (t_ixc (A := (some one')) (k := 0) (pr := fun x1 => x1.1) (eb := eI) (fun _ => rfl) (t_var (i := 0) (e := (e2 eI eI)) (v := one') rfl)) (t_ixc (A := (some other')) (k := 1) (pr := fun x2 => x2.2) (eb := eI) (fun _ => rfl) (t_var (i := 1) (e := (e2 eI eI)) (v := other') rfl))) (t_f2 (A := (some other'.1)) (B := (some one'.2)) (h := (fun x7 y8 => (mulO x7 y8))) g_mul (t_ixc (A := (some other')) (k := 0) (pr := fun x5 => x5.1) (eb := eI) (fun _ => rfl) (t_var (i := 1) (e := (e2 eI eI)) (v := other') rfl)) (t_ixc (A := (some one')) (k := 1) (pr := fun x6 => x6.2) (eb := eI) (fun _ => rfl) (t_var (i := 0) (e := (e2 eI eI)) (v := one') rfl)))) (t_f2 (A := (some one'.2)) (B := (some other'.2)) (h := (fun x13 y14 => (mulO x13 y14))) g_mul (t_ixc (A := (some one')) (k := 1) (pr := fun x11 => x11.2) (eb := eI) (fun _ => rfl) (t_var (i := 0) (e := (e2 eI eI)) (v := one') rfl)) (t_ixc (A := (some other')) (k := 1) (pr := fun x12 => x12.2) (eb := eI) (fun _ => rfl) (t_var (i := 1) (e := (e2 eI eI)) (v := other') rfl)))))
def N__law_less (one' : (Int × Int)) (other' : (Int × Int)) : Option Bool := ((mulO one'.1 other'.2).bind fun x9 => (mulO other'.1 one'.2).bind fun y10 => some (decide (x9 < y10)))
theorem t__law_less (one' : (Int × Int)) (other' : (Int × Int)) : S__law_less [(e2 eI eI) one', (e2 eI eI) other'] = (N__law_less one' other').map eB := d_run (r_ret (A := ((mulO one'.1 other'.2).bind fun x9 => (mulO other'.1 one'.2).bind fun y10 => some (decide (x9 < y10)))) (t_f2 (A := (mulO one'.1 other'.2)) (B := (mulO other'.1 one'.2)) (h := (fun x9 y10 => some (decide (x9 < y10)))) g_lt (t_f2 (A := (some one'.1)) (B := (some other'.2)) (h := (fun x3 y4 => (mulO x3 y4))) g_mul (t_ixc (A := (some one')) (k := 0) (pr := fun x1 => x1.1) (eb := eI) (fun _ => rfl) (t_var (i := 0) (e := (e2 eI eI)) (v := one') rfl)) (t_ixc (A := (some other')) (k := 1) (pr := fun x2 => x2.2) (eb := eI) (fun _ => rfl) (t_var (i := 1) (e := (e2 eI eI)) (v := other') rfl))) (t_f2 (A := (some other'.1)) (B := (some one'.2)) (h := (fun x7 y8 => (mulO x7 y8))) g_mul (t_ixc (A := (some other')) (k := 0) (pr := fun x5 => x5.1) (eb := eI) (fun _ => rfl) (t_var (i := 1) (e := (e2 eI eI)) (v := other') rfl)) (t_ixc (A := (some one')) (k := 1) (pr := fun x6 => x6.2) (eb := eI) (fun _ => rfl) (t_var (i := 0) (e := (e2 eI eI)) (v := one') rfl)))))
def N__law_sum (some' : (List (Int × Int))) : Option (Int × Int) := ((some ((0 : Int), (1 : Int))).bind fun found_1 => ((foldO (fun i4 s2 => ((N__law_plus s2 i4).bind fun found_5 => some found_5)) some' found_1).bind fun s6 => (some s6)))
theorem t__law_sum (some' : (List (Int × Int))) : S__law_sum [(eL (e2 eI eI)) some'] = (N__law_sum some').map (e2 eI eI) := d_run (r_seq_set (i := 1) (A := (some ((0 : Int), (1 : Int)))) (t_tup2 (A := (some (0 : Int))) (B := (some (1 : Int))) (t_int (i := 0)) (t_int (i := 1))) (lt_of rfl) (fun found_1 => (r_seq_nx (env := (fun (s : ((Int × Int))) (z : (Slot)) => [.dat ((eL (e2 eI eI)) some'), .dat ((e2 eI eI) s), z])) (A := (foldO (fun i4 s2 => ((N__law_plus s2 i4).bind fun found_5 => some found_5)) some' found_1)) (n_for (env := (fun (s : ((Int × Int))) (z : (Slot)) => [.dat ((eL (e2 eI eI)) some'), .dat ((e2 eI eI) s), z])) (s := found_1) (z := (.no : Slot)) (L := (some some')) (ea := (e2 eI eI)) (Bd := (fun i4 s2 => ((N__law_plus s2 i4).bind fun found_5 => some found_5))) rfl (i_seqL (A := (some some')) (e := (e2 eI eI)) (t_var (i := 0) (e := (eL (e2 eI eI))) (v := some') rfl)) (fun i4 s2 z3 => ⟨[.dat ((eL (e2 eI eI)) some'), .dat ((e2 eI eI) s2), .dat ((e2 eI eI) i4)], rfl, (n_set  (K := fun found_5 => found_5) (i := 1) (A := (N__law_plus s2 i4)) (t_call2 (A := (some s2)) (B := (some i4)) t__law_plus (t_var (i := 1) (e := (e2 eI eI)) (v := s2) rfl) (t_var (i := 2) (e := (e2 eI eI)) (v := i4) rfl)) (lt_of rfl) (fun found_5 => ⟨(.dat ((e2 eI eI) i4) : Slot), rfl⟩))⟩)) (fun s6 z7 => (r_ret (A := (some s6)) (t_var (i := 1) (e := (e2 eI eI)) (v := s6) rfl))))))
def N__law_is_ratio (value' : (Int × Int)) : Option Bool := (iteO (some (!true)) (some false) (iteO (some (!decide ((2 : Int) = (2 : Int)))) (some false) (iteO ((compL (fun i7 => (some ((!true) || false))) (fun i7 => (some i7)) [value'.1, value'.2]).bind fun x11 => (some ([] : (List Int))).bind fun y12 => some (!decide (x11 = y12))) (some false) (andO (some (decide ((0 : Int) < value'.2))) ((N__law_ratio value'.1 value'.2).bind fun x18 => (some value').bind fun y19 => some (decide (x18 = y19)))))))
def N_is_whole (value' : Int) : Option Bool := (some (true && (!false)))
theorem t_is_whole (value' : Int) : S_is_whole [eI value'] = (N_is_whole value').map eB := d_run (r_ret (A := (some (true && (!false)))) (t_andP (b := true) (c := (!false)) (t_isi (A := (some value')) (b := fun x1 => true) (fun _ => rfl) (t_var (i := 0) (e := eI) (v := value') rfl)) (t_not (P := (some false)) (t_isi (A := (some value')) (b := fun x2 => false) (fun _ => rfl) (t_var (i := 0) (e := eI) (v := value') rfl)))))
def N_is_between (value' : Int) (least' : Int) (most' : Int) : Option Bool := (andO (N_is_whole value') (some (decide (least' ≤ value') && decide (value' ≤ most'))))
theorem t_is_between (value' : Int) (least' : Int) (most' : Int) : S_is_between [eI value', eI least', eI most'] = (N_is_between value' least' most').map eB := d_run (r_ret (A := (andO (N_is_whole value') (some (decide (least' ≤ value') && decide (value' ≤ most'))))) (t_and (P := (N_is_whole value')) (Q := (some (decide (least' ≤ value') && decide (value' ≤ most')))) (t_call1 (A := (some value')) t_is_whole (t_var (i := 0) (e := eI) (v := value') rfl)) (t_chainP (x := least') (y := value') (z := most') (t_var (i := 1) (e := eI) (v := least') rfl) (t_var (i := 0) (e := eI) (v := value') rfl) (t_var (i := 2) (e := eI) (v := most') rfl))))
def N_is_row_between (value' : (List Int)) (least' : Int) (most' : Int) : Option Bool := (andO (some true) (allO true (fun i2 => (N_is_between i2 least' most')) value'))
theorem t_is_row_between (value' : (List Int)) (least' : Int) (most' : Int) : S_is_row_between [(eR eI) value', eI least', eI most'] = (N_is_row_between value' least' most').map eB := d_run (r_ret (A := (andO (some true) (allO true (fun i2 => (N_is_between i2 least' most')) value'))) (t_and (P := (some true)) (Q := (allO true (fun i2 => (N_is_between i2 least' most')) value')) (t_isi (A := (some value')) (b := fun x1 => true) (fun _ => rfl) (t_var (i := 0) (e := (eR eI)) (v := value') rfl)) (t_all (L := (some value')) (ea := eI) (Bf := fun i2 => (N_is_between i2 least' most')) (i_seqR (A := (some value')) (e := eI) (t_var (i := 0) (e := (eR eI)) (v := value') rfl)) (fun i2 => ⟨[.dat ((eR eI) value'), .dat (eI least'), .dat (eI most'), .dat (eI i2)], rfl, (t_call3 (A := (some i2)) (B := (some least')) (C := (some most')) t_is_between (t_var (i := 3) (e := eI) (v := i2) rfl) (t_var (i := 1) (e := eI) (v := least') rfl) (t_var (i := 2) (e := eI) (v := most') rfl))⟩))))
def N_ratio (top' : Int) (bottom' : Int) : Option (Int × Int) := ((some ((Nat.gcd (top').natAbs (bottom').natAbs : Nat) : Int)).bind fun shared_1 => ((divO top' shared_1).bind fun x8 => (divO bottom' shared_1).bind fun x9 => some (x8, x9)))
theorem t_ratio (top' : Int) (bottom' : Int) : S_ratio [eI top', eI bottom'] = (N_ratio top' bottom').map (e2 eI eI) := d_run (r_seq_set (i := 2) (A := (some ((Nat.gcd (top').natAbs (bottom').natAbs : Nat) : Int))) (t_f2 (A := (some top')) (B := (some bottom')) (h := (fun x2 y3 => some ((Nat.gcd (x2).natAbs (y3).natAbs : Nat) : Int))) g_gcd (t_var (i := 0) (e := eI) (v := top') rfl) (t_var (i := 1) (e := eI) (v := bottom') rfl)) (lt_of rfl) (fun shared_1 => (r_ret (A := ((divO top' shared_1).bind fun x8 => (divO bottom' shared_1).bind fun x9 => some (x8, x9))) (t_tup2 (A := (divO top' shared_1)) (B := (divO bottom' shared_1)) (t_f2 (A := (some top')) (B := (some shared_1)) (h := (fun x4 y5 => (divO x4 y5))) g_div (t_var (i := 0) (e := eI) (v := top') rfl) (t_var (i := 2) (e := eI) (v := shared_1) rfl)) (t_f2 (A := (some bottom')) (B := (some shared_1)) (h := (fun x6 y7 => (divO x6 y7))) g_div (t_var (i := 1) (e := eI) (v := bottom') rfl) (t_var (i := 2) (e := eI) (v := shared_1) rfl))))))
def N_is_less (one' : (Int × Int)) (other' : (Int × Int)) : Option Bool := ((mulO one'.1 other'.2).bind fun x9 => (mulO other'.1 one'.2).bind fun y10 => some (decide (x9 < y10)))
theorem t_is_less (one' : (Int × Int)) (other' : (Int × Int)) : S_is_less [(e2 eI eI) one', (e2 eI eI) other'] = (N_is_less one' other').map eB := d_run (r_ret (A := ((mulO one'.1 other'.2).bind fun x9 => (mulO other'.1 one'.2).bind fun y10 => some (decide (x9 < y10)))) (t_f2 (A := (mulO one'.1 other'.2)) (B := (mulO other'.1 one'.2)) (h := (fun x9 y10 => some (decide (x9 < y10)))) g_lt (t_f2 (A := (some one'.1)) (B := (some other'.2)) (h := (fun x3 y4 => (mulO x3 y4))) g_mul (t_ixc (A := (some one')) (k := 0) (pr := fun x1 => x1.1) (eb := eI) (fun _ => rfl) (t_var (i := 0) (e := (e2 eI eI)) (v := one') rfl)) (t_ixc (A := (some other')) (k := 1) (pr := fun x2 => x2.2) (eb := eI) (fun _ => rfl) (t_var (i := 1) (e := (e2 eI eI)) (v := other') rfl))) (t_f2 (A := (some other'.1)) (B := (some one'.2)) (h := (fun x7 y8 => (mulO x7 y8))) g_mul (t_ixc (A := (some other')) (k := 0) (pr := fun x5 => x5.1) (eb := eI) (fun _ => rfl) (t_var (i := 1) (e := (e2 eI eI)) (v := other') rfl)) (t_ixc (A := (some one')) (k := 1) (pr := fun x6 => x6.2) (eb := eI) (fun _ => rfl) (t_var (i := 0) (e := (e2 eI eI)) (v := one') rfl)))))
end Ty
namespace PySem
end PySem
namespace DN
open PySem PySem.Spec PyProof.Rows L2
section
variable {X : Cx} {Ts : TsT} {pos p tpos : Pos} {e : Expr} {f : En → Option PyData} {elts : List Expr} {kk : Nat}
def iRevF (f : En → Option PyData) : En → Option (List PyData) := fun en => ((f en).bind items).map List.reverse
theorem gives_rev {K : PySem.W.Frag} {H1 : Hp} {O : List Addr} {J : It} {xs : List V} {ds : List PyData} (go : ∀ O' H2, Xt (hide H1 O) (hide H2 O') → Xt (hide H1 O) H2 → (∀ i, i < xs.length → J.go i H2) ∧ J.stop xs.length H2 ∧
      ∀ i v H3, J.yld i H2 v H3 → H3 = H2 ∧ xs[xs.length - 1 - i]? = some v)
    (a : DpAll K (hide H1 O) xs ds) : Gives K Ts J ds.reverse H1 O := fun O' H2 h1 h2 occ => by
  obtain ⟨g1, g2, g3⟩ := go O' H2 h1 h2
  have la := DpAll.len a
  have a2 := DpAll.mono h1 a
  refine ⟨fun i hi => ?_, ?_, fun i v H3 hi hy => ?_⟩
  · rw [List.length_reverse] at hi
    exact g1 i (by omega)
  · rw [List.length_reverse, ← la]
    exact g2
  · obtain ⟨rfl, ex⟩ := g3 i v H3 hy
    obtain ⟨d1, hd1, q1⟩ := DpAll.get a2 ex
    rw [List.length_reverse] at hi
    refine ⟨d1, ?_, Xt.refl _, fun t => t, q1⟩
    rw [List.getElem?_reverse hi, ← la]
    exact hd1
theorem di_rev {tg : Expr} (hg : Gl X "reversed") (hm : X.mg "reversed" = none) (ha : DE X Ts e f) (hs : starEach [e] X.env = (false, eval e X.env) :: starEach [] X.env := by rfl) :
    DI X Ts tg (.Call (.Name "reversed" p) [e] [] pos) (iRevF f) :=
  PI.imp (RT.pi_revA hg hm ha hs) fun σ H R ⟨He, O, en, ds, rp, hf, kk⟩ => by
    unfold iRevF at hf
    obtain ⟨es, h0, rfl⟩ := Option.map_eq_some_iff.mp hf
    obtain ⟨d, h1, h2⟩ := Option.bind_eq_some_iff.mp h0
    refine tD.of rp h1 fun v H1 x1 r1 q1 => ?_
    cases d <;> simp only [items] at h2 <;> cases h2
    · cases q1 with
      | lst s a =>
        have t1 := sqL_mono (fun o n e => (hide_some e).2) s
        refine ⟨_, _, rfl, .inl ⟨t1, kk _ H1 x1 r1.tabs (gives_rev (fun O' H2 y1 y2 => ?_) a)⟩⟩
        have u1 := sqL_mono (fun o n e => y2.get _ o e n) s
        exact ⟨fun i hi => ⟨hi, _, _, u1, List.getElem?_eq_getElem (by omega)⟩, Nat.le_refl _, fun i v H3 ⟨h3, h4⟩ => ⟨h3, h4 _ u1⟩⟩
    · cases q1 with
      | tup s a =>
        have t1 := sqT_mono (fun o n e => (hide_some e).2) s
        refine ⟨_, _, rfl, .inr ⟨t1, kk _ H1 x1 r1.tabs (gives_rev (fun O' H2 y1 y2 => ?_) a)⟩⟩
        have u1 := sqT_mono (fun o n e => y2.get _ o e n) s
        exact ⟨fun i hi => ⟨hi, _, _, u1, List.getElem?_eq_getElem (by omega)⟩, Nat.le_refl _, fun i v H3 ⟨h3, h4⟩ => ⟨h3, h4 _ u1⟩⟩
end
theorem dpAll_rev {K : PySem.W.Frag} {H : Hp} : ∀ {vs : List V} {ds : List PyData}, DpAll K H vs ds → DpAll K H vs.reverse ds.reverse := fun {vs ds} q => by
  have la := DpAll.len q
  have key : ∀ (vs : List V) (ds : List PyData) (ws : List V) (es : List PyData), DpAll K H vs ds → DpAll K H ws es → DpAll K H (vs.reverse ++ ws) (ds.reverse ++ es) := by
    intro vs
    induction vs with
    | nil => intro ds ws es h1 h2; cases h1; exact h2
    | cons v r ih =>
      intro ds ws es h1 h2
      cases h1 with
      | cons a b =>
        rw [List.reverse_cons, List.reverse_cons, List.append_assoc, List.append_assoc]
        exact ih _ _ _ b (.cons a h2)
  have := key vs ds [] [] q .nil
  rwa [List.append_nil, List.append_nil] at this
def tChain3 (r r' r'' : R2) (ta tb tc td : TE) : TE := fun σ H Q => ta σ H fun x H1 => tb σ H1 fun y H2 => r x y H2 fun z H3 => ∃ k, z = .bl k ∧
  (if k = true then tc σ H3 fun w H4 => r' y w H4 fun z' H5 => ∃ k', z' = .bl k' ∧ (if k' = true then td σ H5 fun u H6 => r'' w u H6 Q else Q (.bl false) H5) else Q (.bl false) H3)
section
variable {X : Cx} {Ts : TsT} {a b c d : Expr} {pos : Pos} {ta tb tc td : TE} {fa fb fc fd : En → Option PyData}
theorem pe_chain3 {op op' op'' : CmpOp} {r r' r'' : R2} (ho : OpR X (compareOp op) r) (ho' : OpR X (compareOp op') r') (ho'' : OpR X (compareOp op'') r'') (ha : PE X a ta) (hb : PE X b tb) (hc : PE X c tc) (hd : PE X d td)
    (hm : lastMarks [op, op', op''] [b, c, d] = false := by with_unfolding_all rfl) : PE X (.Compare a [op, op', op''] [b, c, d] pos) (tChain3 r r' r'' ta tb tc td) := by
  refine ⟨fun pins s σ H Q I h => ?_⟩
  refine Compare_chain (thn (ha.run pins s σ H _ I h) fun v s1 ⟨x, H1, I1, r1, q1⟩ => chain_link (thn (hb.run pins s1 σ H1 _ I1 q1) fun u s2 ⟨y, H2, I2, r2, q2⟩ =>
    thn (ho pins s2 σ H2 x y v u _ I2 r1 r2 q2) fun d s3 ⟨z, H3, I3, r3, k, e, q3⟩ => ?_)) hm
  subst e
  cases r3
  refine wpAny_truthy_bool ?_
  cases k with
  | false => exact ite_ff ⟨.bl false, H3, I3, rfl, q3⟩
  | true =>
    refine ite_tt (chain_link (thn (hc.run pins s3 σ H3 _ I3 q3) fun w' s4 ⟨z', H4, I4, r4, q4⟩ => thn (ho' pins s4 σ H4 y z' u w' _ I4 r2 r4 q4) fun d5 s5 ⟨z5, H5, I5, r5, k5, e5, q5⟩ => ?_))
    subst e5
    cases r5
    refine wpAny_truthy_bool ?_
    cases k5 with
    | false => exact ite_ff ⟨.bl false, H5, I5, rfl, q5⟩
    | true => exact ite_tt (chain_last (thn (hd.run pins s5 σ H5 _ I5 q5) fun w6 s6 ⟨z6, H6, I6, r6, q6⟩ => ho'' pins s6 σ H6 z' z6 w' w6 Q I6 r4 r6 q6))
def fChain3 (g1 g2 g3 : PyData → PyData → Option PyData) (fa fb fc fd : En → Option PyData) : En → Option PyData := fun en => (fa en).bind fun x => (fb en).bind fun y => (g1 x y).bind fun z => match z with
  | .bool true => (fc en).bind fun w => (g2 y w).bind fun z' => match z' with
    | .bool true => (fd en).bind fun u => g3 w u
    | .bool false => some (.bool false)
    | _ => none
  | .bool false => some (.bool false)
  | _ => none
theorem gI_inv {g : Int → Int → Bool} {x y z : PyData} (h : gI (fun i j => .bool (g i j)) x y = some z) : ∃ i j, x = .int i ∧ y = .int j ∧ z = .bool (g i j) := by
  cases x <;> cases y <;> simp only [gI] at h <;> first | (cases h; exact ⟨_, _, rfl, rfl, rfl⟩) | cases h
theorem w_chain3 {g1 g2 g3 : Int → Int → Bool} {K : PySem.W.Frag} : ∀ σ H Q, tD K Ts (fChain3 (gI fun i j => .bool (g1 i j)) (gI fun i j => .bool (g2 i j)) (gI fun i j => .bool (g3 i j)) fa fb fc fd) σ H Q →
    tChain3 (rI0 fun i j => .bl (g1 i j)) (rI0 fun i j => .bl (g2 i j)) (rI0 fun i j => .bl (g3 i j)) (tD K Ts fa) (tD K Ts fb) (tD K Ts fc) (tD K Ts fd) σ H Q := fun σ H Q ⟨He, O, en, d, rp, hf, kk⟩ => by
  unfold fChain3 at hf
  obtain ⟨x, h1, hf1⟩ := Option.bind_eq_some_iff.mp hf
  obtain ⟨y, h2, hf2⟩ := Option.bind_eq_some_iff.mp hf1
  obtain ⟨z, h3, hf3⟩ := Option.bind_eq_some_iff.mp hf2
  clear hf hf1 hf2
  refine tD.of rp h1 fun v H1 x1 r1 q1 => tD.of r1 h2 fun w H2 x2 r2 q2 => ?_
  obtain ⟨i, j, rfl, rfl, rfl⟩ := gI_inv h3
  cases q1
  cases q2
  refine ⟨i, j, rfl, rfl, g1 i j, rfl, ?_⟩
  cases hg : g1 i j with
  | true =>
    rw [hg] at hf3
    obtain ⟨u, h4, hf4⟩ := Option.bind_eq_some_iff.mp hf3
    obtain ⟨z', h5, hf5⟩ := Option.bind_eq_some_iff.mp hf4
    obtain ⟨i', j', e1, rfl, rfl⟩ := gI_inv h5
    cases e1
    refine iteT (tD.of r2 h4 fun w' H3 x3 r3 q3 => ?_)
    cases q3
    refine ⟨_, _, rfl, rfl, g2 j j', rfl, ?_⟩
    cases hg2 : g2 j j' with
    | true =>
      rw [hg2] at hf5
      obtain ⟨t, h6, hf6⟩ := Option.bind_eq_some_iff.mp hf5
      obtain ⟨i7, j7, e7, rfl, rfl⟩ := gI_inv hf6
      cases e7
      refine iteT (tD.of r3 h6 fun w4 H4 x4 r4 q4 => ?_)
      cases q4
      exact ⟨_, _, rfl, rfl, kk _ H4 (x1.trans (x2.trans (x3.trans x4))) r4.tabs (.bl _)⟩
    | false =>
      rw [hg2] at hf5
      cases hf5
      exact iteF (kk _ H3 (x1.trans (x2.trans x3)) r3.tabs (.bl _))
  | false =>
    rw [hg] at hf3
    cases hf3
    exact iteF (kk _ H2 (x1.trans x2) r2.tabs (.bl _))
end
end DN
namespace Ty
open PySem PySem.Spec PyProof.Rows L2 DN
section
variable {α β γ ξ σ : Type} {ea : α → PyData} {eb : β → PyData} {ec : γ → PyData} {en : En} {f g : En → Option PyData}
def asI : PyData → Option Int
  | .int i => some i
  | _ => none
theorem i_revL {e : α → PyData} {A : Option (List α)} (pa : f en = A.map (eL e)) : iRevF f en = (A.bind fun x => some (List.reverse x)).map (List.map e) := by
  unfold iRevF
  rw [pa]
  cases A with
  | none => rfl
  | some l => exact congrArg some (List.map_reverse).symm
end
def F_is_ratio (c_is_whole : List PyData → Option PyData) : En → Option Fl := (sSeq (sIf (kNot (kAnd (fT (fIsi isTup (fVar 0))) (fT (fEq (fLen (fVar 0)) (fLit (.int 2)))))) (sRet (fLit (.bool false))) sNil) (sSeq (sBind (bTup [1, 2]) (fVar 0)) (sRet (fAnd (fCall 1 c_is_whole (fCons (fVar 1) fNil)) (fAnd (fCall 1 c_is_whole (fCons (fVar 2) fNil)) (fAnd (fGt (fVar 2) (fLit (.int 0))) (fEq (fGcd (fVar 1) (fVar 2)) (fLit (.int 1)))))))))
def S_is_ratio := runD 3 (F_is_ratio S_is_whole)
def F_plus (c_ratio : List PyData → Option PyData) : En → Option Fl := (sRet (fCall 2 c_ratio (fCons (fPlus (fTimes (fIx (fVar 0) (fLit (.int 0))) (fIx (fVar 1) (fLit (.int 1)))) (fTimes (fIx (fVar 1) (fLit (.int 0))) (fIx (fVar 0) (fLit (.int 1))))) (fCons (fTimes (fIx (fVar 0) (fLit (.int 1))) (fIx (fVar 1) (fLit (.int 1)))) fNil))))
def S_plus := runD 2 (F_plus S_ratio)
def F_minus (c_ratio : List PyData → Option PyData) : En → Option Fl := (sRet (fCall 2 c_ratio (fCons (fSub (fTimes (fIx (fVar 0) (fLit (.int 0))) (fIx (fVar 1) (fLit (.int 1)))) (fTimes (fIx (fVar 1) (fLit (.int 0))) (fIx (fVar 0) (fLit (.int 1))))) (fCons (fTimes (fIx (fVar 0) (fLit (.int 1))) (fIx (fVar 1) (fLit (.int 1)))) fNil))))
def S_minus := runD 2 (F_minus S_ratio)
def F_times (c_ratio : List PyData → Option PyData) : En → Option Fl := (sRet (fCall 2 c_ratio (fCons (fTimes (fIx (fVar 0) (fLit (.int 0))) (fIx (fVar 1) (fLit (.int 0)))) (fCons (fTimes (fIx (fVar 0) (fLit (.int 1))) (fIx (fVar 1) (fLit (.int 1)))) fNil))))
def S_times := runD 2 (F_times S_ratio)
def N_plus (one' : (Int × Int)) (other' : (Int × Int)) : Option (Int × Int) := (((mulO one'.1 other'.2).bind fun x9 => (mulO other'.1 one'.2).bind fun y10 => some (x9 + y10)).bind fun a15 => (mulO one'.2 other'.2).bind fun a16 => N_ratio a15 a16)
theorem t_plus (one' : (Int × Int)) (other' : (Int × Int)) : S_plus [(e2 eI eI) one', (e2 eI eI) other'] = (N_plus one' other').map (e2 eI eI) := d_run (r_ret (A := (((mulO one'.1 other'.2).bind fun x9 => (mulO other'.1 one'.2).bind fun y10 => some (x9 + y10)).bind fun a15 => (mulO one'.2 other'.2).bind fun a16 => N_ratio a15 a16)) (t_call2 (A := ((mulO one'.1 other'.2).bind fun x9 => (mulO other'.1 one'.2).bind fun y10 => some (x9 + y10))) (B := (mulO one'.2 other'.2)) t_ratio (t_f2 (A := (mulO one'.1 other'.2)) (B := (mulO other'.1 one'.2)) (h := (fun x9 y10 => some (x9 + y10))) g_add (t_f2 (A := (some one'.1)) (B := (some other'.2)) (h := (fun x3 y4 => (mulO x3 y4))) g_mul (t_ixc (A := (some one')) (k := 0) (pr := fun x1 => x1.1) (eb := eI) (fun _ => rfl) (t_var (i := 0) (e := (e2 eI eI)) (v := one') rfl)) (t_ixc (A := (some other')) (k := 1) (pr := fun x2 => x2.2) (eb := eI) (fun _ => rfl) (t_var (i := 1) (e := (e2 eI eI)) (v := other') rfl))) (t_f2 (A := (some other'.1)) (B := (some one'.2)) (h := (fun x7 y8 => (mulO x7 y8))) g_mul (t_ixc (A := (some other')) (k := 0) (pr := fun x5 => x5.1) (eb := eI) (fun _ => rfl) (t_var (i := 1) (e := (e2 eI eI)) (v := other') rfl)) (t_ixc (A := (some one')) (k := 1) (pr := fun x6 => x6.2) (eb := eI) (fun _ => rfl) (t_var (i := 0) (e := (e2 eI eI)) (v := one') rfl)))) (t_f2 (A := (some one'.2)) (B := (some other'.2)) (h := (fun x13 y14 => (mulO x13 y14))) g_mul (t_ixc (A := (some one')) (k := 1) (pr := fun x11 => x11.2) (eb := eI) (fun _ => rfl) (t_var (i := 0) (e := (e2 eI eI)) (v := one') rfl)) (t_ixc (A := (some other')) (k := 1) (pr := fun x12 => x12.2) (eb := eI) (fun _ => rfl) (t_var (i := 1) (e := (e2 eI eI)) (v := other') rfl)))))
def N_minus (one' : (Int × Int)) (other' : (Int × Int)) : Option (Int × Int) := (((mulO one'.1 other'.2).bind fun x9 => (mulO other'.1 one'.2).bind fun y10 => some (x9 - y10)).bind fun a15 => (mulO one'.2 other'.2).bind fun a16 => N_ratio a15 a16)
theorem t_minus (one' : (Int × Int)) (other' : (Int × Int)) : S_minus [(e2 eI eI) one', (e2 eI eI) other'] = (N_minus one' other').map (e2 eI eI) := d_run (r_ret (A := (((mulO one'.1 other'.2).bind fun x9 => (mulO other'.1 one'.2).bind fun y10 => some (x9 - y10)).bind fun a15 => (mulO one'.2 other'.2).bind fun a16 => N_ratio a15 a16)) (t_call2 (A := ((mulO one'.1 other'.2).bind fun x9 => (mulO other'.1 one'.2).bind fun y10 => some (x9 - y10))) (B := (mulO one'.2 other'.2)) t_ratio (t_f2 (A := (mulO one'.1 other'.2)) (B := (mulO other'.1 one'.2)) (h := (fun x9 y10 => some (x9 - y10))) g_sub (t_f2 (A := (some one'.1)) (B := (some other'.2)) (h := (fun x3 y4 => (mulO x3 y4))) g_mul (t_ixc (A := (some one')) (k := 0) (pr := fun x1 => x1.1) (eb := eI) (fun _ => rfl) (t_var (i := 0) (e := (e2 eI eI)) (v := one') rfl)) (t_ixc (A := (some other')) (k := 1) (pr := fun x2 => x2.2) (eb := eI) (fun _ => rfl) (t_var (i := 1) (e := (e2 eI eI)) (v := other') rfl))) (t_f2 (A := (some other'.1)) (B := (some one'.2)) (h := (fun x7 y8 => (mulO x7 y8))) g_mul (t_ixc (A := (some other')) (k := 0) (pr := fun x5 => x5.1) (eb := eI) (fun _ => rfl) (t_var (i := 1) (e := (e2 eI eI)) (v := other') rfl)) (t_ixc (A := (some one')) (k := 1) (pr := fun x6 => x6.2) (eb := eI) (fun _ => rfl) (t_var (i := 0) (e := (e2 eI eI)) (v := one') rfl)))) (t_f2 (A := (some one'.2)) (B := (some other'.2)) (h := (fun x13 y14 => (mulO x13 y14))) g_mul (t_ixc (A := (some one')) (k := 1) (pr := fun x11 => x11.2) (eb := eI) (fun _ => rfl) (t_var (i := 0) (e := (e2 eI eI)) (v := one') rfl)) (t_ixc (A := (some other')) (k := 1) (pr := fun x12 => x12.2) (eb := eI) (fun _ => rfl) (t_var (i := 1) (e := (e2 eI eI)) (v := other') rfl)))))
def N_times (one' : (Int × Int)) (other' : (Int × Int)) : Option (Int × Int) := ((mulO one'.1 other'.1).bind fun a9 => (mulO one'.2 other'.2).bind fun a10 => N_ratio a9 a10)
theorem t_times (one' : (Int × Int)) (other' : (Int × Int)) : S_times [(e2 eI eI) one', (e2 eI eI) other'] = (N_times one' other').map (e2 eI eI) := d_run (r_ret (A := ((mulO one'.1 other'.1).bind fun a9 => (mulO one'.2 other'.2).bind fun a10 => N_ratio a9 a10)) (t_call2 (A := (mulO one'.1 other'.1)) (B := (mulO one'.2 other'.2)) t_ratio (t_f2 (A := (some one'.1)) (B := (some other'.1)) (h := (fun x3 y4 => (mulO x3 y4))) g_mul (t_ixc (A := (some one')) (k := 0) (pr := fun x1 => x1.1) (eb := eI) (fun _ => rfl) (t_var (i := 0) (e := (e2 eI eI)) (v := one') rfl)) (t_ixc (A := (some other')) (k := 0) (pr := fun x2 => x2.1) (eb := eI) (fun _ => rfl) (t_var (i := 1) (e := (e2 eI eI)) (v := other') rfl))) (t_f2 (A := (some one'.2)) (B := (some other'.2)) (h := (fun x7 y8 => (mulO x7 y8))) g_mul (t_ixc (A := (some one')) (k := 1) (pr := fun x5 => x5.2) (eb := eI) (fun _ => rfl) (t_var (i := 0) (e := (e2 eI eI)) (v := one') rfl)) (t_ixc (A := (some other')) (k := 1) (pr := fun x6 => x6.2) (eb := eI) (fun _ => rfl) (t_var (i := 1) (e := (e2 eI eI)) (v := other') rfl)))))
def N_is_ratio (value' : (Int × Int)) : Option Bool := (iteO (some (!(true && (decide ((2 : Int) = (2 : Int)))))) (some false) ((some value').bind fun p6 => (andO (N_is_whole p6.1) (andO (N_is_whole p6.2) (some ((decide ((0 : Int) < p6.2)) && (decide (((Nat.gcd (p6.1).natAbs (p6.2).natAbs : Nat) : Int) = (1 : Int)))))))))
theorem t_is_ratio (value' : (Int × Int)) : S_is_ratio [(e2 eI eI) value'] = (N_is_ratio value').map eB := d_run (r_seq_ifret (P := (some (!(true && (decide ((2 : Int) = (2 : Int))))))) (A := (some false)) (t_knot (P := (some (true && (decide ((2 : Int) = (2 : Int)))))) (t_kandP (b := true) (c := (decide ((2 : Int) = (2 : Int)))) (t_T (P := (some true)) (t_isi (A := (some value')) (b := fun x1 => true) (fun _ => rfl) (t_var (i := 0) (e := (e2 eI eI)) (v := value') rfl))) (t_T (P := (some (decide ((2 : Int) = (2 : Int))))) (t_f2 (A := (some (2 : Int))) (B := (some (2 : Int))) (h := (fun x3 y4 => some (decide (x3 = y4)))) (g_eq enc_I rfl) (t_f1 (A := (some value')) (h := (fun x2 => some (2 : Int))) (fun _ => rfl) (t_var (i := 0) (e := (e2 eI eI)) (v := value') rfl)) (t_int (i := 2)))))) (r_ret (A := (some false)) (t_bl (b := false))) (r_seq_bind (A := (some value')) (envb := fun p6 => [.dat ((e2 eI eI) value'), .dat (eI p6.1), .dat (eI p6.2)]) (t_var (i := 0) (e := (e2 eI eI)) (v := value') rfl) (fun _ => rfl) (fun p6 => (r_ret (A := (andO (N_is_whole p6.1) (andO (N_is_whole p6.2) (some ((decide ((0 : Int) < p6.2)) && (decide (((Nat.gcd (p6.1).natAbs (p6.2).natAbs : Nat) : Int) = (1 : Int)))))))) (t_and (P := (N_is_whole p6.1)) (Q := (andO (N_is_whole p6.2) (some ((decide ((0 : Int) < p6.2)) && (decide (((Nat.gcd (p6.1).natAbs (p6.2).natAbs : Nat) : Int) = (1 : Int))))))) (t_call1 (A := (some p6.1)) t_is_whole (t_var (i := 1) (e := eI) (v := p6.1) rfl)) (t_and (P := (N_is_whole p6.2)) (Q := (some ((decide ((0 : Int) < p6.2)) && (decide (((Nat.gcd (p6.1).natAbs (p6.2).natAbs : Nat) : Int) = (1 : Int)))))) (t_call1 (A := (some p6.2)) t_is_whole (t_var (i := 2) (e := eI) (v := p6.2) rfl)) (t_andP (b := (decide ((0 : Int) < p6.2))) (c := (decide (((Nat.gcd (p6.1).natAbs (p6.2).natAbs : Nat) : Int) = (1 : Int)))) (t_f2 (A := (some p6.2)) (B := (some (0 : Int))) (h := (fun x9 y10 => some (decide (y10 < x9)))) g_gt (t_var (i := 2) (e := eI) (v := p6.2) rfl) (t_int (i := 0))) (t_f2 (A := (some ((Nat.gcd (p6.1).natAbs (p6.2).natAbs : Nat) : Int))) (B := (some (1 : Int))) (h := (fun x13 y14 => some (decide (x13 = y14)))) (g_eq enc_I rfl) (t_f2 (A := (some p6.1)) (B := (some p6.2)) (h := (fun x11 y12 => some ((Nat.gcd (x11).natAbs (y12).natAbs : Nat) : Int))) g_gcd (t_var (i := 1) (e := eI) (v := p6.1) rfl) (t_var (i := 2) (e := eI) (v := p6.2) rfl)) (t_int (i := 1))))))))))
end Ty
namespace DN
open PySem PySem.Spec PyProof.Rows L2
theorem Rep.fresh {K : PySem.W.Frag} {Ts : TsT} {He : Hp} {O : List Addr} {σ : St} {H H1 : Hp} {en : En} {a : Addr} {vs : List V} (r : Rep K Ts He O σ H en) (x : Xt H H1) (t : Tb Ts H1) (na : H a = none) (ha : H1 a = some (.lst vs)) :
    Rep K Ts He (a :: O) σ H1 en ∧ Xt (hide H O) (hide H1 (a :: O)) := by
  have r1 := r.go x t
  have back : Xt (hide H O) (hide H1 (a :: O)) := fun b o e => by
    obtain ⟨e1, e2⟩ := hide_some e
    have nb : b ∉ a :: O := fun z => by
      rcases List.mem_cons.mp z with z | z
      · rw [z, na] at e2; cases e2
      · exact e1 z
    rcases x b o e2 with q | ⟨ps, qs, e3, q⟩
    · exact .inl (hide_of nb q)
    · exact .inr ⟨ps, qs, e3, hide_of nb q⟩
  refine ⟨⟨r.len, fun j d h => let ⟨v, q1, q2⟩ := r.dat j d h; ⟨v, q1, Dp.mono back q2⟩, fun j es h => let ⟨a', vs', q1, q2, q3, q4, q5⟩ := r.own j es h; ⟨a', vs', q1, List.mem_cons_of_mem _ q2, q3, x.get a' _ q4 (fun _ z => nomatch z), DpAll.mono back q5⟩, r.inj, fun b hb => ?_, r1.ext, t⟩, back⟩
  rcases List.mem_cons.mp hb with z | z
  · rw [z, ha]
    exact ⟨by simp, fun ps z => nomatch z⟩
  · exact r1.occ b z
def rListOf (K : PySem.W.Frag) : List V → Hp → VK → Prop := fun vs H Q => ∃ b a xs, vs = [V.ref a] ∧ SqB K b H a xs ∧ ∀ p, H p = none → Q (.ref p) (upd H p (.lst xs))
theorem call_list_of {X : Cx} : CallR X (.type "list") (rListOf X.K) := by
  intro pins s σ H vs us Q I r h
  obtain ⟨b, a, xs, rfl, hs, q⟩ := h
  rw [Vals.ref1 r]
  have fin : ∀ (its : List Value) (T : String) (o : Obj) (n : Nat), (T = "list" ∨ T = "tuple") → s.heap.get? a = some o → o.cls = .type T → o.data = .seq its.toArray n → Vals xs its → xs.length ≤ sizeLine → wpAny (model X.prog X.w) X.A (call (.type "list") [.ref a]) (EP X pins σ Q) X.xe s := by
    intro its T o n hT ho hc hd rv hz
    refine call_list_seq a hT ho hc hd (fun h' c' hk hD => ?_) (by rw [List.size_toArray, ← rv.length]; exact hz)
    have I1 : Inv X pins σ (upd H s.heap.objs.size (.lst xs)) { s with heap := h' } :=
      I.laid (t' := s.toks) hk (Nat.le_refl _) (show ObjOk X.prog X.w _ _ _ (.lst xs) from ⟨hz, its, c', rv, hD⟩)
    exact ⟨.ref s.heap.objs.size, _, I1, rfl, q _ (I.hok.fresh (Nat.le_refl _))⟩
  cases b with
  | true =>
    obtain ⟨its, rv, pl, hz⟩ := I.list hs
    obtain ⟨o, ho, hc, n, hd⟩ := pl.isList
    exact fin its "list" o n (.inl rfl) ho hc hd rv hz
  | false =>
    obtain ⟨its, rv, pl, hz⟩ := I.tuple hs
    obtain ⟨o, ho, hc, n, hd⟩ := pl
    exact fin its "tuple" o n (.inr rfl) ho hc hd rv hz
def gList : PyData → Option PyData := fun d => (items d).map .list
def fList := f1 gList
theorem d_list {X : Cx} {Ts : TsT} {pos p : Pos} {e : Expr} {f : En → Option PyData} (hg : Gl X "list") (hm : X.mg "list" = none) (hv : bootBuiltins "list" = some (.type "list")) (ha : DB X Ts e f) (he : starEach [e] X.env = (false, eval e X.env) :: starEach [] X.env := by rfl) : DE X Ts (.Call (.Name "list" p) [e] [] pos) (fList f) :=
  b_argT call_list_of hg hm hv ha (he := he) fun d z v H O Q hz q t occ kk => by
    cases d <;> simp only [gList, items, Option.map_some, Option.map_none] at hz <;> try cases hz
    · obtain ⟨a, vs, rfl, h1, h2⟩ := q.lst
      exact ⟨true, a, vs, rfl, h1, fun l nl => kk _ _ (Xt.upd nl) (t.new nl) (lst_new nl (new_out occ nl) h2)⟩
    · rcases q with q | ⟨_, _, _, _, e, _⟩
      · cases q with
        | tup s a => exact ⟨false, _, _, rfl, sqT_mono (fun o n e => (hide_some e).2) s, fun l nl => kk _ _ (Xt.upd nl) (t.new nl) (lst_new nl (new_out occ nl) a)⟩
      · cases e
end DN
namespace ZL
open PySem PySem.Spec PyProof.Rows L2 DN
open Sem (wp)
theorem zip_no_len : typeLookup (.type "zip") "__len__" = pure none := am_miss_of_fast (by decide +kernel)
theorem zip_no_hint : typeLookup (.type "zip") "__length_hint__" = pure none := am_miss_of_fast (by decide +kernel)
section
variable {prog : Program} {w : World} {A : Around} {E : Value → Shared → Prop} {s : Shared} {z TI TO T i1 i2 i3 : Addr} {f : Bool} {oT : Obj} {fp1 fp2 fp3 : List Addr} {n1 n2 n3 i : Nat} {P1 P2 P3 : Nat → Value → Prop} {St1 St2 St3 : Nat → Heap → Prop}
theorem held3_item {Q : Value → Shared → Prop} (S : ZipSep3 z TI TO i1 i2 i3 fp1 fp2 fp3) (D1 : Draws prog w A i1 fp1 n1 P1 St1) (D2 : Draws prog w A i2 fp2 n2 P2 St2) (D3 : Draws prog w A i3 fp3 n3 P3 St3)
    (hz : IsZipHeld s.heap z TI TO T f) (hT : s.heap.get? T = some oT) (hTI : IsTupOf3 s.heap TI (.ref i1) (.ref i2) (.ref i3)) (st1 : St1 i s.heap) (st2 : St2 i s.heap) (st3 : St3 i s.heap) (hlt1 : i < n1) (hlt2 : i < n2) (hlt3 : i < n3)
    (hQ : ∀ x1 x2 x3 h' tk, P1 i x1 → P2 i x2 → P3 i x3 → IsZipHeld h' z TI TO T true → St1 (i + 1) h' → St2 (i + 1) h' → St3 (i + 1) h' → IsTupOf3 h' s.heap.objs.size x1 x2 x3 → h'.objs.size = s.heap.objs.size + 1 →
      (∀ c o, c ≠ z → c ≠ i1 → c ≠ i2 → c ≠ i3 → s.heap.get? c = some o → h'.get? c = some o) → Q (.ref s.heap.objs.size) { s with heap := h', toks := tk }) :
    wpAny (model prog w) A (Builtin.«zip.__next__» ⟨[.ref z], []⟩) (fun fin s' => ∃ v, fin = .done (.ret v) ∧ Q v s') E s := by
  obtain ⟨hp, g, d, tk0, os⟩ := s
  show wpAny _ _ (field (.ref z) 2 >>= _) _ _ _
  refine wpAny_bind (wpAny_field hz rfl (x := .bool false) rfl ?_)
  show wpAny _ _ (field (.ref z) 3 >>= _) _ _ _
  refine wpAny_bind (wpAny_field hz rfl (x := .ref TI) rfl ?_)
  refine wpAny_bind (wpAny_seqItems hTI rfl ?_)
  show wpAny _ _ (Builtin.SmallTypes.ownedTupleIsFree (.ref z) >>= _) _ _ _
  refine wpAny_bind (wpAny_tupleHeld_zip hz hT fun g0 hz0 hs0 => ?_)
  replace hs0 : Heap.SameBut z hp g0 := hs0
  simp only [Bool.false_eq_true, if_false]
  refine wpAny_bind ?_
  rw [← Array.forIn_toList]
  simp only [List.forIn_cons, List.forIn_nil]
  refine wpAny_bind (wpAny_bind (wpAny_holding ?_))
  show wpAny _ _ (Builtin.SmallTypes.nextOf (.ref i1) >>= _) _ _ _
  refine wpAny_bind (D1.item i ⟨g0, g, d, tk0, os⟩ _ _ hlt1 (D1.over st1 hs0 S.zf1) fun x1 p1 tk1 hx1 sn1 hp1 => wpAny_pure ?_)
  replace hp1 : Heap.SameBut i1 g0 p1 := hp1
  refine wpAny_pure ?_
  refine wpAny_bind (wpAny_bind (wpAny_holding ?_))
  show wpAny _ _ (Builtin.SmallTypes.nextOf (.ref i2) >>= _) _ _ _
  refine wpAny_bind (D2.item i ⟨p1, g, d, tk1, os⟩ _ _ hlt2 (D2.over (D2.over st2 hs0 S.zf2) hp1 S.sep1_2) fun x2 p2 tk2 hx2 sn2 hp2 => wpAny_pure ?_)
  replace hp2 : Heap.SameBut i2 p1 p2 := hp2
  refine wpAny_pure ?_
  refine wpAny_bind (wpAny_bind (wpAny_holding ?_))
  show wpAny _ _ (Builtin.SmallTypes.nextOf (.ref i3) >>= _) _ _ _
  refine wpAny_bind (D3.item i ⟨p2, g, d, tk2, os⟩ _ _ hlt3 (D3.over (D3.over (D3.over st3 hs0 S.zf3) hp1 S.sep1_3) hp2 S.sep2_3) fun x3 p3 tk3 hx3 sn3 hp3 => wpAny_pure ?_)
  replace hp3 : Heap.SameBut i3 p2 p3 := hp3
  refine wpAny_pure (wpAny_pure ?_)
  show wpAny _ _ (newTuple [x1, x2, x3] >>= _) _ _ _
  refine wpAny_bind (wpAny_newTuple ?_)
  have hsz : p3.objs.size = hp.objs.size := by rw [hp3.1, hp2.1, hp1.1, hs0.1]
  have hz3 : IsZipHeld p3 z TI TO T true := hp3.extBut _ _ S.zi3 (hp2.extBut _ _ S.zi2 (hp1.extBut _ _ S.zi1 hz0))
  have hk : ∀ c o, c ≠ z → c ≠ i1 → c ≠ i2 → c ≠ i3 → hp.get? c = some o → p3.get? c = some o := fun c o c1 c2 c3 c4 e => hp3.extBut _ _ c4 (hp2.extBut _ _ c3 (hp1.extBut _ _ c2 (hs0.extBut _ _ c1 e)))
  refine wpAny_pure ⟨_, rfl, ?_⟩
  show Q (.ref p3.objs.size) _
  have up : ∀ c o, p3.get? c = some o → (p3.push { cls := .type "tuple", data := .seq #[x1, x2, x3] }).get? c = some o := fun c o e => Heap.get?_push_of_some _ e
  have hp4 : IsTupOf3 (p3.push { cls := .type "tuple", data := .seq #[x1, x2, x3] }) p3.objs.size x1 x2 x3 := Heap.get?_push_size _ rfl
  have hz4 : (p3.push { cls := .type "tuple", data := .seq #[x1, x2, x3] }).objs.size = p3.objs.size + 1 := Heap.size_push ..
  have j1 : St1 (i + 1) p3 := D1.over (D1.over sn1 hp2 S.sep2_1) hp3 S.sep3_1
  have j2 : St2 (i + 1) p3 := D2.over sn2 hp3 S.sep3_2
  rw [hsz] at hp4 hz4 ⊢
  exact hQ x1 x2 x3 _ tk3 hx1 hx2 hx3 (up _ _ hz3) (D1.frame _ _ _ j1 fun b _ o e => up b o e) (D2.frame _ _ _ j2 fun b _ o e => up b o e) (D3.frame _ _ _ sn3 fun b _ o e => up b o e) hp4 hz4 fun c o c1 c2 c3 c4 e => up _ _ (hk c o c1 c2 c3 c4 e)
theorem held3_end {Q : Fin → Shared → Prop} (S : ZipSep3 z TI TO i1 i2 i3 fp1 fp2 fp3) (D1 : Draws prog w A i1 fp1 n1 P1 St1) (D2 : Draws prog w A i2 fp2 n2 P2 St2) (D3 : Draws prog w A i3 fp3 n3 P3 St3)
    (hz : IsZipHeld s.heap z TI TO T f) (hT : s.heap.get? T = some oT) (hTI : IsTupOf3 s.heap TI (.ref i1) (.ref i2) (.ref i3)) (st1 : St1 i s.heap) (st2 : St2 i s.heap) (st3 : St3 i s.heap) (hle1 : i ≤ n1) (hle2 : i ≤ n2) (hle3 : i ≤ n3) (hend : i = n1 ∨ i = n2 ∨ i = n3)
    (hE : ∀ h' tk e, (∀ c o, c ≠ z → c ≠ i1 → c ≠ i2 → c ≠ i3 → s.heap.get? c = some o → h'.get? c = some o) → (∃ o, h'.get? e = some o ∧ o.cls = .type "StopIteration") → E (.ref e) { s with heap := h', toks := tk }) :
    wpAny (model prog w) A (Builtin.«zip.__next__» ⟨[.ref z], []⟩) Q E s := by
  obtain ⟨hp, g, d, tk0, os⟩ := s
  show wpAny _ _ (field (.ref z) 2 >>= _) _ _ _
  refine wpAny_bind (wpAny_field hz rfl (x := .bool false) rfl ?_)
  show wpAny _ _ (field (.ref z) 3 >>= _) _ _ _
  refine wpAny_bind (wpAny_field hz rfl (x := .ref TI) rfl ?_)
  refine wpAny_bind (wpAny_seqItems hTI rfl ?_)
  show wpAny _ _ (Builtin.SmallTypes.ownedTupleIsFree (.ref z) >>= _) _ _ _
  refine wpAny_bind (wpAny_tupleHeld_zip hz hT fun g0 hz0 hs0 => ?_)
  replace hs0 : Heap.SameBut z hp g0 := hs0
  simp only [Bool.false_eq_true, if_false]
  refine wpAny_bind ?_
  rw [← Array.forIn_toList]
  simp only [List.forIn_cons, List.forIn_nil]
  refine wpAny_bind (wpAny_bind (wpAny_holding ?_))
  show wpAny _ _ (Builtin.SmallTypes.nextOf (.ref i1) >>= _) _ _ _
  by_cases hlt1 : i < n1
  · refine wpAny_bind (D1.item i ⟨g0, g, d, tk0, os⟩ _ _ hlt1 (D1.over st1 hs0 S.zf1) fun x1 p1 tk1 hx1 sn1 hp1 => wpAny_pure ?_)
    replace hp1 : Heap.SameBut i1 g0 p1 := hp1
    refine wpAny_pure ?_
    refine wpAny_bind (wpAny_bind (wpAny_holding ?_))
    show wpAny _ _ (Builtin.SmallTypes.nextOf (.ref i2) >>= _) _ _ _
    have st2' : St2 i p1 := D2.over (D2.over st2 hs0 S.zf2) hp1 S.sep1_2
    have st3' : St3 i p1 := D3.over (D3.over st3 hs0 S.zf3) hp1 S.sep1_3
    by_cases hlt2 : i < n2
    · refine wpAny_bind (D2.item i ⟨p1, g, d, tk1, os⟩ _ _ hlt2 st2' fun x2 p2 tk2 hx2 sn2 hp2 => wpAny_pure ?_)
      replace hp2 : Heap.SameBut i2 p1 p2 := hp2
      have hi3 : i = n3 := by omega
      refine wpAny_pure ?_
      refine wpAny_bind (wpAny_bind (wpAny_holding ?_))
      show wpAny _ _ (Builtin.SmallTypes.nextOf (.ref i3) >>= _) _ _ _
      refine wpAny_bind (D3.done ⟨p2, g, d, tk2, os⟩ _ _ (by rw [← hi3]; exact D3.over st3' hp2 S.sep2_3) fun q e hq he => ?_)
      replace hq : Heap.ExtBut i3 p2 q := hq
      exact hE q tk2 e (fun c o cz c1 c2 c3 x => hq _ _ c3 (hp2.extBut _ _ c2 (hp1.extBut _ _ c1 (hs0.extBut _ _ cz x)))) he
    · have hi2 : i = n2 := by omega
      refine wpAny_bind (D2.done ⟨p1, g, d, tk1, os⟩ _ _ (by rw [← hi2]; exact st2') fun q e hq he => ?_)
      replace hq : Heap.ExtBut i2 p1 q := hq
      exact hE q tk1 e (fun c o cz c1 c2 c3 x => hq _ _ c2 (hp1.extBut _ _ c1 (hs0.extBut _ _ cz x))) he
  · have hi1 : i = n1 := by omega
    refine wpAny_bind (D1.done ⟨g0, g, d, tk0, os⟩ _ _ (by rw [← hi1]; exact (D1.over st1 hs0 S.zf1)) fun q e hq he => ?_)
    replace hq : Heap.ExtBut i1 g0 q := hq
    exact hE q tk0 e (fun c o cz c1 c2 c3 x => hq _ _ c1 (hs0.extBut _ _ cz x)) he
theorem next3_item {Q : Option Value → Shared → Prop} (S : ZipSep3 z TI TO i1 i2 i3 fp1 fp2 fp3) (D1 : Draws prog w A.in1 i1 fp1 n1 P1 St1) (D2 : Draws prog w A.in1 i2 fp2 n2 P2 St2) (D3 : Draws prog w A.in1 i3 fp3 n3 P3 St3)
    (hz : IsZipHeld s.heap z TI TO T f) (hT : s.heap.get? T = some oT) (hTI : IsTupOf3 s.heap TI (.ref i1) (.ref i2) (.ref i3)) (st1 : St1 i s.heap) (st2 : St2 i s.heap) (st3 : St3 i s.heap) (hlt1 : i < n1) (hlt2 : i < n2) (hlt3 : i < n3)
    (hQ : ∀ x1 x2 x3 h' tk, P1 i x1 → P2 i x2 → P3 i x3 → IsZipHeld h' z TI TO T true → St1 (i + 1) h' → St2 (i + 1) h' → St3 (i + 1) h' → IsTupOf3 h' s.heap.objs.size x1 x2 x3 → h'.objs.size = s.heap.objs.size + 1 →
      (∀ c o, c ≠ z → c ≠ i1 → c ≠ i2 → c ≠ i3 → s.heap.get? c = some o → h'.get? c = some o) → Q (some (.ref s.heap.objs.size)) { s with heap := h', toks := tk }) : wpAny (model prog w) A (pyNext (.ref z)) Q E s := by
  have hTy : s.TypeIs (.ref z) "zip" := ⟨_, hz, rfl⟩
  unfold pyNext
  exact wpAny_bind (wpAny_attempt (wpAny_callSpecial?_slot (name := Str.ofString "__next__") hTy F.slot_zip_next
    (wpAny_call_entry F.slot_zip_next hTy F.entry_zip_next
      (held3_item S D1 D2 D3 hz hT hTI st1 st2 st3 hlt1 hlt2 hlt3 fun x1 x2 x3 h' tk y1 y2 y3 b1 d1 d2 d3 b5 b6 b7 => wpAny_pure (hQ x1 x2 x3 h' tk y1 y2 y3 b1 d1 d2 d3 b5 b6 b7)) (F.args_zip_next_1 _))))
theorem next3_end {Q : Option Value → Shared → Prop} (S : ZipSep3 z TI TO i1 i2 i3 fp1 fp2 fp3) (D1 : Draws prog w A.in1 i1 fp1 n1 P1 St1) (D2 : Draws prog w A.in1 i2 fp2 n2 P2 St2) (D3 : Draws prog w A.in1 i3 fp3 n3 P3 St3)
    (hz : IsZipHeld s.heap z TI TO T f) (hT : s.heap.get? T = some oT) (hTI : IsTupOf3 s.heap TI (.ref i1) (.ref i2) (.ref i3)) (st1 : St1 i s.heap) (st2 : St2 i s.heap) (st3 : St3 i s.heap) (hle1 : i ≤ n1) (hle2 : i ≤ n2) (hle3 : i ≤ n3) (hend : i = n1 ∨ i = n2 ∨ i = n3)
    (hQ : ∀ h' tk, (∀ c o, c ≠ z → c ≠ i1 → c ≠ i2 → c ≠ i3 → s.heap.get? c = some o → h'.get? c = some o) → Q none { s with heap := h', toks := tk }) : wpAny (model prog w) A (pyNext (.ref z)) Q E s := by
  have hTy : s.TypeIs (.ref z) "zip" := ⟨_, hz, rfl⟩
  unfold pyNext
  refine wpAny_bind (wpAny_attempt (wpAny_callSpecial?_slot (name := Str.ofString "__next__") hTy F.slot_zip_next
    (wpAny_call_entry F.slot_zip_next hTy F.entry_zip_next (held3_end S D1 D2 D3 hz hT hTI st1 st2 st3 hle1 hle2 hle3 hend fun h' tk e hk he => ?_) (F.args_zip_next_1 _))))
  obtain ⟨o, ho, hc⟩ := he
  refine wpAny_bind (wpAny_isInstance (T := "StopIteration") (b := true) ⟨o, ho, hc⟩ isSubtype_stop ?_)
  exact wpAny_pure (hQ _ _ hk)
end
structure ZipW (prog : Program) (w : World) (A : Around) (z : Addr) (fp wr : List Addr) (n : Nat) (P : Nat → Array Value → Prop) (St : Nat → Addr → Heap → Prop) : Prop where
  sub : ∀ b ∈ wr, b ∈ fp
  typ : ∀ i T (s : Shared), St i T s.heap → s.TypeIs (.ref z) "zip"
  item : ∀ i T (s : Shared) (Q : Option Value → Shared → Prop) (E : Value → Shared → Prop), i < n → St i T s.heap →
    (∀ vals h' tk T', P i vals → St (i + 1) T' h' → (T' = T ∨ T' = s.heap.objs.size) → h'.get? s.heap.objs.size = some { cls := .type "tuple", data := .seq vals } → h'.objs.size = s.heap.objs.size + 1 → (∀ c o, c ∉ wr → s.heap.get? c = some o → h'.get? c = some o) → Q (some (.ref s.heap.objs.size)) { s with heap := h', toks := tk }) → wpAny (model prog w) A (pyNext (.ref z)) Q E s
  done : ∀ T (s : Shared) (Q : Option Value → Shared → Prop) (E : Value → Shared → Prop), St n T s.heap → (∀ h' tk, (∀ c o, c ∉ wr → s.heap.get? c = some o → h'.get? c = some o) → Q none { s with heap := h', toks := tk }) → wpAny (model prog w) A (pyNext (.ref z)) Q E s
  keep : ∀ i T h h', St i T h → (∀ b ∈ fp, ∀ o, h.get? b = some o → h'.get? b = some o) → (∀ o, h.get? T = some o → h'.get? T = some o) → St i T h'
  self : ∀ T (s : Shared) (Q : Value → Shared → Prop) (E : Value → Shared → Prop), St 0 T s.heap → Q (.ref z) s → wpAny (model prog w) A (pyIter (.ref z)) Q E s
structure ZlG (P : Nat → Array Value → Prop) (lo : Addr) (h : Heap) (as : List Addr) : Prop where
  rise : as.Pairwise (· < ·)
  above : ∀ a ∈ as, lo < a
  pairs : ∀ (j : Nat) (a : Addr), as[j]? = some a → ∃ vals, P j vals ∧ h.get? a = some { cls := .type "tuple", data := .seq vals }
theorem ZlG.there {P : Nat → Array Value → Prop} {lo : Addr} {h : Heap} {as : List Addr} (g : ZlG P lo h as) {a : Addr} (ha : a ∈ as) : a < h.objs.size := by
  obtain ⟨j, hj⟩ := List.mem_iff_getElem?.mp ha
  obtain ⟨_, _, e⟩ := g.pairs j a hj
  exact Heap.lt_size e
section
variable {prog : Program} {w : World} {A : Around} {s : Shared} {R : Result → Shared → Prop} {z : Addr} {fp wr : List Addr} {n : Nat} {P : Nat → Array Value → Prop} {St : Nat → Addr → Heap → Prop}
theorem zl_loop {S : Addr} (W : ZipW prog w A.in1 z fp wr n P St) (hfp : ∀ b ∈ fp, b < S) (hn : n ≤ sizeLine) (res : Value) {h₁ : Heap}
    (hR : ∀ h' tk acc c as, (∀ b o, b ≠ S → b ∉ wr → h₁.get? b = some o → h'.get? b = some o) → h'.get? S = some { cls := .type "list", dict := none, data := .seq acc c, slots := #[] } → as.length = n → ZlG P S h' as →
      acc.toList = as.map Value.ref → R (.ok (.ret res)) { s with heap := h', toks := tk }) :
    ∀ (k i : Nat) (h : Heap) (tk c : Nat) (acc : Array Value) (as : List Addr) (T : Addr), n - i = k → i ≤ n → St i T h → T ≠ S → (∀ b o, b ≠ S → b ∉ wr → h₁.get? b = some o → h.get? b = some o) →
      h.get? S = some { cls := .type "list", dict := none, data := .seq acc c, slots := #[] } → acc.toList = as.map Value.ref → as.length = i → ZlG P S h as →
      codeAny (model prog w) A (.builtin "list.extend.loop" ⟨[.ref S, .ref z, res], []⟩) R { s with heap := h, toks := tk } := by
  have hSf : S ∉ fp := fun m => Nat.lt_irrefl _ (hfp _ m)
  have hSw : S ∉ wr := fun m => hSf (W.sub _ m)
  intro k
  induction k with
  | zero =>
    intro i h tk c acc as T hk hi hst hTS hkeep hS hacc hal hG
    have hin : i = n := by omega
    subst hin
    refine codeAny_builtin PySem.F.entry_extend_loop ?_
    rw [Around.under_plainId PySem.F.plain_extend_loop _]
    show wpAny _ A.in1 (pyNext (.ref z) >>= _) _ _ _
    refine wpAny_bind (W.done T { s with heap := h, toks := tk } _ _ hst fun h' tk' he => ?_)
    replace he : ∀ c o, c ∉ wr → h.get? c = some o → h'.get? c = some o := he
    refine wpAny_pure (hR h' tk' acc c as (fun b o h1 h2 e => he b o h2 (hkeep b o h1 h2 e)) (he S _ hSw hS) hal ⟨hG.rise, hG.above, fun j a hj => ?_⟩ hacc)
    obtain ⟨vals, e1, e2⟩ := hG.pairs j a hj
    exact ⟨vals, e1, he a _ (fun m => Nat.lt_asymm (hfp _ (W.sub _ m)) (hG.above a (List.mem_of_getElem? hj))) e2⟩
  | succ k ih =>
    intro i h tk c acc as T hk hi hst hTS hkeep hS hacc hal hG
    have hlt : i < n := by omega
    have hsz : acc.size = i := by rw [← Array.length_toList, hacc, List.length_map, hal]
    refine codeAny_builtin PySem.F.entry_extend_loop ?_
    rw [Around.under_plainId PySem.F.plain_extend_loop _]
    show wpAny _ A.in1 (pyNext (.ref z) >>= _) _ _ _
    refine wpAny_bind (W.item i T { s with heap := h, toks := tk } _ _ hlt hst fun vals h' tk' T' hP hst' hT' ht hz' hkp => ?_)
    replace hT' : T' = T ∨ T' = h.objs.size := hT'
    replace ht : h'.get? h.objs.size = some { cls := .type "tuple", data := .seq vals } := ht
    replace hkp : ∀ c o, c ∉ wr → h.get? c = some o → h'.get? c = some o := hkp
    have hS' := hkp S _ hSw hS
    have hSl : S < h.objs.size := Heap.lt_size hS
    have hT'S : T' ≠ S := by
      rcases hT' with e | e
      · rw [e]; exact hTS
      · rw [e]; exact Nat.ne_of_gt hSl
    have up : ∀ b o, b ≠ S → h'.get? b = some o → (h'.update S (Obj.mapSeq (·.push (Value.ref h.objs.size)))).get? b = some o := fun b o hb e => (Heap.get?_update_other _ _ (Ne.symm hb)).trans e
    show wpAny _ A.in1 (updateSeq S (·.push (Value.ref h.objs.size)) >>= _) _ _ _
    refine wpAny_bind ?_
    refine wpAny_updateSeq hS' rfl (wpAny_pure ⟨plainId_quiet PySem.F.plain_extend_loop _, ih (i + 1) _ tk' _ (acc.push (Value.ref h.objs.size)) (as ++ [h.objs.size]) T' (by omega) hlt (W.keep _ _ _ _ hst' (fun b hb o e => up b o (fun q => hSf (q ▸ hb)) e) (fun o e => up T' o hT'S e)) hT'S
      (fun b o h1 h2 e => up b o h1 (hkp b o h2 (hkeep b o h1 h2 e))) (Heap.get?_update_self _ hS' rfl) (by rw [Array.toList_push, hacc, List.map_append]; rfl) (by rw [List.length_append, hal]; rfl) ⟨?_, ?_, ?_⟩⟩) (by rw [hsz]; omega) (by show (acc.push (Value.ref h.objs.size)).size ≤ sizeLine + 1; rw [Array.size_push, hsz]; omega)
    · refine List.pairwise_append.mpr ⟨hG.rise, List.pairwise_singleton _ _, fun a ha b hb => ?_⟩
      rw [List.mem_singleton.mp hb]
      exact hG.there ha
    · intro a ha
      rcases List.mem_append.mp ha with ha | ha
      · exact hG.above a ha
      · rw [List.mem_singleton.mp ha]; exact hSl
    · intro j b hj
      rcases Nat.lt_trichotomy j as.length with h1 | h1 | h1
      · rw [List.getElem?_append_left h1] at hj
        obtain ⟨vals', e1, e2⟩ := hG.pairs j b hj
        have hb := hG.above b (List.mem_of_getElem? hj)
        exact ⟨vals', e1, up b _ (Nat.ne_of_gt hb) (hkp b _ (fun m => Nat.lt_asymm (hfp _ (W.sub _ m)) hb) e2)⟩
      · subst h1
        have hb : h.objs.size = b := by simpa using hj
        subst hb
        exact ⟨vals, by rw [hal]; exact hP, up _ _ (Nat.ne_of_gt hSl) ht⟩
      · have hnone : (as ++ [h.objs.size])[j]? = none := List.getElem?_eq_none (by rw [List.length_append, List.length_singleton]; omega)
        rw [hnone] at hj; cases hj
theorem zl_extend {S : Addr} (W : ZipW prog w A.in1 z fp wr n P St) (W2 : ∀ T (s : Shared) (Q : Value → Shared → Prop) (E : Value → Shared → Prop), St 0 T s.heap → Q (.ref z) s → wpAny (model prog w) A.in1 (pyIter (.ref z)) Q E s) (hfp : ∀ b ∈ fp, b < S) (hzf : z ∈ fp) (hn : n ≤ sizeLine) (res : Value) (c₀ : Nat) {T : Addr} (hst : St 0 T s.heap) (hTS : T ≠ S)
    (hS : s.heap.get? S = some { cls := .type "list", data := .seq #[] c₀ })
    (hR : ∀ h' tk acc c as, (∀ b o, b ≠ S → b ∉ wr → s.heap.get? b = some o → h'.get? b = some o) → h'.get? S = some { cls := .type "list", dict := none, data := .seq acc c, slots := #[] } → as.length = n → ZlG P S h' as →
      acc.toList = as.map Value.ref → R (.ok (.ret res)) { s with heap := h', toks := tk }) :
    wpAny (model prog w) A.in1 (Builtin.List.listExtendWith (.ref S) (.ref z) res)
      (fun fin s' => match fin with | .done f => R (.ok f) s' | .again c' => c'.quiet = true ∧ codeAny (model prog w) A c' R s') (fun e s' => R (.error e) s') s := by
  have hSf : S ∉ fp := fun m => Nat.lt_irrefl _ (hfp _ m)
  have hSz : S ≠ z := fun e => hSf (e ▸ hzf)
  unfold Builtin.List.listExtendWith
  refine wpAny_bind (wpAny_typeOf (W.typ 0 T _ hst) ?_)
  have h1 : Builtin.List.listSameRef (.ref S) (.ref z) = false := by simp [Builtin.List.listSameRef, hSz]
  have h2 : (Value.type "zip" == Value.type "list") = false := by decide
  have h3 : (Value.type "zip" == Value.type "tuple") = false := by decide
  simp only [h1, h2, h3, Bool.or_false, Bool.false_eq_true, if_false]
  refine wpAny_bind (W2 T _ _ _ hst ?_)
  refine wpAny_bind (wpAny_holding ?_)
  unfold Builtin.List.listLengthHint
  refine wpAny_bind (wpAny_specialOf (W.typ 0 T _ hst) zip_no_len ?_)
  show wpAny _ A.in1 (specialOf (Value.ref z) (Str.ofString "__length_hint__") >>= _) _ _ _
  refine wpAny_bind (wpAny_specialOf (W.typ 0 T _ hst) zip_no_hint ?_)
  refine wpAny_pure ?_
  show wpAny _ A.in1 (rule "list.extend.makes-room" >>= fun _ => Builtin.List.listTouch (.ref S) >>= fun _ =>
    again (.builtin "list.extend.loop" ⟨[.ref S, .ref z, res], []⟩)) _ _ _
  refine wpAny_bind (wpAny_rule ?_)
  refine wpAny_bind ?_
  show wpAny _ A.in1 (updateSeq S (·.push .none) >>= fun _ => updateSeq S (·.pop)) _ _ _
  refine wpAny_bind (wpAny_updateSeq hS rfl ?_)
  have hS₂ := Heap.get?_update_self (Obj.mapSeq (·.push Value.none)) hS rfl
  refine wpAny_updateSeq (hz := by seq_fits) hS₂ rfl ?_
  have hS₃ := Heap.get?_update_self (Obj.mapSeq (·.pop)) hS₂ rfl
  have oth : ∀ b o, b ≠ S → s.heap.get? b = some o → ((s.heap.update S (Obj.mapSeq (·.push Value.none))).update S (Obj.mapSeq (·.pop))).get? b = some o :=
    fun b o hb e => (Heap.get?_update_other _ _ (Ne.symm hb)).trans ((Heap.get?_update_other _ _ (Ne.symm hb)).trans e)
  exact wpAny_pure ⟨plainId_quiet PySem.F.plain_extend_loop _, zl_loop (s := s) W hfp hn res hR n 0 _ s.toks _ #[] [] T (Nat.sub_zero _) (Nat.zero_le _) (W.keep _ _ _ _ hst (fun b hb o e => oth b o (fun q => hSf (q ▸ hb)) e) (fun o e => oth T o hTS e)) hTS (fun b o hb _ e => oth b o hb e) hS₃ rfl rfl ⟨List.Pairwise.nil, (fun _ ha => nomatch ha), (fun j a hj => by simp at hj)⟩⟩
end
section
variable {prog : Program} {w : World} {A : Around} {E : Value → Shared → Prop} {s : Shared} {z : Addr} {fp wr : List Addr} {n : Nat} {P : Nat → Array Value → Prop} {St : Nat → Addr → Heap → Prop}
theorem zl_call {Q : Value → Shared → Prop} (W : ZipW prog w A.in1.in1 z fp wr n P St) (hfp : ∀ b ∈ fp, b < s.heap.objs.size) (hzf : z ∈ fp) (hn : n ≤ sizeLine) {T : Addr} (hTf : T ∈ fp) (hst : St 0 T s.heap)
    (hQ : ∀ h' tk acc c as, (∀ b o, b ∉ wr → s.heap.get? b = some o → h'.get? b = some o) → h'.get? s.heap.objs.size = some { cls := .type "list", dict := none, data := .seq acc c, slots := #[] } → as.length = n → ZlG P s.heap.objs.size h' as →
      acc.toList = as.map Value.ref → Q (.ref s.heap.objs.size) { s with heap := h', toks := tk }) :
    wpAny (model prog w) A (call (.type "list") [.ref z]) Q E s := by
  refine callType_codes (Q₁ := fun obj s₁ => obj = .ref s.heap.objs.size ∧ s₁ = { s with heap := s.heap.push { cls := .type "list", data := .seq #[] } }) PySem.F.called_list (PySem.F.typeCall_list_1 _) PySem.F.entry_list_init
    (code_list_new _ ⟨rfl, rfl⟩) fun obj s₁ h₁ => ?_
  obtain ⟨rfl, rfl⟩ := h₁
  have hS : (s.heap.push { cls := .type "list", data := .seq #[] }).get? s.heap.objs.size = some { cls := .type "list", data := .seq #[] } := Heap.get?_push_size _ rfl
  refine ⟨⟨_, hS, rfl⟩, PySem.F.args_list_init_2 _ _, ?_⟩
  have hSf : s.heap.objs.size ∉ fp := fun m => Nat.lt_irrefl _ (hfp _ m)
  show wpAny _ A.in1.in1 (do let old ← Builtin.List.listItems (.ref s.heap.objs.size); Builtin.List.listUpdate (.ref s.heap.objs.size) (fun _ => #[]); letGo old.toList.reverse; Builtin.List.listExtendWith (.ref s.heap.objs.size) (.ref z) .none) _ _ _
  refine wpAny_bind ?_
  unfold Builtin.List.listItems
  refine wpAny_bind (wpAny_seqItems hS rfl (wpAny_pure ?_))
  show wpAny _ A.in1.in1 (updateSeq s.heap.objs.size (fun _ => #[]) >>= fun _ => letGo (#[] : Array Value).toList.reverse >>= fun _ => Builtin.List.listExtendWith (.ref s.heap.objs.size) (.ref z) .none) _ _ _
  refine wpAny_bind (wpAny_updateSeq hS rfl ?_)
  have hS₂ := Heap.get?_update_self (Obj.mapSeq (fun _ => (#[] : Array Value))) hS rfl
  have oth : ∀ b o, b ≠ s.heap.objs.size → s.heap.get? b = some o → ((s.heap.push { cls := .type "list", data := .seq #[] }).update s.heap.objs.size (Obj.mapSeq (fun _ => (#[] : Array Value)))).get? b = some o :=
    fun b o hb e => (Heap.get?_update_other _ _ (Ne.symm hb)).trans (Heap.get?_push_of_some _ e)
  refine wpAny_bind (wpAny_letGo ?_)
  refine zl_extend (A := A.in1) W W.self hfp hzf hn .none _ (T := T) (W.keep _ _ _ _ hst (fun b hb o e => oth b o (fun q => hSf (q ▸ hb)) e) (fun o e => oth T o (fun q => hSf (q ▸ hTf)) e)) (fun q => hSf (q ▸ hTf)) hS₂ fun h' tk acc c as hk hS' hl hG hacc => ?_
  exact ⟨rfl, hQ h' tk acc c as (fun b o hb e => hk b o (Nat.ne_of_lt (Heap.lt_size e)) hb (oth b o (Nat.ne_of_lt (Heap.lt_size e)) e)) hS' hl hG hacc⟩
end
def putTs : Hp → List Addr → List (List V) → Hp
  | H, a :: as, p :: ts => putTs (upd H a (.tup p)) as ts
  | H, _, _ => H
theorem putTs_off {b : Addr} : ∀ (as : List Addr) (ts : List (List V)) (H : Hp), b ∉ as → putTs H as ts b = H b
  | [], _, _, _ => rfl
  | _ :: _, [], _, _ => rfl
  | a :: as, p :: ts, H, h => by
    show putTs (upd H a (.tup p)) as ts b = H b
    rw [putTs_off as ts _ (fun z => h (List.mem_cons_of_mem _ z)), upd_ne (fun z => h (by rw [z]; exact List.mem_cons_self))]
theorem putTs_at : ∀ (as : List Addr) (ts : List (List V)) (H : Hp), as.Nodup → ∀ (j : Nat) (a : Addr) (t : List V), as[j]? = some a → ts[j]? = some t → putTs H as ts a = some (.tup t)
  | a :: as, p :: ts, H, hn, 0, b, t, h1, h2 => by
    have hn' := List.nodup_cons.mp hn
    simp at h1 h2
    subst h1 h2
    show putTs (upd H a (.tup p)) as ts a = some (.tup p)
    rw [putTs_off as ts _ hn'.1, upd_same]
  | a :: as, p :: ts, H, hn, j + 1, b, t, h1, h2 => by
    rw [List.getElem?_cons_succ] at h1 h2
    show putTs (upd H a (.tup p)) as ts b = some (.tup t)
    exact putTs_at as ts _ (List.nodup_cons.mp hn).2 j b t h1 h2
  | [], _, _, _, _, _, _, h1, _ => by simp at h1
  | _ :: _, [], _, _, _, _, _, _, h2 => by simp at h2
section
variable {X : Cx} {pins : List (Addr × Obj)} {σ : L2.St} {H : Hp} {s : Shared}
theorem zl_laid {h' : Heap} {tk : Nat} {S : Addr} {ts : List (List V)} {P : Nat → Array Value → Prop} {acc : Array Value} {c : Nat} {as : List Addr} (I : Inv X pins σ H s) (hz : ts.length ≤ sizeLine) (hS0 : s.heap.objs.size ≤ S)
    (hk : ∀ b o, s.heap.get? b = some o → h'.get? b = some o) (hS : h'.get? S = some { cls := .type "list", dict := none, data := .seq acc c, slots := #[] }) (hl : as.length = ts.length) (hG : ZlG P S h' as) (hacc : acc.toList = as.map Value.ref)
    (hv : ∀ j vals, P j vals → ∃ t, ts[j]? = some t ∧ Vals t vals.toList ∧ t.length ≤ sizeLine) :
    ∃ H' : Hp, (∀ b o, H b = some o → H' b = some o) ∧ H S = none ∧ (∀ t ∈ as, H t = none) ∧ H' S = some (.lst (as.map V.ref)) ∧ (∀ (j : Nat) (a : Addr) (t : List V), as[j]? = some a → ts[j]? = some t → H' a = some (.tup t)) ∧ Inv X pins σ H' { s with heap := h', toks := tk } := by
  have hSn : S ∉ as := fun z => Nat.lt_irrefl _ (hG.above _ z)
  have nd : as.Nodup := List.Pairwise.imp (fun {a b} (h : a < b) => Nat.ne_of_lt h) hG.rise
  have new : ∀ t ∈ as, H t = none := fun t ht => I.hok.fresh (Nat.le_trans hS0 (Nat.le_of_lt (hG.above t ht)))
  have newS : H S = none := I.hok.fresh hS0
  have atP := putTs_at as ts (upd H S (.lst (as.map V.ref))) nd
  have off : ∀ b, b ∉ as → b ≠ S → putTs (upd H S (.lst (as.map V.ref))) as ts b = H b := fun b h1 h2 => by rw [putTs_off as ts _ h1, upd_ne h2]
  have low : ∀ b o, s.heap.get? b = some o → b ∉ as ∧ b ≠ S := fun b o e => ⟨fun z => absurd (Heap.lt_size e) (Nat.not_lt.mpr (Nat.le_trans hS0 (Nat.le_of_lt (hG.above b z)))), Nat.ne_of_lt (Nat.lt_of_lt_of_le (Heap.lt_size e) hS0)⟩
  have kp : ∀ b u, H b = some u → (putTs (upd H S (.lst (as.map V.ref))) as ts) b = some u := fun b u e => by
    rw [off b (fun z => by rw [new b z] at e; cases e) (fun z => by rw [z, newS] at e; cases e)]
    exact e
  have eS : putTs (upd H S (.lst (as.map V.ref))) as ts S = some (.lst (as.map V.ref)) := by rw [putTs_off as ts _ hSn, upd_same]
  refine ⟨putTs (upd H S (.lst (as.map V.ref))) as ts, kp, newS, new, eS, atP, ?_⟩
  refine I.call' (ch := []) rfl ⟨fun b o q _ _ _ => hk b o q, fun b o q _ _ _ => ⟨o.slots, hk b o q⟩, fun b o q n _ => ?_, fun b o q _ => ⟨o, hk b o q⟩, fun b xs q => kp b _ q, fun b o u q => kp b _ q, fun b ps q => ⟨#[], by rw [kp b _ q]; simp⟩⟩ (fun b u q => ?_) I.bare fun b z => by simp at z
  · obtain ⟨z1, z2⟩ := low b o q
    rw [off b z1 z2]
    exact n
  · by_cases hb : b ∈ as
    · obtain ⟨j, hj⟩ := List.mem_iff_getElem?.mp hb
      obtain ⟨vals, f1, f2⟩ := hG.pairs j b hj
      obtain ⟨t, g1, g2, g3⟩ := hv j vals f1
      rw [atP j b t hj g1] at q
      cases q
      exact ⟨g3, vals.toList, g2, ⟨_, f2, rfl, _, by rw [Array.toArray_toList]⟩⟩
    · by_cases hb2 : b = S
      · rw [hb2] at q ⊢
        rw [eS] at q
        cases q
        refine ⟨by rw [List.length_map, hl]; exact hz, acc.toList, c, by rw [hacc]; exact LiI.vals_refs as, ?_⟩
        rw [Array.toArray_toList]
        exact hS
      · rw [off b hb hb2] at q
        exact (I.hok b u q).stay (fun d v _ y => hk d v y) (fun d y => kp d _ y) fun d xs y => kp d _ y
end
section
variable {prog : Program} {w : World} {A : Around} {z TI TO i1 i2 i3 a1 a2 a3 : Addr} {b1 b2 b3 : Bool} {xs ys zs : List Value}
def St2 (z TI TO i1 i2 a1 a2 : Addr) (b1 b2 : Bool) (xs ys : List Value) : Nat → Addr → Heap → Prop := fun i T h =>
  ((i = 0 ∧ IsZip h z TI TO .none ∧ ∃ u v, IsTupOf2 h TO u v) ∨ (0 < i ∧ ∃ f oT, IsZipHeld h z TI TO T f ∧ h.get? T = some oT ∧ T ≠ z ∧ T ≠ TO ∧ T ≠ i1 ∧ T ≠ i2)) ∧ IsTupOf2 h TI (.ref i1) (.ref i2) ∧ (ItB b1 h i1 a1 i ∧ IsB b1 h a1 xs.toArray) ∧ (ItB b2 h i2 a2 i ∧ IsB b2 h a2 ys.toArray)
theorem isB_at {b : Bool} {h h' : Heap} {a : Addr} {its : Array Value} (x : IsB b h a its) (hk : ∀ o, h.get? a = some o → h'.get? a = some o) : IsB b h' a its := by
  cases b with
  | true => exact Heap.IsList.at (h := h) x hk
  | false => exact Heap.IsTuple.at (h := h) x hk
def St3 (z TI TO i1 i2 i3 a1 a2 a3 : Addr) (b1 b2 b3 : Bool) (xs ys zs : List Value) : Nat → Addr → Heap → Prop := fun i T h =>
  ((i = 0 ∧ IsZip h z TI TO .none ∧ ∃ u v q, IsTupOf3 h TO u v q) ∨ (0 < i ∧ ∃ f oT, IsZipHeld h z TI TO T f ∧ h.get? T = some oT ∧ T ≠ z ∧ T ≠ TO ∧ T ≠ i1 ∧ T ≠ i2 ∧ T ≠ i3)) ∧ IsTupOf3 h TI (.ref i1) (.ref i2) (.ref i3) ∧ (ItB b1 h i1 a1 i ∧ IsB b1 h a1 xs.toArray) ∧ (ItB b2 h i2 a2 i ∧ IsB b2 h a2 ys.toArray) ∧ (ItB b3 h i3 a3 i ∧ IsB b3 h a3 zs.toArray)
theorem zw3 (hh : A.handled = none) (S : ZipSep3 z TI TO i1 i2 i3 [i1, a1] [i2, a2] [i3, a3]) (n1 : a1 ≠ i1) (n2 : a2 ≠ i2) (n3 : a3 ≠ i3) :
    ZipW prog w A z [z, TI, TO, i1, i2, i3, a1, a2, a3] [z, TO, i1, i2, i3] (min xs.length (min ys.length zs.length)) (fun i vals => ∃ x y u, xs[i]? = some x ∧ ys[i]? = some y ∧ zs[i]? = some u ∧ vals = #[x, y, u]) (St3 z TI TO i1 i2 i3 a1 a2 a3 b1 b2 b3 xs ys zs) := by
  have hh1 : A.in1.handled = none := hh
  have D1 := drB (prog := prog) (w := w) hh1 b1 i1 a1 n1 xs.toArray
  have D2 := drB (prog := prog) (w := w) hh1 b2 i2 a2 n2 ys.toArray
  have D3 := drB (prog := prog) (w := w) hh1 b3 i3 a3 n3 zs.toArray
  refine ⟨fun b hb => ?_, fun i T s st => ?_, fun i T s Q E hi st hQ => ?_, fun T s Q E st hQ => ?_, fun i T h h' st k1 k2 => ?_, fun T s Q E st q => ?_⟩
  · simp only [List.mem_cons, List.not_mem_nil, or_false] at hb ⊢
    rcases hb with e | e | e | e | e <;> simp [e]
  · rcases st.1 with ⟨_, e, _⟩ | ⟨_, f, oT, e, _⟩
    · exact ⟨_, e, rfl⟩
    · exact ⟨_, e, rfl⟩
  · obtain ⟨st0, hTI, st1, st2, st3⟩ := st
    have l1 : i < xs.toArray.size := by simp; omega
    have l2 : i < ys.toArray.size := by simp; omega
    have l3 : i < zs.toArray.size := by simp; omega
    rcases st0 with ⟨e0, hz, u, v, q, hTO⟩ | ⟨e0, f, oT, hz, hT, t1, t2, t3, t4, t5⟩
    · refine wpAny_pyNext_zipD3_item S D1 D2 D3 hz hTI hTO st1 st2 st3 l1 l2 l3 fun x1 x2 x3 h' tk y1 y2 y3 z' TO' d1 d2 d3 hT hsz hk => ?_
      refine hQ #[x1, x2, x3] h' tk s.heap.objs.size ⟨x1, x2, x3, by simpa using y1, by simpa using y2, by simpa using y3, rfl⟩ ⟨.inr ⟨Nat.succ_pos _, false, _, z', hT, Nat.ne_of_gt (Heap.lt_size hz), Nat.ne_of_gt (Heap.lt_size hTO), ?_, ?_, ?_⟩, hk _ _ S.TIz S.TITO S.TIi1 S.TIi2 S.TIi3 hTI, d1, d2, d3⟩ (.inr rfl) hT hsz fun c o hc e => hk c o (fun q => hc (by simp [q])) (fun q => hc (by simp [q])) (fun q => hc (by simp [q])) (fun q => hc (by simp [q])) (fun q => hc (by simp [q])) e
      · obtain ⟨o, e, _⟩ := st1.1.obj; exact Nat.ne_of_gt (Heap.lt_size e)
      · obtain ⟨o, e, _⟩ := st2.1.obj; exact Nat.ne_of_gt (Heap.lt_size e)
      · obtain ⟨o, e, _⟩ := st3.1.obj; exact Nat.ne_of_gt (Heap.lt_size e)
    · refine next3_item S D1 D2 D3 hz hT hTI st1 st2 st3 l1 l2 l3 fun x1 x2 x3 h' tk y1 y2 y3 z' d1 d2 d3 hT' hsz hk => ?_
      exact hQ #[x1, x2, x3] h' tk T ⟨x1, x2, x3, by simpa using y1, by simpa using y2, by simpa using y3, rfl⟩ ⟨.inr ⟨Nat.succ_pos _, true, oT, z', hk _ _ t1 t3 t4 t5 hT, t1, t2, t3, t4, t5⟩, hk _ _ S.TIz S.TIi1 S.TIi2 S.TIi3 hTI, d1, d2, d3⟩ (.inl rfl) hT' hsz fun c o hc e => hk c o (fun q => hc (by simp [q])) (fun q => hc (by simp [q])) (fun q => hc (by simp [q])) (fun q => hc (by simp [q])) e
  · obtain ⟨st0, hTI, st1, st2, st3⟩ := st
    rcases st0 with ⟨e0, hz, u, v, q, hTO⟩ | ⟨e0, f, oT, hz, hT, t1, t2, t3, t4, t5⟩
    · exact wpAny_pyNext_zipD3_end S D1 D2 D3 hz hTI hTO st1 st2 st3 (by simp; omega) (by simp; omega) (by simp; omega) (by simp; omega) fun h' tk hk => hQ h' tk fun c o hc e => hk c o (fun q => hc (by simp [q])) (fun q => hc (by simp [q])) (fun q => hc (by simp [q])) (fun q => hc (by simp [q])) (fun q => hc (by simp [q])) e
    · exact next3_end S D1 D2 D3 hz hT hTI st1 st2 st3 (by simp; omega) (by simp; omega) (by simp; omega) (by simp; omega) fun h' tk hk => hQ h' tk fun c o hc e => hk c o (fun q => hc (by simp [q])) (fun q => hc (by simp [q])) (fun q => hc (by simp [q])) (fun q => hc (by simp [q])) e
  · obtain ⟨st0, hTI, ⟨j1, p1⟩, ⟨j2, p2⟩, j3, p3⟩ := st
    refine ⟨?_, k1 TI (by simp) _ hTI, ⟨j1.at fun o e => k1 i1 (by simp) o e, isB_at p1 fun o e => k1 a1 (by simp) o e⟩, ⟨j2.at fun o e => k1 i2 (by simp) o e, isB_at p2 fun o e => k1 a2 (by simp) o e⟩, j3.at fun o e => k1 i3 (by simp) o e, isB_at p3 fun o e => k1 a3 (by simp) o e⟩
    rcases st0 with ⟨e0, hz, u, v, q, hTO⟩ | ⟨e0, f, oT, hz, hT, t⟩
    · exact .inl ⟨e0, k1 z (by simp) _ hz, u, v, q, k1 TO (by simp) _ hTO⟩
    · exact .inr ⟨e0, f, oT, k1 z (by simp) _ hz, k2 _ hT, t⟩
  · rcases st.1 with ⟨_, e, _⟩ | ⟨e0, _⟩
    · exact wpAny_pyIter_zip e q
    · exact absurd e0 (Nat.lt_irrefl _)
end
theorem sqB_size {X : Cx} {pins : List (Addr × Obj)} {σ : L2.St} {H : Hp} {s : Shared} (I : Inv X pins σ H s) {b : Bool} {a : Addr} {xs : List V} (q : SqB X.K b H a xs) : xs.length ≤ sizeLine := by
  cases b with
  | true =>
    obtain ⟨its, rv, p, hz⟩ := I.list q
    exact hz
  | false =>
    obtain ⟨its, rv, p, hz⟩ := I.tuple q
    exact hz
theorem vals_back {xs : List V} {its : List Value} (rv : Vals xs its) {j : Nat} {u : Value} (h : its[j]? = some u) : ∃ v, xs[j]? = some v ∧ RelV v u := by
  have hj : j < its.length := (List.getElem?_eq_some_iff.mp h).1
  have hl := rv.length
  have hx : xs[j]? = some (xs[j]'(by omega)) := List.getElem?_eq_getElem _
  obtain ⟨u', h1, h2⟩ := rv.get hx
  rw [h] at h1
  cases h1
  exact ⟨_, hx, h2⟩
def tZipL3 (K : PySem.W.Frag) (ta : TA) : TE := fun σ H Q => ta σ H fun vs H1 => ∃ b1 b2 b3 a1 a2 a3 xs ys zs, vs = [.ref a1, .ref a2, .ref a3] ∧ SqB K b1 H1 a1 xs ∧ SqB K b2 H1 a2 ys ∧ SqB K b3 H1 a3 zs ∧
  ∀ (H' : Hp) (p : Addr) (as : List Addr), (∀ b o, H1 b = some o → H' b = some o) → H1 p = none → (∀ t ∈ as, H1 t = none) → H' p = some (.lst (as.map V.ref)) → as.length = min xs.length (min ys.length zs.length) → (∀ (j : Nat) (a : Addr) (x y u : V), as[j]? = some a → xs[j]? = some x → ys[j]? = some y → zs[j]? = some u → H' a = some (.tup [x, y, u])) → Q (.ref p) H'
theorem pe_zipL3 {X : Cx} {e e2 e3 : Expr} {ta : TA} {p p2 zp pos : Pos} (hc : X.calm = true) (hgl : Gl X "list") (hml : X.mg "list" = none) (hvl : bootBuiltins "list" = some (.type "list")) (hg : Gl X "zip") (hm : X.mg "zip" = none) (ha : PA X [e, e2, e3] ta)
    (hsl : starEach [.Call (.Name "zip" p2) [e, e2, e3] [] zp] X.env = (false, eval (.Call (.Name "zip" p2) [e, e2, e3] [] zp) X.env) :: starEach [] X.env := by rfl)
    (hs : starEach [e, e2, e3] X.env = (false, eval e X.env) :: starEach [e2, e3] X.env := by rfl) (hpl : (backTo zp (starEach [e2, e3] X.env)).any (·.1) = false := by rfl) :
    PE X (.Call (.Name "list" p) [.Call (.Name "zip" p2) [e, e2, e3] [] zp] [] pos) (tZipL3 X.K ta) := by
  refine ⟨fun pins s σ H Q I h => ?_⟩
  refine wpAny_Call_Name_kw (ld_blt I hgl hml hvl ?_)
  refine PyProof.Rows.callWith_type1 ?_ hsl rfl
  rw [hsl]
  show wpAny _ _ (spliced ((false, eval (.Call (.Name "zip" p2) [e, e2, e3] [] zp) X.env) :: backTo pos (starEach [] X.env))) _ _ s
  refine Calls.spliced_cons ?_
  refine Call_ (ld_blt I hg hm PyProof.Rows.boot_zip (PyProof.Rows.callWith_type1 (thn (ha.run zp pins s σ H _ I h) fun us s1 ⟨vs, H1, I1, r1, q1⟩ => ?_) hs hpl))
  obtain ⟨b1, b2, b3, a1, a2, a3, xs, ys, zs, ex, q1, q2, q3, qR⟩ := q1
  subst ex
  cases r1 with
  | cons r rr =>
    cases rr with
    | cons r' rr =>
      cases rr with
      | cons r'' rr =>
        cases rr
        cases r
        cases r'
        cases r''
        obtain ⟨its1, rv1, p1, k1⟩ := q1.inv I1
        have z1 := sqB_size I1 q1
        obtain ⟨its2, rv2, p2, k2⟩ := q2.inv I1
        have z2 := sqB_size I1 q2
        obtain ⟨its3, rv3, p3, k3⟩ := q3.inv I1
        have z3 := sqB_size I1 q3
        refine zip_begins3 (begB b1 a1 its1.toArray) (begB b2 a2 its2.toArray) (begB b3 a3 its3.toArray) p1 p2 p3 fun h' hz hTI hTO g1 g2 g3 hsz hk => ?_
        refine Calls.spliced_nil ?_
        have W := zw3 (prog := X.prog) (w := X.w) (A := X.A.in1.in1) (b1 := b1) (b2 := b2) (b3 := b3) (a1 := a1) (a2 := a2) (a3 := a3) (xs := its1) (ys := its2) (zs := its3) (show X.A.in1.in1.handled = none from I1.ok.hd hc) (zip_sep3 (N := s1.heap.objs.size) (fun b hb => by rw [List.mem_singleton.mp hb]; exact k1) (fun b hb => by rw [List.mem_singleton.mp hb]; exact k2) (fun b hb => by rw [List.mem_singleton.mp hb]; exact k3)) (Nat.ne_of_lt k1) (Nat.ne_of_lt (Nat.lt_succ_of_lt k2)) (Nat.ne_of_lt (Nat.lt_succ_of_lt (Nat.lt_succ_of_lt k3)))
        refine zl_call (s := { s1 with heap := h' }) W (fun b hb => ?_) (by simp) ?_ (T := s1.heap.objs.size + 5) (by simp) ⟨.inl ⟨rfl, hz, _, _, _, hTO⟩, hTI, ⟨.start g1, isB_at p1 fun o e => hk _ o e⟩, ⟨.start g2, isB_at p2 fun o e => hk _ o e⟩, ⟨.start g3, isB_at p3 fun o e => hk _ o e⟩⟩ fun h2 tk acc c as hk2 hS hl hG hacc => ?_
        · show b < h'.objs.size
          rw [hsz]
          simp only [List.mem_cons, List.not_mem_nil, or_false] at hb
          rcases hb with q | q | q | q | q | q | q | q | q
          · rw [q]; exact Nat.add_lt_add_left (show 5 < 6 by decide) _
          · rw [q]; exact Nat.add_lt_add_left (show 3 < 6 by decide) _
          · rw [q]; exact Nat.add_lt_add_left (show 4 < 6 by decide) _
          · rw [q]; exact Nat.add_lt_add_left (show 0 < 6 by decide) _
          · rw [q]; exact Nat.add_lt_add_left (show 1 < 6 by decide) _
          · rw [q]; exact Nat.add_lt_add_left (show 2 < 6 by decide) _
          · rw [q]; exact Nat.lt_of_lt_of_le k1 (Nat.le_add_right _ _)
          · rw [q]; exact Nat.lt_of_lt_of_le k2 (Nat.le_add_right _ _)
          · rw [q]; exact Nat.lt_of_lt_of_le k3 (Nat.le_add_right _ _)
        · have := rv1.length; omega
        · have hS0 : s1.heap.objs.size ≤ h'.objs.size := by rw [hsz]; exact Nat.le_add_right _ _
          have kept : ∀ b o, s1.heap.get? b = some o → h2.get? b = some o := fun b o e => by
            refine hk2 b o (fun hb => ?_) (hk b o e)
            have lt : b < s1.heap.objs.size := Heap.lt_size e
            simp only [List.mem_cons, List.not_mem_nil, or_false] at hb
            have ge : s1.heap.objs.size ≤ b := by
              rcases hb with q | q | q | q | q
              · rw [q]; exact Nat.le_add_right _ _
              · rw [q]; exact Nat.le_add_right _ _
              · rw [q]; exact Nat.le_refl _
              · rw [q]; exact Nat.le_add_right _ _
              · rw [q]; exact Nat.le_add_right _ _
            exact absurd lt (Nat.not_lt.mpr ge)
          have l1 := rv1.length
          have l2 := rv2.length
          have l3 := rv3.length
          have hv : ∀ (j : Nat) (vals : Array Value), (∃ x y u, its1[j]? = some x ∧ its2[j]? = some y ∧ its3[j]? = some u ∧ vals = #[x, y, u]) → ∃ t, (List.zipWith (fun x q => x :: q) xs (List.zipWith (fun y u => [y, u]) ys zs))[j]? = some t ∧ Vals t vals.toList ∧ t.length ≤ sizeLine := by
            rintro j vals ⟨x, y, u, f1, f2, f3, rfl⟩
            obtain ⟨v1, c1, d1⟩ := vals_back rv1 f1
            obtain ⟨v2, c2, d2⟩ := vals_back rv2 f2
            obtain ⟨v3, c3, d3⟩ := vals_back rv3 f3
            refine ⟨[v1, v2, v3], by rw [List.getElem?_zipWith, List.getElem?_zipWith, c1, c2, c3], .cons d1 (.cons d2 (.cons d3 .nil)), by show 3 ≤ sizeLine; decide⟩
          obtain ⟨H', e1, e2, e3, e4, e5, J⟩ := zl_laid (tk := tk) (ts := List.zipWith (fun x q => x :: q) xs (List.zipWith (fun y u => [y, u]) ys zs)) I1 (by rw [List.length_zipWith, List.length_zipWith]; omega) hS0 kept hS (by rw [List.length_zipWith, List.length_zipWith]; omega) hG hacc hv
          exact ⟨.ref _, H', J, rfl, qR H' _ as e1 e2 e3 e4 (by omega) fun j a x y u ha hx hy hu => e5 j a _ ha (by rw [List.getElem?_zipWith, List.getElem?_zipWith, hx, hy, hu])⟩
end ZL
namespace DN
open PySem PySem.Spec PyProof.Rows L2 ZL
theorem dpAll_ix {K : PySem.W.Frag} {H : Hp} : ∀ {vs : List V} {ds : List PyData}, vs.length = ds.length → (∀ (j : Nat) (v : V) (d : PyData), vs[j]? = some v → ds[j]? = some d → Dp K H v d) → DpAll K H vs ds
  | [], [], _, _ => .nil
  | v :: vs, d :: ds, hl, h => .cons (h 0 v d rfl rfl) (dpAll_ix (by simpa using hl) fun j v d h1 h2 => h (j + 1) v d (by rw [List.getElem?_cons_succ]; exact h1) (by rw [List.getElem?_cons_succ]; exact h2))
  | [], _ :: _, hl, _ => by simp at hl
  | _ :: _, [], hl, _ => by simp at hl
def fZipL3 (f g h : En → Option PyData) : En → Option PyData := fun en => (iZip3 f g h en).map .list
section
variable {X : Cx} {Ts : TsT} {pos p p2 zp : Pos} {e e2 e3 : Expr} {f g h : En → Option PyData}
theorem d_zipL3 (hc : X.calm = true) (hgl : Gl X "list") (hml : X.mg "list" = none) (hvl : bootBuiltins "list" = some (.type "list")) (hg : Gl X "zip") (hm : X.mg "zip" = none) (ha : DE X Ts e f) (hb : DE X Ts e2 g) (hcc : DE X Ts e3 h)
    (hsl : starEach [.Call (.Name "zip" p2) [e, e2, e3] [] zp] X.env = (false, eval (.Call (.Name "zip" p2) [e, e2, e3] [] zp) X.env) :: starEach [] X.env := by rfl)
    (hs : starEach [e, e2, e3] X.env = (false, eval e X.env) :: starEach [e2, e3] X.env := by rfl) (hs2 : starEach [e2, e3] X.env = (false, eval e2 X.env) :: starEach [e3] X.env := by rfl) (hs3 : starEach [e3] X.env = (false, eval e3 X.env) :: starEach [] X.env := by rfl) (hpl : (backTo zp (starEach [e2, e3] X.env)).any (·.1) = false := by rfl) :
    DE X Ts (.Call (.Name "list" p) [.Call (.Name "zip" p2) [e, e2, e3] [] zp] [] pos) (fZipL3 f g h) :=
  PE.imp (pe_zipL3 (ta := tCons (tD X.K Ts f) (tCons (tD X.K Ts g) (tCons (tD X.K Ts h) tNil))) hc hgl hml hvl hg hm (pa_cons ha (pa_cons hb (pa_cons hcc pa_nil hs3) hs2) hs) hsl hs hpl) fun σ H Q ⟨He, O, en, d, rp, hf, kk⟩ => by
    obtain ⟨ps, h0, rfl⟩ := Option.map_eq_some_iff.mp hf
    unfold iZip3 at h0
    obtain ⟨x, h1, hf1⟩ := Option.bind_eq_some_iff.mp h0
    obtain ⟨y, h2, hf2⟩ := Option.bind_eq_some_iff.mp hf1
    obtain ⟨z, h3, hf3⟩ := Option.bind_eq_some_iff.mp hf2
    obtain ⟨ds, h4, hf4⟩ := Option.bind_eq_some_iff.mp hf3
    obtain ⟨es, h5, hf5⟩ := Option.bind_eq_some_iff.mp hf4
    obtain ⟨fs, h6, hf6⟩ := Option.bind_eq_some_iff.mp hf5
    cases hf6
    refine tD.of rp h1 fun v H1 x1 r1 q1 => tD.of r1 h2 fun w H2 x2 r2 q2 => tD.of r2 h3 fun u H3 x3 r3 q3 => ?_
    have q1 := Dp.mono (hide_mono (x2.trans x3)) q1
    have q2 := Dp.mono (hide_mono x3) q2
    obtain ⟨b1, a1, us, rfl, s1, t1⟩ := dp_sqB q1 h4
    obtain ⟨b2, a2, ws, rfl, s2, t2⟩ := dp_sqB q2 h5
    obtain ⟨b3, a3, ks, rfl, s3, t3⟩ := dp_sqB q3 h6
    refine ⟨b1, b2, b3, a1, a2, a3, us, ws, ks, rfl, s1.mono fun o n e => (hide_some e).2, s2.mono fun o n e => (hide_some e).2, s3.mono fun o n e => (hide_some e).2, fun H' p as kp np nt hp hl ht => ?_⟩
    have xt : Xt H3 H' := fun b o e => .inl (kp b o e)
    refine kk (.ref p) H' (((x1.trans x2).trans x3).trans xt) (r3.tabs.kept kp) (.lst (.inl (.inl (hide_of (fun z => (r3.occ p z).1 np) hp))) ?_)
    have l1 := DpAll.len t1
    have l2 := DpAll.len t2
    have l3 := DpAll.len t3
    refine dpAll_ix (by rw [List.length_map, trips_len, hl, l1, l2, l3]) fun j v d hv hd => ?_
    rw [List.getElem?_map] at hv
    obtain ⟨a, ha, rfl⟩ := Option.map_eq_some_iff.mp hv
    have hj : j < as.length := (List.getElem?_eq_some_iff.mp ha).1
    have j1 : j < us.length := by omega
    have j2 : j < ws.length := by omega
    have j3 : j < ks.length := by omega
    obtain ⟨d1, c1, m1⟩ := DpAll.get t1 (List.getElem?_eq_getElem j1)
    obtain ⟨d2, c2, m2⟩ := DpAll.get t2 (List.getElem?_eq_getElem j2)
    obtain ⟨d3, c3, m3⟩ := DpAll.get t3 (List.getElem?_eq_getElem j3)
    rw [trips_get c1 c2 c3] at hd
    cases hd
    exact .tup (.inl (.inl (hide_of (fun z => (r3.occ a z).1 (nt a (List.mem_of_getElem? ha))) (ht j a _ _ _ ha (List.getElem?_eq_getElem j1) (List.getElem?_eq_getElem j2) (List.getElem?_eq_getElem j3))))) (.cons (Dp.mono (hide_mono xt) m1) (.cons (Dp.mono (hide_mono xt) m2) (.cons (Dp.mono (hide_mono xt) m3) .nil)))
end
end DN
namespace Ty
open PySem PySem.Spec PyProof.Rows L2 DN
section
variable {α β γ δ ξ σ ζ : Type} {en : En} {f g h k : En → Option PyData} {F G : En → Option Fl} {ea : α → PyData} {eb : β → PyData} {ec : γ → PyData} {ed : δ → PyData} {er : ξ → PyData}
def zip3 (x : List α) (y : List β) (z : List γ) : List (α × β × γ) := x.zip (y.zip z)
theorem trips_zip : ∀ (xs : List α) (ys : List β) (zs : List γ), trips (xs.map ea) (ys.map eb) (zs.map ec) = (zip3 xs ys zs).map (e3 ea eb ec)
  | [], _, _ => by simp [trips, zip3]
  | _ :: _, [], _ => by simp [trips, zip3]
  | _ :: _, _ :: _, [] => by simp [trips, zip3]
  | x :: xs, y :: ys, z :: zs => by
    show PyData.tuple [ea x, eb y, ec z] :: trips (xs.map ea) (ys.map eb) (zs.map ec) = _
    rw [trips_zip xs ys zs]
    rfl
theorem i_zip3 {A : Option (List α)} {B : Option (List β)} {C : Option (List γ)} {s : List α → PyData} {t : List β → PyData} {u : List γ → PyData} (hs : ∀ x, lt_items (s x) = some (x.map ea)) (ht : ∀ x, lt_items (t x) = some (x.map eb)) (hu : ∀ x, lt_items (u x) = some (x.map ec))
    (pa : f en = A.map s) (pb : g en = B.map t) (pc : h en = C.map u) : iZip3 f g h en = (A.bind fun x => B.bind fun y => C.bind fun z => some (zip3 x y z)).map (List.map (e3 ea eb ec)) := by
  unfold iZip3
  rw [pa, pb, pc]
  cases A with
  | none => rfl
  | some x => cases B with
    | none => rfl
    | some y => cases C with
      | none => rfl
      | some z =>
        show (lt_items (s x)).bind (fun xs => (lt_items (t y)).bind fun ys => (lt_items (u z)).bind fun zs => some (trips xs ys zs)) = _
        rw [hs, ht, hu]
        exact congrArg some (trips_zip x y z)
variable {A : Option α} {B : Option β} {C : Option (List γ)} {D : Option δ} {i j l m : Nat}
end
theorem t_zipL3 {α : Type} {en : En} {f g h : En → Option PyData} {e : α → PyData} {A : Option (List α)} (p : iZip3 f g h en = A.map (List.map e)) : fZipL3 f g h en = A.map (eL e) := by
  unfold fZipL3
  rw [p]
  cases A <;> rfl
def bindJ {β σ : Type} (A : Option (β ⊕ σ)) (K : σ → Option β) : Option β := A.bind (outJ K)
theorem r_seq_bj {ξ σ ζ : Type} {en : En} {F G : En → Option Fl} {er : ξ → PyData} {env : σ → ζ → En} {A : Option (ξ ⊕ σ)} {K : σ → Option ξ} (p : JX (F en) A er env) (q : ∀ s z, G (env s z) = rtO er (K s)) : sSeq F G en = rtO er (bindJ A K) := r_seq_j p q
noncomputable def addI (x y : Int) : Int := Classical.choose (⟨x + y, rfl⟩ : ∃ z, z = x + y)
theorem addI_eq (x y : Int) : addI x y = x + y := Classical.choose_spec (⟨x + y, rfl⟩ : ∃ z, z = x + y)
theorem g_addI (x y : Int) : gPlus (eI x) (eI y) = (some (addI x y)).map eI := by
  rw [addI_eq]
  exact g_add x y
def F_is_row_of_ratios (c_is_ratio : List PyData → Option PyData) : En → Option Fl := (sSeq (sIf (kNot (kAnd (fT (fIsi isTup (fVar 0))) (fT (fEq (fLen (fVar 0)) (fVar 1))))) (sRet (fLit (.bool false))) sNil) (sRet (fAll true (iSeq (fVar 0)) (bName 2) (fAnd (fCall 1 c_is_ratio (fCons (fVar 2) fNil)) (fGe (fIx (fVar 2) (fLit (.int 0))) (fLit (.int 0)))) [2])))
def S_is_row_of_ratios := runD 3 (F_is_row_of_ratios S_is_ratio)
def N_is_row_of_ratios (value' : (List (Int × Int))) (count' : Int) : Option Bool := (iteO (some (!(true && (decide (((value').length : Int) = count'))))) (some false) (allO true (fun i6 => (andO (N_is_ratio i6) (some (decide ((0 : Int) ≤ i6.1))))) value'))
theorem t_is_row_of_ratios (value' : (List (Int × Int))) (count' : Int) : S_is_row_of_ratios [(eR (e2 eI eI)) value', eI count'] = (N_is_row_of_ratios value' count').map eB := d_run (r_seq_ifret (P := (some (!(true && (decide (((value').length : Int) = count')))))) (A := (some false)) (t_knot (P := (some (true && (decide (((value').length : Int) = count'))))) (t_kandP (b := true) (c := (decide (((value').length : Int) = count'))) (t_T (P := (some true)) (t_isi (A := (some value')) (b := fun x1 => true) (fun _ => rfl) (t_var (i := 0) (e := (eR (e2 eI eI))) (v := value') rfl))) (t_T (P := (some (decide (((value').length : Int) = count')))) (t_f2 (A := (some ((value').length : Int))) (B := (some count')) (h := (fun x3 y4 => some (decide (x3 = y4)))) (g_eq enc_I rfl) (t_f1 (A := (some value')) (h := (fun x2 => some ((x2).length : Int))) g_lenR (t_var (i := 0) (e := (eR (e2 eI eI))) (v := value') rfl)) (t_var (i := 1) (e := eI) (v := count') rfl))))) (r_ret (A := (some false)) (t_bl (b := false))) (r_ret (A := (allO true (fun i6 => (andO (N_is_ratio i6) (some (decide ((0 : Int) ≤ i6.1))))) value')) (t_all (L := (some value')) (ea := (e2 eI eI)) (Bf := fun i6 => (andO (N_is_ratio i6) (some (decide ((0 : Int) ≤ i6.1))))) (i_seqR (A := (some value')) (e := (e2 eI eI)) (t_var (i := 0) (e := (eR (e2 eI eI))) (v := value') rfl)) (fun i6 => ⟨[.dat ((eR (e2 eI eI)) value'), .dat (eI count'), .dat ((e2 eI eI) i6)], rfl, (t_and (P := (N_is_ratio i6)) (Q := (some (decide ((0 : Int) ≤ i6.1)))) (t_call1 (A := (some i6)) t_is_ratio (t_var (i := 2) (e := (e2 eI eI)) (v := i6) rfl)) (t_f2 (A := (some i6.1)) (B := (some (0 : Int))) (h := (fun x10 y11 => some (decide (y11 ≤ x10)))) g_ge (t_ixc (A := (some i6)) (k := 0) (pr := fun x7 => x7.1) (eb := eI) (fun _ => rfl) (t_var (i := 2) (e := (e2 eI eI)) (v := i6) rfl)) (t_int (i := 0))))⟩))))
end Ty
namespace DN
open PySem PySem.Spec PyProof.Rows L2
def spR (K : PySem.W.Frag) (Ts : TsT) (n : Nat) (C : Value) (R : List PyData → Bool) : Sp := fun vs H _ E => vs.length = n ∧ ∃ O ds, DpAll K (hide H O) vs ds ∧ Tb Ts H ∧ (∀ b ∈ O, H b ≠ none ∧ ∀ ps, H b ≠ some (.tbl ps)) ∧ R ds = true ∧
  ∀ H', Xt H H' → Tb Ts H' → E C none H'
structure CR (P : Program) (w : World) (K : PySem.W.Frag) (mg : Str → Option Value) (base : Heap) (Ts : TsT) (k : Nat) (x : Str) (n : Nat) (C : Value) (R : List PyData → Bool) : Prop where
  ex : ∃ f fd ps, mg x = some (.ref f) ∧ PySem.W.keepIn K (.ref f) = true ∧ Binds K fd ps [] ∧ FnOk P w K mg base (L2.CX P w) k f fd ps (spR K Ts n C R)
theorem CR.imp {P : Program} {w : World} {K : PySem.W.Frag} {mg : Str → Option Value} {base : Heap} {Ts : TsT} {k : Nat} {x : Str} {n : Nat} {C : Value} {R S : List PyData → Bool} (c : CR P w K mg base Ts k x n C R) (h : ∀ ds, S ds = true → R ds = true) : CR P w K mg base Ts k x n C S := by
  obtain ⟨f, fd, ps, h1, h2, h3, h4⟩ := c.ex
  exact ⟨f, fd, ps, h1, h2, h3, h4.imp fun vs H Q E ⟨a, O, ds, b, c, d, e, k⟩ => ⟨a, O, ds, b, c, d, h ds e, k⟩⟩
section
variable {P : Program} {w : World} {K : PySem.W.Frag} {mg : Str → Option Value} {base : Heap} {Ts : TsT}
theorem CR.of {k n : Nat} {x : Str} {C : Value} {R : List PyData → Bool} {f : Addr} {fd : FuncData} {ps : List Str} (h1 : mg x = some (.ref f)) (h2 : PySem.W.keepIn K (.ref f) = true) (h3 : Binds K fd ps []) (h4 : FnOk P w K mg base (L2.CX P w) k f fd ps (spR K Ts n C R)) : CR P w K mg base Ts k x n C R := ⟨f, fd, ps, h1, h2, h3, h4⟩
end
theorem spR.imp {K : PySem.W.Frag} {Ts : TsT} {n : Nat} {C : Value} {R S : List PyData → Bool} (h : ∀ ds, S ds = true → R ds = true) : ∀ vs H Q E, spR K Ts n C S vs H Q E → spR K Ts n C R vs H Q E := fun vs H Q E ⟨a, O, ds, b, c, d, e, k⟩ => ⟨a, O, ds, b, c, d, h ds e, k⟩
end DN
namespace DN
open PySem PySem.Spec PyProof.Rows L2 LamX
def KeepP (P : Addr) (H H' : Hp) : Prop := ∀ b o, b ≠ P → H b = some o → H' b = some o
section
variable {X : Cx} {pins : List (Addr × Obj)} {σ : L2.St} {H : Hp} {s : Shared}
theorem lam_make3 {c P : Addr} {params : Arguments} {body : Expr} {scope : Scope} {pos : Pos} {E : Value → Shared → Prop} {Q : Value → Shared → Prop} (I : Inv X pins σ H s) (TB : TabB X.base X.mg c P) (hcode : X.env.code = .ref c)
    (hT : TabS H P (X.env.qual ++ "<lambda>")) (hdef : defaultsOf params X.env = ([], [])) (hfree : ∀ y ∈ scope.names, y.2 = .free → ∃ c, X.env.cells.lookup y.1 = some c)
    (h : ∀ (f c' : Addr) (pm ctv : Value) (H1 : Hp) (s' : Shared), Inv X pins σ H1 s' → KeepP P H H1 → TabS H1 P (X.env.qual ++ "<lambda>") →
      s'.heap.get? f = some (PySem.W.kla_obj "<lambda>" (X.env.qual ++ "<lambda>") params body scope (cloFrom X.env.cells scope.names []) pm c' ctv) → H1 f = none → f ∉ frs X.stack → H1 c' = some (CodeO c' (X.env.qual ++ "<lambda>")) → Q (.ref f) s') :
    wpAny (model X.prog X.w) X.A (eval (.Lambda params body scope pos) X.env) Q E s := by
  obtain ⟨ps, hP, ht, ha⟩ := hT
  have atP : s.heap.get? P = some { cls := .none, data := .fields ps } := I.hok P _ hP
  have bP : s.heap.BuiltinsAt X.mg P := TB.bm.keeps I.bk
  have out : ∀ f, s.heap.objs.size ≤ f → f ∉ frs X.stack := fun f hf z => (List.mem_cons.mp (I.stkSub _ z)).elim
    (fun e => by have h1 := I.lt; rw [← e] at h1; exact Nat.lt_irrefl _ (Nat.lt_of_lt_of_le h1 hf)) fun e => I.nofs hf e
  refine PySem.W.kla_eval hdef ?_
  cases hc : codeAmong pos ps.toList with
  | some cv =>
    obtain ⟨c', e, hco⟩ := ha pos cv hc
    subst e
    refine PySem.W.kla_makeFunctionHit (mg := X.mg) (c := c) (P := P) (ps := ps) (closure_ok hfree) I.ok.glob (I.mod.glob.keeps I.bk) hcode (TB.code.keeps I.bk) atP ht hc bP fun ctv h' tk hx hsz => ?_
    exact h h'.objs.size c' ((X.mg "__name__").getD .none) ctv H _ (I.kept (t' := tk) fun b o e => Heap.get?_push_of_some _ (hx b o e)) (fun b o _ e => e) ⟨ps, hP, ht, ha⟩ (Heap.get?_push_size _ rfl) (I.hok.fresh hsz) (out _ hsz) hco
  | none =>
    refine PySem.W.kla_makeFunction (mg := X.mg) (c := c) (P := P) (ps := ps) (closure_ok hfree) I.ok.glob (I.mod.glob.keeps I.bk) hcode (TB.code.keeps I.bk) atP ht hc TB.gP bP fun c' ctv h' tk hx hge hlt hrec htb => ?_
    obtain ⟨c2, oc, vs, t, e2, hoc, hd, hv⟩ := hrec
    cases e2
    have hsz : s.heap.objs.size ≤ h'.objs.size := Nat.le_trans hge (Nat.le_of_lt hlt)
    have nC : H c' = none := I.hok.fresh hge
    have kp : KeepP P H (upd (upd H P (.tbl (ps ++ #[rawInt pos.line, rawInt pos.col, .ref c']))) c' (CodeO c' (X.env.qual ++ "<lambda>"))) := fun b o n e => by
      rw [upd_ne (ne_of_none e nC), upd_ne n]
      exact e
    have ncP : ∀ c0, H c0 = some (CodeO c0 (X.env.qual ++ "<lambda>")) → c0 ≠ P := fun c0 e z => by
      rw [z, hP] at e
      exact codeO_ne ps (Option.some.inj e).symm
    refine h h'.objs.size c' ((X.mg "__name__").getD .none) ctv _ _ (inv_table (t' := tk) (more := #[rawInt pos.line, rawInt pos.col, .ref c']) (h' := h'.push (PySem.W.kla_obj "<lambda>" (X.env.qual ++ "<lambda>") params body scope (cloFrom X.env.cells scope.names []) ((X.mg "__name__").getD .none) c' ctv)) I hP
      (fun b o hb e => Heap.get?_push_of_some _ (hx b o hb e)) (Heap.get?_push_of_some _ htb) hge ⟨oc, vs, t, Heap.get?_push_of_some _ hoc, hd, hv⟩) kp ?_ (Heap.get?_push_size _ rfl) ?_ (out _ hsz) upd_same
    · have eL : (ps ++ #[rawInt pos.line, rawInt pos.col, .ref c']).toList = ps.toList ++ [rawInt pos.line, rawInt pos.col, .ref c'] := by simp
      refine ⟨_, by rw [upd_ne (ne_of_none hP nC), upd_same], by rw [eL]; exact PySem.TriplesOk_snoc _ _ _ _ ht, fun p' cv hcv => ?_⟩
      rw [eL] at hcv
      rcases among_app _ ht hcv with z | z
      · obtain ⟨c0, e1, e2⟩ := ha p' cv z
        exact ⟨c0, e1, kp _ _ (ncP c0 e2) e2⟩
      · exact ⟨c', z, upd_same⟩
    · rw [upd_ne (Nat.ne_of_gt hlt), upd_ne (Nat.ne_of_gt (Nat.lt_of_lt_of_le (Heap.lt_size atP) hsz))]
      exact I.hok.fresh hsz
end
end DN
namespace Ty
open PySem PySem.Spec PyProof.Rows L2 DN
end Ty
namespace DN
open PySem PySem.Spec PyProof.Rows L2
end DN
namespace HT
open PySem PySem.Spec PyProof.Rows
section
variable {prog : Program} {w : World} {A : Around} {E : Value → Shared → Prop} {s : Shared}
theorem places_rev (n : Nat) : Builtin.Slice.slicePlaces ((n : Int) - 1) (-1) (-1) = n := by
  unfold Builtin.Slice.slicePlaces
  have h1 : ¬ ((-1 : Int) > 0) := by omega
  have h2 : -(-1 : Int) = 1 := by omega
  simp only [h1, if_false, h2, Int.ediv_one]
  split <;> omega
theorem sliceApplied_rev {sl : Addr} {vs : Value} {n : Nat} {Q : Int × Int × Nat → Shared → Prop} (hs : s.heap.IsSliceOf sl .none .none vs) (ps : IsPart vs (some (-1)))
    (h : Q ((n : Int) - 1, -1, n) s) : wpAny (model prog w) A (Builtin.Slice.sliceApplied (.ref sl) (pure (n : Int))) Q E s := by
  obtain ⟨os, hos, hcs, hds⟩ := id hs
  unfold Builtin.Slice.sliceApplied Builtin.Slice.sliceFields
  refine wpAny_bind (wpAny_bind (wpAny_field hos hds (x := .none) rfl (wpAny_bind (wpAny_field hos hds (x := .none) rfl (wpAny_bind (wpAny_field hos hds (x := vs) rfl (wpAny_pure ?_)))))))
  refine wpAny_bind (slicePart_ ps ?_)
  show wpAny _ _ (if ((-1 : Int) == 0) = true then _ else _) _ _ s
  rw [if_neg (by decide)]
  refine wpAny_bind (slicePart_none (wpAny_bind (slicePart_none (wpAny_bind (wpAny_pure ?_)))))
  show wpAny _ _ (pure ((n : Int) - 1, (-1 : Int), Builtin.Slice.slicePlaces ((n : Int) - 1) (-1) (-1))) _ _ s
  rw [places_rev]
  exact wpAny_pure h
theorem fm_congr {α β : Type} {f g : α → Option β} : ∀ l : List α, (∀ x ∈ l, f x = g x) → l.filterMap f = l.filterMap g
  | [], _ => rfl
  | a :: r, h => by
    rw [List.filterMap_cons, List.filterMap_cons, h a List.mem_cons_self, fm_congr r fun x hx => h x (List.mem_cons_of_mem _ hx)]
theorem pick_rev (xs : Array Value) : ((List.range xs.size).filterMap fun (m : Nat) => xs[((xs.size : Int) - 1 + (m : Int) * (-1)).toNat]?).toArray = xs.toList.reverse.toArray := by
  congr 1
  have key : ∀ l : List Value, (List.range l.length).filterMap (fun (m : Nat) => l[((l.length : Int) - 1 + (m : Int) * (-1)).toNat]?) = l.reverse := fun l => by
    have e : ∀ m ∈ List.range l.length, l[((l.length : Int) - 1 + (m : Int) * (-1)).toNat]? = some (l.reverse[m]?.getD .none) := fun m hm => by
      have hm := List.mem_range.mp hm
      rw [List.getElem?_reverse hm]
      have e1 : ((l.length : Int) - 1 + (m : Int) * (-1)).toNat = l.length - 1 - m := by omega
      rw [e1, List.getElem?_eq_getElem (by omega)]
      rfl
    rw [fm_congr _ e, show (fun m : Nat => some (l.reverse[m]?.getD Value.none)) = some ∘ (fun m : Nat => l.reverse[m]?.getD Value.none) from rfl, List.filterMap_eq_map]
    refine List.ext_getElem (by simp) fun i h1 h2 => ?_
    simp at h2
    rw [List.getElem_map, List.getElem_range, List.getElem?_eq_getElem (by simpa using h2)]
    rfl
  have := key xs.toList
  simpa using this
theorem getItem_tuple_rev {t sl : Addr} {items : Array Value} {vs : Value} {Q : Value → Shared → Prop} (ht : IsTup s.heap t items) (hs : s.heap.IsSliceOf sl .none .none vs) (ps : IsPart vs (some (-1)))
    (h : Q (.ref s.heap.objs.size) { s with heap := s.heap.push { cls := .type "tuple", data := .seq items.toList.reverse.toArray } })
    (hsz : items.size ≤ sizeLine) : wpAny (model prog w) A (getItem (.ref t) (.ref sl)) Q E s := by
  have htake : sizeOk (.seq items.toList.reverse.toArray) := by
    show items.toList.reverse.toArray.size ≤ sizeLine
    rw [List.size_toArray, List.length_reverse, Array.length_toList]
    exact hsz
  obtain ⟨os, hos, hcs, hds⟩ := id hs
  have hTs : s.TypeIs (.ref sl) "slice" := ⟨os, hos, hcs⟩
  unfold getItem
  try with_reducible refine wpAny_holding ?_
  first | refine wpAny_bind (wpAny_pure ?_) | skip
  refine wpAny_bind (wpAny_sequenceKey ht.typeIs (by decide) ?_)
  refine wpAny_bind (wpAny_callSpecial?_slot (name := Str.ofString "__getitem__") ht.typeIs PyProof.Rows.slot_tuple_getitem
    (wpAny_call_entry PyProof.Rows.slot_tuple_getitem ht.typeIs entry_tuple_getitem ?_ (args_tuple_getitem _ _)))
  show wpAny _ _ (Builtin.Tuple.tupleItemsOf (.ref t) >>= _) _ _ s
  refine wpAny_bind (tupleItemsOf_ ht ?_)
  refine wpAny_bind (wpAny_typeOf hTs ?_)
  rw [if_pos (by decide)]
  refine wpAny_bind (sliceApplied_rev hs ps ?_)
  have hno : ¬ (((items.size : Int) - 1 == 0 && (-1 : Int) == 1 && items.size == items.size) = true) := by
    intro q
    rw [Bool.and_eq_true, Bool.and_eq_true] at q
    exact absurd q.1.2 (by decide)
  show wpAny _ _ (if (((items.size : Int) - 1 == 0 && (-1 : Int) == 1 && items.size == items.size)) = true then _ else _) _ _ s
  rw [if_neg hno, pick_rev]
  first
    | exact wpAny_bind (m := Builtin.Tuple.tupleExact _) (wpAny_newObj_type (wpAny_pure ⟨_, rfl, wpAny_pure h⟩) htake)
    | exact wpAny_bind (m := Builtin.Tuple.tupleExact _) (wpAny_newObj_type (wpAny_bind (wpAny_pure (wpAny_pure ⟨_, rfl, wpAny_pure h⟩))) htake)
    | exact wpAny_bind (wpAny_bind (m := Builtin.Tuple.tupleExact _) (wpAny_newObj_type (wpAny_pure (wpAny_pure ⟨_, rfl, wpAny_pure h⟩)) htake))
    | exact wpAny_bind (wpAny_bind (m := Builtin.Tuple.tupleExact _) (wpAny_newObj_type (wpAny_pure ⟨_, rfl, wpAny_pure h⟩) htake))
end
end HT
namespace DN
open PySem PySem.Spec PyProof.Rows L2
def tRevX (K : PySem.W.Frag) (te : TE) : TE := fun σ H Q => te σ H fun x H1 => ∃ a xs, x = .ref a ∧ ((SqL K H1 a xs ∧ ∀ p, H1 p = none → Q (.ref p) (upd H1 p (.lst xs.reverse))) ∨ (SqT K H1 a xs ∧ ∀ p, H1 p = none → Q (.ref p) (upd H1 p (.tup xs.reverse))))
section
variable {X : Cx} {Ts : TsT} {e : Expr} {f : En → Option PyData}
theorem pe_revX {te : TE} {k : Nat} {p1 p2 p3 pos : Pos} (he : PE X e te) : PE X (.Subscript e (.Slice none none (some (.UnaryOp .USub (.Constant (.int 1) k p1) p2)) p3) pos) (tRevX X.K te) := by
  refine ⟨fun pins s σ H Q I h => ?_⟩
  refine Subscript_ (thn (he.run pins s σ H _ I h) fun v s1 ⟨x, H1, I1, r1, q1⟩ => ?_)
  obtain ⟨a, xs, ex, q⟩ := q1
  subst ex
  cases r1
  have hst : PO X (some (.UnaryOp .USub (.Constant (.int 1) k p1) p2)) (tPart (tUn (rU fun i => .int (-i)) (tC (.int 1)))) := po_some (pe_un un_neg pe_int)
  refine wpAny_Slice (thn (po_none.run pins s1 σ H1 (fun o H2 => o = none ∧ H2 = H1) I1 ⟨rfl, rfl⟩) fun vl s2 ⟨l, H2, I2, pl, el, e2⟩ => ?_)
  subst el e2
  refine thn (po_none.run pins s2 σ H2 (fun o H3 => o = none ∧ H3 = H2) I2 ⟨rfl, rfl⟩) fun vu s3 ⟨u, H3, I3, pu, eu, e3⟩ => ?_
  subst eu e3
  refine thn (hst.run pins s3 σ H3 (fun o H4 => o = some (-1) ∧ H4 = H3) I3 ⟨1, rfl, -1, rfl, rfl, rfl⟩) fun vs s4 ⟨o, H4, I4, ps, eo, e4⟩ => ?_
  subst eo e4
  have I5 : Inv X pins σ H4 { s4 with heap := s4.heap.push { cls := .type "slice", data := .fields #[vl, vu, vs] } } := I4.kept (t' := s4.toks) fun b ob q => Heap.get?_push_of_some _ q
  show wpAny (model X.prog X.w) X.A (subscriptTail e (.Slice none none (some (.UnaryOp .USub (.Constant (.int 1) k p1) p2)) p3) (.ref a) (.ref s4.heap.objs.size)) (EP X pins σ Q) X.xe { s4 with heap := s4.heap.push { cls := .type "slice", data := .fields #[vl, vu, vs] } }
  rcases q with ⟨hx, q⟩ | ⟨hx, q⟩
  · obtain ⟨its, r, ht, hz⟩ := I5.list hx
    have hlen := r.length
    refine tail_any (ops := [.ref a, .ref s4.heap.objs.size]) ht.isList.typeIs (PySem.slot_list_getitem.lookup) ?_ (by with_unfolding_all rfl)
    refine wpAny_getItem_list_slice ht.isList (Heap.IsSliceOf.new _ vl vu vs) pl pu ps (by decide) ?_ (by rw [List.size_toArray]; omega)
    rw [PySem.W.krv_pick]
    refine ⟨.ref _, _, I5.laid (t' := s4.toks) (o := .lst xs.reverse) (fun b ob q => Heap.get?_push_of_some _ q) (Nat.le_refl _) ?_, rfl, q _ (I5.hok.fresh (Nat.le_refl _))⟩
    exact ⟨by rw [List.length_reverse]; exact hz, _, 0, r.reverse, Heap.get?_push_size _ rfl⟩
  · obtain ⟨its, r, ht, hz⟩ := I5.tuple hx
    have hlen := r.length
    cases pl
    cases pu
    refine tail_any (ops := [.ref a, .ref s4.heap.objs.size]) ht.typeIs (PyProof.Rows.slot_tuple_getitem.lookup) ?_ (by with_unfolding_all rfl)
    refine HT.getItem_tuple_rev ht (Heap.IsSliceOf.new _ .none .none vs) ps ?_ (by rw [List.size_toArray]; omega)
    refine ⟨.ref _, _, I5.laid (t' := s4.toks) (o := .tup xs.reverse) (fun b ob q => Heap.get?_push_of_some _ q) (Nat.le_refl _) ?_, rfl, q _ (I5.hok.fresh (Nat.le_refl _))⟩
    exact ⟨by rw [List.length_reverse]; exact hz, _, r.reverse, IsTup.new _ _⟩
def gRevX : PyData → Option PyData
  | .list ds => some (.list ds.reverse)
  | .tuple ds => some (.tuple ds.reverse)
  | _ => none
theorem b_revX {k : Nat} {p1 p2 p3 pos : Pos} (ha : DB X Ts e f) : DE X Ts (.Subscript e (.Slice none none (some (.UnaryOp .USub (.Constant (.int 1) k p1) p2)) p3) pos) (f1 gRevX f) := PE.imp (pe_revX ha) fun σ H Q ⟨He, O, en, d, rp, hf, kk⟩ => by
  unfold f1 at hf
  obtain ⟨x, h1, h4⟩ := Option.bind_eq_some_iff.mp hf
  refine tB.of rp h1 fun v H1 x1 r1 q1 => ?_
  cases x <;> simp only [gRevX] at h4 <;> cases h4
  · obtain ⟨a, vs, rfl, s, qs⟩ := q1.lst
    exact ⟨a, vs, rfl, .inl ⟨s, fun p np => kk _ _ (x1.trans (Xt.upd np)) (r1.tabs.new np) (lst_new np (new_out r1.occ np) (dpAll_rev qs))⟩⟩
  · obtain ⟨a, vs, rfl, s, qs⟩ := q1.tup
    exact ⟨a, vs, rfl, .inr ⟨s, fun p np => kk _ _ (x1.trans (Xt.upd np)) (r1.tabs.new np) (tup_new np (new_out r1.occ np) (dpAll_rev qs))⟩⟩
end
end DN
namespace DN
open PySem PySem.Spec PyProof.Rows L2
end DN
set_option maxHeartbeats 400000
namespace DN
open PySem PySem.Spec PyProof.Rows L2
theorem zip_is {K : PySem.W.Frag} {H : Hp} : ∀ {xs : List V} {us : List Value} {ds : List PyData}, Vals xs us → DpAll K H xs ds → PySem.W.EachIs (fun (u : Value) (b : V × PyData) => RelV b.1 u ∧ Dp K H b.1 b.2) us (xs.zip ds) ∧ (xs.zip ds).map (fun b => b.2) = ds
  | _, _, _, .nil, h => by cases h; exact ⟨.nil, rfl⟩
  | _, _, _, .cons r t, h => by
    cases h with
    | cons h1 h2 =>
      obtain ⟨i1, i2⟩ := zip_is t h2
      exact ⟨.cons ⟨r, h1⟩ i1, congrArg (_ :: ·) i2⟩
theorem unzip_is {K : PySem.W.Frag} {H : Hp} : ∀ {us : List Value} {bs : List (V × PyData)}, PySem.W.EachIs (fun (u : Value) (b : V × PyData) => RelV b.1 u ∧ Dp K H b.1 b.2) us bs → Vals (bs.map (fun b => b.1)) us ∧ DpAll K H (bs.map (fun b => b.1)) (bs.map (fun b => b.2))
  | _, _, .nil => ⟨.nil, .nil⟩
  | _, _, .cons h t => by
    obtain ⟨i1, i2⟩ := unzip_is t
    exact ⟨.cons h.1 i1, .cons h.2 i2⟩
end DN
set_option maxHeartbeats 1000000
namespace DN
open PySem PySem.Spec PyProof.Rows L2 LamX
abbrev bodyU (u : Str) (kk : Nat) (p1 p2 p3 p4 : Pos) : Expr := .UnaryOp .USub (.Subscript (.Name u p1) (.Constant (.int 0) kk p2) p3) p4
def useSB (u : Str) (scope : Scope) : Bool := decide (scope.kind = .function) && !scope.isCoroutine && !scope.isGenerator && (scope.names.all fun y => decide (y.2 = .local)) && decide (scope.names.lookup u = some .local)
structure UseS (u : Str) (scope : Scope) : Prop where
  kind : scope.kind = .function
  co : scope.isCoroutine = false
  gen : scope.isGenerator = false
  all : ∀ y ∈ scope.names, y.2 = .local
  has : scope.names.lookup u = some .local
theorem useS_by {u : Str} {scope : Scope} (h : useSB u scope = true) : UseS u scope := by
  unfold useSB at h
  simp only [Bool.and_eq_true, Bool.not_eq_true', decide_eq_true_eq, List.all_eq_true] at h
  obtain ⟨⟨⟨⟨h1, h2⟩, h3⟩, h4⟩, h5⟩ := h
  exact ⟨h1, h2, h3, h4, h5⟩
section
variable {prog : Program} {w : World} {A : Around} {s : Shared}
theorem neg_call {f c' T : Addr} {q u : Str} {kk : Nat} {p1 p2 p3 p4 : Pos} {params : Arguments} {scope : Scope} {cl : List (Str × Addr)} {pm ctv : Value} {its : List Value} {i : Int} {t : Tok}
    (hdep : A.depth < recursionLimit) (hf : s.heap.get? f = some (PySem.W.kla_obj "<lambda>" q params (bodyU u kk p1 p2 p3 p4) scope cl pm c' ctv)) (hcd : s.heap.CodeRec (.ref c') q) (lim : s.heap.NoLimit)
    (U : UseS u scope) (hd : (u == ("__debug__" : Str)) = false)
    (hbind : bindArgs (PySem.W.kla_fn "<lambda>" q params (bodyU u kk p1 p2 p3 p4) scope cl pm (.ref c') ctv) ⟨[.ref T], []⟩ = pure [(u, .ref T)])
    (hT : s.heap.IsTuple T its.toArray) (h0 : its[0]? = some (.int i t)) :
    wpAny (model prog w) A (call (.ref f) [.ref T]) (PySem.W.KeyPure (.int (-i)) s) (fun _ _ => False) s := by
  refine wpAny_call (PySem.W.kla_callFunE hdep hf rfl U.co U.gen rfl hcd ?_)
  rw [hbind]
  refine wpAny_pure (wpAny_newFunctionEnv (fun y hy => by rw [U.all y hy]; exact fun z => nomatch z) (fun y hy => by rw [List.mem_singleton.mp hy]; exact U.has) (fun h₁ hns hsb => ⟨lim.fresh _ hsb, ?_⟩) U.kind)
  have kp : ∀ b o, s.heap.get? b = some o → h₁.get? b = some o := fun b o e => hsb.extBut b o (Nat.ne_of_lt (Heap.lt_size e)) (Heap.get?_push_of_some _ e)
  have hT1 : h₁.IsTuple T its.toArray := by
    obtain ⟨o, ho, hc, n, hdd⟩ := hT
    exact ⟨o, kp _ _ ho, hc, n, hdd⟩
  refine PySem.W.kla_codeExpr ?_
  refine UnaryOp_ (Subscript_ (wpAny_Name (wpAny_loadName_local U.kind U.has hns (v := .ref T) (by simp) ?_) hd))
  refine wpAny_Constant_int ?_
  refine subscriptTail_builtinR (x := .int i t) (T := "tuple") (by obtain ⟨o, ho, hc, _⟩ := hT1; exact ⟨o, ho, hc⟩) slot_tuple_getitem.lookup ?_
  refine getItem_tuple (j := 0) (x := .int i t) hT1 (by decide) (by decide) ?_ (by simpa using h0) ⟨rfl, ?_⟩
  · have : 0 < its.length := by
      rcases Nat.eq_zero_or_pos its.length with z | z
      · rw [List.getElem?_eq_none (by omega)] at h0
        cases h0
      · exact z
    show (if (decide ((0 : Int) ≤ 0) && decide ((0 : Int) < ((its.toArray.size : Nat) : Int))) = true then some (0 : Int).toNat else none) = some 0
    rw [if_pos (by rw [List.size_toArray, Bool.and_eq_true]; exact ⟨rfl, decide_eq_true (by omega)⟩)]
    rfl
  · refine neg_int ⟨_, _, rfl, kp, ?_⟩
    exact Reads.int _ _
end
def hdI : PyData → Int
  | .tuple (.int i :: _) => i
  | _ => 0
def isHdI : PyData → Bool
  | .tuple (.int _ :: _) => true
  | _ => false
theorem isHdI_ex {d : PyData} (h : isHdI d = true) : ∃ i r, d = .tuple (.int i :: r) := by
  unfold isHdI at h
  split at h
  · exact ⟨_, _, rfl⟩
  · cases h
def keyU (d : PyData) : PyData := .int (-(hdI d))
def okU (ds : List PyData) : Bool := ds.all isHdI && Nat.ble ds.length 1000000
def leU : PyData → PyData → Bool := PySem.W.dataLe false keyU
def gSortU : PyData → Option PyData
  | .list ds => if okU ds = true then some (.list (ds.mergeSort leU)) else none
  | _ => none
def fSortU := f1 gSortU
theorem keep_tabs {Ts : TsT} {H H1 : Hp} {P : Addr} {q : Str} (t : Tb Ts H) (hP : (P, q) ∈ Ts.ls) (kp : KeepP P H H1) (t1 : TabS H1 P q) : Xt H H1 ∧ Tb Ts H1 := by
  have tP := t.2.1 _ hP
  obtain ⟨ps, e1, _⟩ := id tP
  obtain ⟨qs, e2, _⟩ := id t1
  have x1 : Xt H H1 := fun b o e => by
    by_cases z : b = P
    · rw [z, e1] at e
      cases e
      exact .inr ⟨ps, qs, rfl, by rw [z]; exact e2⟩
    · exact .inl (kp b o z e)
  refine ⟨x1, fun P' hP' => ?_, fun P' hP' => ?_, t.2.2⟩
  · have z : P' ≠ P := fun z => (t.2.2 _ hP).1 (by rw [← z]; exact hP')
    obtain ⟨ps', a1, a2⟩ := t.1 P' hP'
    exact ⟨ps', kp _ _ z a1, a2⟩
  · by_cases z : P'.1 = P
    · rw [(t.2.2 _ hP).2 P' hP' z]; exact t1
    · obtain ⟨ps', a1, a2, a3⟩ := t.2.1 P' hP'
      refine ⟨ps', kp _ _ z a1, a2, fun pos cv hc => ?_⟩
      obtain ⟨c0, c1, c2⟩ := a3 pos cv hc
      exact ⟨c0, c1, kp _ _ (fun y => by rw [y, e1] at c2; exact codeO_ne ps (Option.some.inj c2).symm) c2⟩
section
variable {X : Cx} {Ts : TsT} {pos p : Pos} {e : Expr} {f : En → Option PyData} {k : Nat}
theorem d_sortU {c P : Addr} {q u : Str} {kk : Nat} {p1 p2 p3 p4 lpos kpos : Pos} {params : Arguments} {scope : Scope} (hr : Room (k + 1) X.A) (hg : Gl X "sorted") (hm : X.mg "sorted" = none) (hb : bootBuiltins "sorted" = some (.builtin "sorted"))
    (TB : TabB X.base X.mg c P) (hP : (P, q) ∈ Ts.ls) (hcode : X.env.code = .ref c) (hq : X.env.qual ++ "<lambda>" = q) (U : UseS u scope) (ha : DB X Ts e f)
    (hd : (u == ("__debug__" : Str)) = false := by decide)
    (hdef : defaultsOf params X.env = ([], []) := by rfl)
    (hbind : ∀ (T : Addr) (q : Str) (cl : List (Str × Addr)) (pm cv ctv : Value), bindArgs (PySem.W.kla_fn "<lambda>" q params (bodyU u kk p1 p2 p3 p4) scope cl pm cv ctv) ⟨[.ref T], []⟩ = pure [(u, .ref T)] := by intros; rfl)
    (hs : starEach [e] X.env = (false, eval e X.env) :: starEach [] X.env := by rfl)
    (he : backTo pos (starEach [e] X.env) = (false, eval e X.env) :: backTo pos (starEach [] X.env) := by rfl) (hpl : (backTo pos (starEach [e] X.env)).any (·.1) = false := by rfl)
    (hall : (backToKw pos (keywordEach [⟨some "key", .Lambda params (bodyU u kk p1 p2 p3 p4) scope lpos, kpos⟩] X.env)).all (·.1.isSome) = true := by rfl) (hnone : (backToKw pos (keywordEach [⟨some "key", .Lambda params (bodyU u kk p1 p2 p3 p4) scope lpos, kpos⟩] X.env)).any (·.1.isNone) = false := by rfl) (hks : (backToKw pos (keywordEach [⟨some "key", .Lambda params (bodyU u kk p1 p2 p3 p4) scope lpos, kpos⟩] X.env)).filterMap (·.1) = [Str.ofString "key"] := by rfl) :
    DE X Ts (.Call (.Name "sorted" p) [e] [⟨some "key", .Lambda params (bodyU u kk p1 p2 p3 p4) scope lpos, kpos⟩] pos) (fSortU f) := by
  refine ⟨fun pins s σ H Q I ⟨He, O, en, d, rp, hf, kk'⟩ => ?_⟩
  obtain ⟨d0, h1, h2⟩ := Option.bind_eq_some_iff.mp hf
  refine wpAny_Call_Name_kw (ld_blt I hg hm hb ?_ (by decide) (by decide))
  refine PyProof.Rows.callWith_kw (thn ((pa_cons ha pa_nil hs).run pos pins s σ H (fun vs H1 => Xt H H1 ∧ Rep X.K Ts He O σ H1 en ∧ ∃ v, vs = [v] ∧ DpB X.K H1 O v d0) I (tB.of rp h1 fun v H1 x1 r1 q1 => ⟨x1, r1, v, rfl, q1⟩)) fun us s1 ⟨vs, H1, I1, r1, x1, rp1, v, ev, q1⟩ => ?_) he hpl hall hnone
  subst ev
  show wpAny _ _ (evalAll ((do let v ← eval (.Lambda params (bodyU u kk p1 p2 p3 p4) scope lpos) X.env; standAt pos; pure v) :: [])) _ _ s1
  refine wpAny_evalAll_cons (wpAny_bind (lam_make3 I1 TB hcode (by rw [hq]; exact rp1.tabs.2.1 _ hP) hdef (fun y hy z => by rw [U.all y hy] at z; cases z) fun fa c' pm ctv H2 s2 I2 kp T2 hfo hfn hfr hco => wpAny_bind (wpAny_standAt (wpAny_pure (wpAny_evalAll_nil ?_)))))
  rw [hks]
  rw [hq] at T2
  obtain ⟨x2, tb2⟩ := keep_tabs rp1.tabs hP kp T2
  have rp2 := rp1.go x2 tb2
  have hl0 : ∃ ds, d0 = .list ds := by
    cases d0 with
    | list ds => exact ⟨ds, rfl⟩
    | none => cases h2
    | bool b => cases h2
    | int i => cases h2
    | str s => cases h2
    | tuple t => cases h2
    | dict k => cases h2
  obtain ⟨ds, rfl⟩ := hl0
  simp only [gSortU] at h2
  split at h2
  · rename_i ok
    cases h2
    obtain ⟨a, xs, rfl, sq1, qs1⟩ := q1.lst
    obtain rfl := Vals.ref1 r1
    have sq : SqL X.K H2 a xs := sqL_mono (fun o n e => x2.get a o e n) sq1
    have qs : DpAll X.K (hide H2 O) xs ds := DpAll.mono (hide_mono x2) qs1
    obtain ⟨its, rv, hl, hz⟩ := I2.list sq
    obtain ⟨e1, e2⟩ := zip_is rv qs
    unfold okU at ok
    rw [Bool.and_eq_true, List.all_eq_true] at ok
    obtain ⟨ok, ln⟩ := ok
    have lz : (xs.zip ds).length = its.length := (PySem.W.EachIs.length e1).symm
    have hun := hr.un
    have hdp := hr.dp
    obtain ⟨⟨oc, fvs, tq, hoc, hdc, hvc⟩, _, _⟩ := I2.hok c' _ hco
    show wpAny _ _ (call (.builtin "sorted") [.ref a] [(Str.ofString "key", .ref fa)]) _ _ s2
    refine PySem.W.sorted_key_data (k := fun b : V × PyData => keyU b.2) (bs := xs.zip ds) (b := false) hl.isList e1 ?_ ?_ ?_ ?_ (PyProof.Rows.ksk_s1 _ _) (fun x => PyProof.Rows.ksk_l1 _ _) (fun x => PyProof.Rows.ksk_t1 _ _) ?_ ?_
    · intro d hd d' hd'
      obtain ⟨b, _, rfl⟩ := List.mem_map.mp hd
      obtain ⟨b', _, rfl⟩ := List.mem_map.mp hd'
      simp [keyU, PySem.W.alike]
    · refine .inr fun d hd => ?_
      obtain ⟨b, _, rfl⟩ := List.mem_map.mp hd
      exact ⟨fun z => (by cases z), fun xs z => (by cases z)⟩
    · rw [lz, ← rv.length]; exact hz
    · intro b _
      show X.A.units + 2 + 0 < cLine
      omega
    · intro v b ⟨hv1, hv2⟩ hb h tk kpt
      have hm2 : b.2 ∈ ds := by rw [← e2]; exact List.mem_map_of_mem hb
      obtain ⟨i, r, ei⟩ := isHdI_ex (ok _ hm2)
      rw [ei] at hv2
      obtain ⟨bv, bd⟩ := b
      cases hv2 with
      | tup sT aT =>
        rename_i T ys
        obtain rfl : v = Value.ref T := hv1
        obtain ⟨tis, rT, pT, _⟩ := I2.tuple (sqT_mono (fun o n e => (hide_some e).2) sT)
        cases aT with
        | cons hd1 tl1 =>
          cases hd1
          cases rT with
          | cons rh rt =>
            rename_i vsr asr
            obtain ⟨tk', rfl⟩ := rh
            have ek : keyU bd = .int (-i) := by
              rw [show bd = .tuple (.int i :: r) from ei]
              rfl
            show wpAny _ _ _ (PySem.W.KeyPure (keyU bd) _) _ _
            rw [ek]
            refine neg_call (s := { s2 with heap := h, toks := tk }) (its := Value.int i tk' :: asr) (t := tk') (by show X.A.depth < _; omega) (kpt _ _ hfo) ?_ (I2.nolimit.keeps kpt) U hd (hbind _ _ _ _ _ _) ?_ ?_
            · rw [hq]
              exact ⟨c', oc, fvs, tq, rfl, kpt _ _ hoc, hdc, by rw [← hq]; exact hvc⟩
            · obtain ⟨o, ho, hc, n, hdd⟩ := pT
              exact ⟨o, kpt _ _ ho, hc, n, hdd⟩
            · rfl
    · intro out c2 h' tk kpt fr at2 ln2 eo
      obtain ⟨i1, i2⟩ := unzip_is eo
      have em : ((xs.zip ds).mergeSort (PySem.W.dataLe false fun b : V × PyData => keyU b.2)).map (fun b => b.2) = ds.mergeSort leU := by
        have := List.map_mergeSort (r := PySem.W.dataLe false fun b : V × PyData => keyU b.2) (s := leU) (f := fun b : V × PyData => b.2) (l := xs.zip ds) (fun a _ b _ => rfl)
        rw [this, e2]
      rw [em] at i2
      have len : (((xs.zip ds).mergeSort (PySem.W.dataLe false fun b : V × PyData => keyU b.2)).map (fun b => b.1)).length ≤ sizeLine := by
        rw [List.length_map, List.length_mergeSort, lz, ← rv.length]
        exact hz
      have np : H2 (s2.heap.objs.size + 1) = none := I2.hok.fresh (Nat.le_succ _)
      refine ⟨.ref _, upd H2 (s2.heap.objs.size + 1) (.lst (((xs.zip ds).mergeSort (PySem.W.dataLe false fun b : V × PyData => keyU b.2)).map (fun b => b.1))), I2.laid (t' := tk) kpt (Nat.le_succ _) ⟨len, _, c2, i1, at2⟩, rfl, ?_⟩
      exact kk' _ _ ((x1.trans x2).trans (Xt.upd np)) (rp2.tabs.new np) (lst_new np (new_out rp2.occ np) i2)
  · cases h2
end
end DN
set_option maxHeartbeats 3200000
namespace DN
open PySem PySem.Spec PyProof.Rows L2
end DN
set_option maxHeartbeats 4000000
namespace Ty
open PySem PySem.Spec PyProof.Rows L2 DN
def leU3 (a b : Int × Int × Bool) : Bool := decide (-a.1 ≤ -b.1)
def sortU3 (l : List (Int × Int × Bool)) : Option (List (Int × Int × Bool)) := if l.length ≤ 1000000 then some (l.mergeSort leU3) else none
theorem leU3_eq (a b : Int × Int × Bool) : leU (e3 eI eI eB a) (e3 eI eI eB b) = leU3 a b := by
  have := congrFun (congrFun (PySem.W.dataLe_int (β := PyData) fun d => -(hdI d)) (e3 eI eI eB a)) (e3 eI eI eB b)
  exact this
theorem g_sortU3 (l : List (Int × Int × Bool)) : gSortU (eL (e3 eI eI eB) l) = (sortU3 l).map (eL (e3 eI eI eB)) := by
  show (if okU (l.map (e3 eI eI eB)) = true then some (PyData.list ((l.map (e3 eI eI eB)).mergeSort leU)) else none) = _
  unfold sortU3
  by_cases h : l.length ≤ 1000000
  · have ok : okU (l.map (e3 eI eI eB)) = true := by
      unfold okU
      rw [List.length_map, Bool.and_eq_true, List.all_eq_true]
      refine ⟨fun d hd => ?_, Nat.ble_eq_true_of_le h⟩
      obtain ⟨a, _, rfl⟩ := List.mem_map.mp hd
      rfl
    rw [if_pos ok, if_pos h]
    refine congrArg (fun z => some (PyData.list z)) ?_
    exact (List.map_mergeSort (r := leU3) (s := leU) (f := e3 eI eI eB) (l := l) (fun a _ b _ => (leU3_eq a b).symm)).symm
  · rw [if_neg h, if_neg (fun k => h ?_)]
    · rfl
    · unfold okU at k
      rw [List.length_map, Bool.and_eq_true] at k
      exact Nat.le_of_ble_eq_true k.2
end Ty
set_option maxHeartbeats 400000
namespace DN
open PySem PySem.Spec PyProof.Rows L2
theorem Draws.up {P : Program} {w : World} {A : Around} {it : Addr} {fp : List Addr} {n : Nat} {R : Nat → Value → Prop} {S : Nat → Heap → Prop} (D : Draws P w A it fp n R S) :
    Draws P w A it fp (n + 1) (fun i v => ∃ j, i = j + 1 ∧ R j v) (fun i h => ∃ j, i = j + 1 ∧ S j h) where
  live := fun i h ⟨j, _, st⟩ => D.live j h st
  frame := fun i h h' ⟨j, e, st⟩ k => ⟨j, e, D.frame j h h' st k⟩
  item := fun i s Q E hi ⟨j, e, st⟩ q => D.item j s Q E (by omega) st fun x h' tk p st' sb => q x h' tk ⟨j, e, p⟩ ⟨j + 1, by omega, st'⟩ sb
  done := fun s Q E ⟨j, e, st⟩ q => D.done s Q E (by have : n = j := by omega
                                                     rw [this]; exact st) q
end DN
set_option maxHeartbeats 4000000
namespace Ty
open PySem PySem.Spec PyProof.Rows L2 DN
universe u
section
variable {α β γ σ τ ζ ξ : Type} {en : En} {f g : En → Option PyData} {F G : En → Option Fl} {ea : α → PyData} {i j : Nat} {env : σ → ζ → En}
theorem g_revXL {e : α → PyData} (l : List α) : gRevX (eL e l) = (some (List.reverse l)).map (eL e) := by
  show some (PyData.list (l.map e).reverse) = some (PyData.list (l.reverse.map e))
  rw [List.map_reverse]
end
end Ty
namespace DN
open PySem PySem.Spec PyProof.Rows L2
end DN
set_option maxHeartbeats 400000
namespace PySem
end PySem
namespace DN
open PySem PySem.Spec PyProof.Rows L2
end DN
set_option maxHeartbeats 4000000
namespace Ty
open PySem PySem.Spec PyProof.Rows L2 DN
def F_part_of_steps : En → Option Fl := (sSeq (sOwn 3 (fLst fNil)) (sSeq (sSet 4 (fLit (.int 0))) (sSeq (sFor (iSeq (fVar 0)) (bTup [5, 6]) (sSeq (sSet 7 (fSub (fMin2 (fPlus (fVar 4) (fVar 6)) (fVar 2)) (fMax2 (fVar 4) (fVar 1)))) (sSeq (sIf (fT (fGt (fVar 7) (fLit (.int 0)))) (sApp 3 (fTup (fCons (fVar 5) (fCons (fVar 7) fNil)))) sNil) (sAug 4 (gI fun a b => .int (a + b)) (fVar 6))))) (sSeq (sRel 3) (sRet (fVar 3))))))
def S_part_of_steps := runD 8 (F_part_of_steps)
def F_worth_on_curve (c_part_of_steps : List PyData → Option PyData) : En → Option Fl := (sSeq (sBind (bTup [2, 3, 4]) (fVar 0)) (sRet (fPlus (fVar 3) (fSum (fLc (iSeq (fCall 3 c_part_of_steps (fCons (fVar 4) (fCons (fLit (.int 0)) (fCons (fSub (fVar 1) (fVar 2)) fNil))))) (bTup [5, 6]) kYes (fTimes (fVar 5) (fVar 6)) [5, 6])))))
def S_worth_on_curve := runD 7 (F_worth_on_curve S_part_of_steps)
def F_uses_of_water : En → Option Fl := (sSeq (sSet 3 (fLc (iSeq (fIx (fVar 0) (fLit (.int 2)))) (bTup [5, 6]) kYes (fTup (fCons (fVar 5) (fCons (fVar 6) (fCons (fLit (.bool true)) fNil)))) [5, 6])) (sSeq (sSet 4 (fLc (iSeq (fVar 1)) (bTup [7, 5]) kYes (fTup (fCons (fVar 5) (fCons (fVar 7) (fCons (fLit (.bool false)) fNil)))) [7, 5])) (sRet (fSortU (fPlus (fPlus (fVar 3) (fVar 4)) (fLst (fCons (fTup (fCons (fLit (.int 0)) (fCons (fPlus (fVar 2) (fLit (.int 1))) (fCons (fLit (.bool false)) fNil)))) fNil)))))))
def S_uses_of_water := runD 8 (F_uses_of_water)
def F_curve_in_month (c_uses_of_water : List PyData → Option PyData) : En → Option Fl := (sSeq (sBind (bTup [3, 4, 5]) (fVar 0)) (sRet (fTup (fCons (fVar 3) (fCons (fVar 4) (fCons (fLc (iSeq (fCall 3 c_uses_of_water (fCons (fVar 0) (fCons (fVar 1) (fCons (fVar 2) fNil))))) (bTup [6, 7, 5]) kYes (fTup (fCons (fVar 6) (fCons (fVar 7) fNil))) [6, 7, 5]) fNil))))))
def S_curve_in_month := runD 8 (F_curve_in_month S_uses_of_water)
def F_curve_before (c_part_of_steps c_worth_on_curve : List PyData → Option PyData) : En → Option Fl := (sSeq (sBind (bTup [3, 4, 5]) (fVar 0)) (sSeq (sSet 6 (fMax2 (fLit (.int 0)) (fSub (fVar 3) (fVar 1)))) (sSeq (sSet 7 (fSub (fPlus (fVar 6) (fVar 1)) (fVar 3))) (sSeq (sSet 5 (fCall 3 c_part_of_steps (fCons (fVar 5) (fCons (fVar 7) (fCons (fSub (fPlus (fVar 7) (fVar 2)) (fVar 6)) fNil))))) (sRet (fTup (fCons (fVar 6) (fCons (fCall 2 c_worth_on_curve (fCons (fVar 0) (fCons (fPlus (fVar 6) (fVar 1)) fNil))) (fCons (fVar 5) fNil)))))))))
def S_curve_before := runD 8 (F_curve_before S_part_of_steps S_worth_on_curve)
def F_curves_of_levels (c_curve_in_month c_curve_before : List PyData → Option PyData) : En → Option Fl := (sSeq (sOwn 4 (fLst (fCons (fTup (fCons (fVar 1) (fCons (fLit (.int 0)) (fCons (fLst (fCons (fTup (fCons (fLit (.int 0)) (fCons (fSub (fIx (fVar 0) (fNeg (fLit (.int 1)))) (fVar 1)) fNil))) fNil)) fNil)))) fNil))) (sSeq (sFor (iRevF (fZipL3 (fVar 0) (fVar 2) (fVar 3))) (bTup [5, 6, 7]) (sSeq (sSet 8 (fCall 3 c_curve_in_month (fCons (fIx (fOwn 4) (fNeg (fLit (.int 1)))) (fCons (fVar 7) (fCons (fPlus (fVar 5) (fVar 6)) fNil))))) (sApp 4 (fCall 3 c_curve_before (fCons (fVar 8) (fCons (fVar 6) (fCons (fVar 5) fNil))))))) (sRet (f1 gRevX (fOwn 4)))))
def S_curves_of_levels := runD 9 (F_curves_of_levels S_curve_in_month S_curve_before)
def F_level_curves (c_curves_of_levels : List PyData → Option PyData) : En → Option Fl := (sSeq (sBind (bTup [2, 3, 4, 5]) (fVar 0)) (sRet (fCall 4 c_curves_of_levels (fCons (fTimes (fTup (fCons (fVar 2) fNil)) (fPlus (fLen (fVar 5)) (fLit (.int 1)))) (fCons (fVar 4) (fCons (fVar 5) (fCons (fVar 1) fNil)))))))
def S_level_curves := runD 6 (F_level_curves S_curves_of_levels)
def F_best_hold (c_uses_of_water : List PyData → Option PyData) : En → Option Fl := (sSeq (sSet 3 (fIx (fVar 0) (fLit (.int 0)))) (sSeq (sSet 4 (fSub (fVar 2) (fVar 3))) (sSeq (sFor (iSeq (fCall 3 c_uses_of_water (fCons (fVar 0) (fCons (fVar 1) (fCons (fVar 2) fNil))))) (bTup [5, 6, 7]) (sSeq (sSet 8 (fMin2 (fVar 4) (fVar 6))) (sSeq (sAug 4 (gI fun a b => .int (a - b)) (fVar 8)) (sIf (fT (fVar 7)) (sAug 3 (gI fun a b => .int (a + b)) (fVar 8)) sNil)))) (sRet (fVar 3)))))
def S_best_hold := runD 9 (F_best_hold S_uses_of_water)
def F_best_levels (c_best_hold : List PyData → Option PyData) : En → Option Fl := (sSeq (sSet 4 (fVar 0)) (sSeq (sOwn 5 (fLst fNil)) (sSeq (sFor (iZip3 (fVar 1) (fVar 2) (fCut (fVar 3) (fPart (fLit (.int 1))) fNoPart)) (bTup [6, 7, 8]) (sSeq (sSet 4 (fCall 3 c_best_hold (fCons (fVar 8) (fCons (fVar 7) (fCons (fPlus (fVar 4) (fVar 6)) fNil))))) (sApp 5 (fVar 4)))) (sSeq (sRel 5) (sRet (fVar 5))))))
def S_best_levels := runD 9 (F_best_levels S_best_hold)
def F_releases_between : En → Option Fl := (sRet (fLc (iZip3 (fPlus (fLst (fCons (fVar 0) fNil)) (fVar 2)) (fVar 1) (fVar 2)) (bTup [3, 4, 5]) kYes (fSub (fPlus (fVar 3) (fVar 4)) (fVar 5)) [3, 4, 5]))
def S_releases_between := runD 6 (F_releases_between)
def F_best_releases (c_best_levels c_level_curves c_releases_between : List PyData → Option PyData) : En → Option Fl := (sSeq (sBind (bTup [2, 3, 2, 4]) (fVar 0)) (sSeq (sSet 5 (fCall 4 c_best_levels (fCons (fVar 3) (fCons (fVar 4) (fCons (fVar 1) (fCons (fCall 2 c_level_curves (fCons (fVar 0) (fCons (fVar 1) fNil))) fNil)))))) (sRet (fCall 3 c_releases_between (fCons (fVar 3) (fCons (fVar 4) (fCons (fVar 5) fNil)))))))
def S_best_releases := runD 6 (F_best_releases S_best_levels S_level_curves S_releases_between)
noncomputable def N_uses_of_water (curve' : (Int × Int × (List (Int × Int)))) (pairs' : (List (Int × Int))) (water' : Int) : Option (List (Int × Int × Bool)) := ((compL (fun (i3 : (Int × Int)) => (some true)) (fun (i3 : (Int × Int)) => (some (i3.1, i3.2, true))) curve'.2.2).bind fun held_1 => ((compL (fun (i5 : (Int × Int)) => (some true)) (fun (i5 : (Int × Int)) => (some (i5.2, i5.1, false))) pairs').bind fun sold_4 => (((catO held_1 sold_4).bind fun x10 => (some [((0 : Int), (water' + (1 : Int)), false)]).bind fun y11 => (catO x10 y11)).bind (fun x12 => (sortU3 x12)))))
theorem t_uses_of_water (curve' : (Int × Int × (List (Int × Int)))) (pairs' : (List (Int × Int))) (water' : Int) : S_uses_of_water [(e3 eI eI (eL (e2 eI eI))) curve', (eR (e2 eI eI)) pairs', eI water'] = (N_uses_of_water curve' pairs' water').map (eL (e3 eI eI eB)) := d_run (r_seq_set (i := 3) (A := (compL (fun (i3 : (Int × Int)) => (some true)) (fun (i3 : (Int × Int)) => (some (i3.1, i3.2, true))) curve'.2.2)) (t_lc (L := (some curve'.2.2)) (ea := (e2 eI eI)) (eb := (e3 eI eI eB)) (T := fun (i3 : (Int × Int)) => (some true)) (Bf := fun (i3 : (Int × Int)) => (some (i3.1, i3.2, true))) (i_seqL (A := (some curve'.2.2)) (e := (e2 eI eI)) (t_ixc (A := (some curve')) (k := 2) (pr := fun x2 => x2.2.2) (eb := (eL (e2 eI eI))) (fun _ => rfl) (t_var (i := 0) (e := (e3 eI eI (eL (e2 eI eI)))) (v := curve') rfl))) (fun i3 => ⟨[.dat ((e3 eI eI (eL (e2 eI eI))) curve'), .dat ((eR (e2 eI eI)) pairs'), .dat (eI water'), .no, .no, .dat (eI i3.1), .dat (eI i3.2), .no], rfl, t_yes, (t_tup3 (A := (some i3.1)) (B := (some i3.2)) (C := (some true)) (t_var (i := 5) (e := eI) (v := i3.1) rfl) (t_var (i := 6) (e := eI) (v := i3.2) rfl) (t_bl (b := true)))⟩)) (lt_of rfl) (fun held_1 => (r_seq_set (i := 4) (A := (compL (fun (i5 : (Int × Int)) => (some true)) (fun (i5 : (Int × Int)) => (some (i5.2, i5.1, false))) pairs')) (t_lc (L := (some pairs')) (ea := (e2 eI eI)) (eb := (e3 eI eI eB)) (T := fun (i5 : (Int × Int)) => (some true)) (Bf := fun (i5 : (Int × Int)) => (some (i5.2, i5.1, false))) (i_seqR (A := (some pairs')) (e := (e2 eI eI)) (t_var (i := 1) (e := (eR (e2 eI eI))) (v := pairs') rfl)) (fun i5 => ⟨[.dat ((e3 eI eI (eL (e2 eI eI))) curve'), .dat ((eR (e2 eI eI)) pairs'), .dat (eI water'), .dat ((eL (e3 eI eI eB)) held_1), .no, .dat (eI i5.2), .no, .dat (eI i5.1)], rfl, t_yes, (t_tup3 (A := (some i5.2)) (B := (some i5.1)) (C := (some false)) (t_var (i := 5) (e := eI) (v := i5.2) rfl) (t_var (i := 7) (e := eI) (v := i5.1) rfl) (t_bl (b := false)))⟩)) (lt_of rfl) (fun sold_4 => (r_ret (A := (((catO held_1 sold_4).bind fun x10 => (some [((0 : Int), (water' + (1 : Int)), false)]).bind fun y11 => (catO x10 y11)).bind (fun x12 => (sortU3 x12)))) (t_f1 (A := ((catO held_1 sold_4).bind fun x10 => (some [((0 : Int), (water' + (1 : Int)), false)]).bind fun y11 => (catO x10 y11))) (h := (fun x12 => (sortU3 x12))) g_sortU3 (t_f2 (A := (catO held_1 sold_4)) (B := (some [((0 : Int), (water' + (1 : Int)), false)])) (h := (fun x10 y11 => (catO x10 y11))) g_addL (t_f2 (A := (some held_1)) (B := (some sold_4)) (h := (fun x6 y7 => (catO x6 y7))) g_addL (t_var (i := 3) (e := (eL (e3 eI eI eB))) (v := held_1) rfl) (t_var (i := 4) (e := (eL (e3 eI eI eB))) (v := sold_4) rfl)) (t_lstL (L := (some [((0 : Int), (water' + (1 : Int)), false)])) (t_cons (A := (some ((0 : Int), (water' + (1 : Int)), false))) (L := (some [])) (t_tup3 (A := (some (0 : Int))) (B := (some (water' + (1 : Int)))) (C := (some false)) (t_int (i := 0)) (t_f2 (A := (some water')) (B := (some (1 : Int))) (h := (fun x8 y9 => some (x8 + y9))) g_add (t_var (i := 2) (e := eI) (v := water') rfl) (t_int (i := 1))) (t_bl (b := false))) (t_nil (α := (Int × Int × Bool)) (e := (e3 eI eI eB))))))))))))
noncomputable def N_curve_in_month (curve' : (Int × Int × (List (Int × Int)))) (pairs' : (List (Int × Int))) (most' : Int) : Option (Int × Int × (List (Int × Int))) := ((some curve').bind fun p1 => ((some p1.1).bind fun x3 => (some p1.2.1).bind fun x4 => ((N_uses_of_water curve' pairs' most').bind fun l => compL (fun (i2 : (Int × Int × Bool)) => (some true)) (fun (i2 : (Int × Int × Bool)) => (some (i2.1, i2.2.1))) l).bind fun x5 => some (x3, x4, x5)))
theorem t_curve_in_month (curve' : (Int × Int × (List (Int × Int)))) (pairs' : (List (Int × Int))) (most' : Int) : S_curve_in_month [(e3 eI eI (eL (e2 eI eI))) curve', (eR (e2 eI eI)) pairs', eI most'] = (N_curve_in_month curve' pairs' most').map (e3 eI eI (eL (e2 eI eI))) := d_run (r_seq_bind (A := (some curve')) (envb := fun p1 => [.dat ((e3 eI eI (eL (e2 eI eI))) curve'), .dat ((eR (e2 eI eI)) pairs'), .dat (eI most'), .dat (eI p1.1), .dat (eI p1.2.1), .dat ((eL (e2 eI eI)) p1.2.2), .no, .no]) (t_var (i := 0) (e := (e3 eI eI (eL (e2 eI eI)))) (v := curve') rfl) (fun _ => rfl) (fun p1 => (r_ret (A := ((some p1.1).bind fun x3 => (some p1.2.1).bind fun x4 => ((N_uses_of_water curve' pairs' most').bind fun l => compL (fun (i2 : (Int × Int × Bool)) => (some true)) (fun (i2 : (Int × Int × Bool)) => (some (i2.1, i2.2.1))) l).bind fun x5 => some (x3, x4, x5))) (t_tup3 (A := (some p1.1)) (B := (some p1.2.1)) (C := ((N_uses_of_water curve' pairs' most').bind fun l => compL (fun (i2 : (Int × Int × Bool)) => (some true)) (fun (i2 : (Int × Int × Bool)) => (some (i2.1, i2.2.1))) l)) (t_var (i := 3) (e := eI) (v := p1.1) rfl) (t_var (i := 4) (e := eI) (v := p1.2.1) rfl) (t_lc (L := (N_uses_of_water curve' pairs' most')) (ea := (e3 eI eI eB)) (eb := (e2 eI eI)) (T := fun (i2 : (Int × Int × Bool)) => (some true)) (Bf := fun (i2 : (Int × Int × Bool)) => (some (i2.1, i2.2.1))) (i_seqL (A := (N_uses_of_water curve' pairs' most')) (e := (e3 eI eI eB)) (t_call3 (A := (some curve')) (B := (some pairs')) (C := (some most')) (N := N_uses_of_water) t_uses_of_water (t_var (i := 0) (e := (e3 eI eI (eL (e2 eI eI)))) (v := curve') rfl) (t_var (i := 1) (e := (eR (e2 eI eI))) (v := pairs') rfl) (t_var (i := 2) (e := eI) (v := most') rfl))) (fun i2 => ⟨[.dat ((e3 eI eI (eL (e2 eI eI))) curve'), .dat ((eR (e2 eI eI)) pairs'), .dat (eI most'), .dat (eI p1.1), .dat (eI p1.2.1), .dat (eB i2.2.2), .dat (eI i2.1), .dat (eI i2.2.1)], rfl, t_yes, (t_tup2 (A := (some i2.1)) (B := (some i2.2.1)) (t_var (i := 6) (e := eI) (v := i2.1) rfl) (t_var (i := 7) (e := eI) (v := i2.2.1) rfl))⟩))))))
noncomputable def N_part_of_steps (steps' : (List (Int × Int))) (first' : Int) (behind' : Int) : Option (List (Int × Int)) := ((some []).bind fun part_1 => ((some (0 : Int)).bind fun place_2 => ((foldO (fun i5 s3 => ((some ((min2 (s3.1 + i5.2) behind') - (max2 s3.1 first'))).bind fun taken_6 => ((iteO (some (decide ((0 : Int) < taken_6))) ((appO s3.2 (i5.1, taken_6)).bind fun part_23 => some part_23) (some s3.2)).bind fun s25 => (((some i5.2)).bind fun x27 => (fun place_28 => some (place_28, s25)) (s3.1 + x27))))) steps' (place_2, part_1)).bind fun s29 => (some s29.2))))
theorem t_part_of_steps (steps' : (List (Int × Int))) (first' : Int) (behind' : Int) : S_part_of_steps [(eL (e2 eI eI)) steps', eI first', eI behind'] = (N_part_of_steps steps' first' behind').map (eL (e2 eI eI)) := d_run (r_seq_own (i := 3) (ea := (e2 eI eI)) (A := (some [])) (t_lstL (L := some []) (t_nil (α := (Int × Int)) (e := (e2 eI eI)))) (lt_of rfl) (fun part_1 => (r_seq_set (i := 4) (A := (some (0 : Int))) (t_int (i := 0)) (lt_of rfl) (fun place_2 => (r_seq_nx (env := (fun (s : (Int × (List (Int × Int)))) (z : (Slot × Slot × Slot)) => [.dat ((eL (e2 eI eI)) steps'), .dat (eI first'), .dat (eI behind'), .own (List.map (e2 eI eI) s.2), .dat (eI s.1), z.1, z.2.1, z.2.2])) (n_for (env := (fun (s : (Int × (List (Int × Int)))) (z : (Slot × Slot × Slot)) => [.dat ((eL (e2 eI eI)) steps'), .dat (eI first'), .dat (eI behind'), .own (List.map (e2 eI eI) s.2), .dat (eI s.1), z.1, z.2.1, z.2.2])) (s := (place_2, part_1)) (z := ((.no : Slot), (.no : Slot), (.no : Slot))) (L := (some steps')) (ea := (e2 eI eI)) (Bd := (fun i5 s3 => ((some ((min2 (s3.1 + i5.2) behind') - (max2 s3.1 first'))).bind fun taken_6 => ((iteO (some (decide ((0 : Int) < taken_6))) ((appO s3.2 (i5.1, taken_6)).bind fun part_23 => some part_23) (some s3.2)).bind fun s25 => (((some i5.2)).bind fun x27 => (fun place_28 => some (place_28, s25)) (s3.1 + x27)))))) rfl (i_seqL (A := (some steps')) (e := (e2 eI eI)) (t_var (i := 0) (e := (eL (e2 eI eI))) (v := steps') rfl)) (fun i5 s3 z4 => ⟨[.dat ((eL (e2 eI eI)) steps'), .dat (eI first'), .dat (eI behind'), .own (List.map (e2 eI eI) s3.2), .dat (eI s3.1), .dat (eI i5.1), .dat (eI i5.2), z4.2.2], rfl, (n_seq_set (i := 7) (A := (some ((min2 (s3.1 + i5.2) behind') - (max2 s3.1 first')))) (t_f2 (A := (some (min2 (s3.1 + i5.2) behind'))) (B := (some (max2 s3.1 first'))) (h := (fun x17 y18 => some (x17 - y18))) g_sub (t_f2 (A := (some (s3.1 + i5.2))) (B := (some behind')) (h := (fun x11 y12 => some (min2 x11 y12))) g_min2 (t_f2 (A := (some s3.1)) (B := (some i5.2)) (h := (fun x7 y8 => some (x7 + y8))) g_add (t_var (i := 4) (e := eI) (v := s3.1) rfl) (t_var (i := 6) (e := eI) (v := i5.2) rfl)) (t_var (i := 2) (e := eI) (v := behind') rfl)) (t_f2 (A := (some s3.1)) (B := (some first')) (h := (fun x15 y16 => some (max2 x15 y16))) g_max2 (t_var (i := 4) (e := eI) (v := s3.1) rfl) (t_var (i := 1) (e := eI) (v := first') rfl))) (lt_of rfl) (fun taken_6 => (n_seq (env2 := (fun (s : ((List (Int × Int)))) (z : Unit) => [.dat ((eL (e2 eI eI)) steps'), .dat (eI first'), .dat (eI behind'), .own (List.map (e2 eI eI) s), .dat (eI s3.1), .dat (eI i5.1), .dat (eI i5.2), .dat (eI taken_6)])) (A := (iteO (some (decide ((0 : Int) < taken_6))) ((appO s3.2 (i5.1, taken_6)).bind fun part_23 => some part_23) (some s3.2))) (n_if (P := (some (decide ((0 : Int) < taken_6)))) (A := ((appO s3.2 (i5.1, taken_6)).bind fun part_23 => some part_23)) (B := (some s3.2)) (t_T (P := (some (decide ((0 : Int) < taken_6)))) (t_f2 (A := (some taken_6)) (B := (some (0 : Int))) (h := (fun x21 y22 => some (decide (y22 < x21)))) g_gt (t_var (i := 7) (e := eI) (v := taken_6) rfl) (t_int (i := 0)))) (n_app (i := 3) (A := (some (i5.1, taken_6))) (v := s3.2) (K := fun part_23 => part_23) (t_tup2 (A := (some i5.1)) (B := (some taken_6)) (t_var (i := 5) (e := eI) (v := i5.1) rfl) (t_var (i := 7) (e := eI) (v := taken_6) rfl)) rfl (fun part_23 => ⟨(), rfl⟩)) (n_nil (s := s3.2) (z := ()) rfl)) (fun s25 z26 => (n_aug (i := 4) (x := s3.1) (o := fun a b => a + b) (A := (some i5.2)) (K := fun place_28 => (place_28, s25)) rfl (t_var (i := 6) (e := eI) (v := i5.2) rfl) (fun place_28 => ⟨((.dat (eI i5.1) : Slot), (.dat (eI i5.2) : Slot), (.dat (eI taken_6) : Slot)), rfl⟩))))))⟩)) (fun s29 z30 => (r_seq_rel (i := 3) (ea := (e2 eI eI)) (a := s29.2) rfl (r_ret (A := (some s29.2)) (t_var (i := 3) (e := (eL (e2 eI eI))) (v := s29.2) rfl)))))))))
noncomputable def N_worth_on_curve (curve' : (Int × Int × (List (Int × Int)))) (water' : Int) : Option Int := ((some curve').bind fun p1 => ((some p1.2.1).bind fun x8 => (((N_part_of_steps p1.2.2 (0 : Int) (water' - p1.1)).bind fun l => compL (fun (i4 : (Int × Int)) => (some true)) (fun (i4 : (Int × Int)) => (mulO i4.1 i4.2)) l).bind (fun x7 => some (List.sum x7))).bind fun y9 => some (x8 + y9)))
theorem t_worth_on_curve (curve' : (Int × Int × (List (Int × Int)))) (water' : Int) : S_worth_on_curve [(e3 eI eI (eL (e2 eI eI))) curve', eI water'] = (N_worth_on_curve curve' water').map eI := d_run (r_seq_bind (A := (some curve')) (envb := fun p1 => [.dat ((e3 eI eI (eL (e2 eI eI))) curve'), .dat (eI water'), .dat (eI p1.1), .dat (eI p1.2.1), .dat ((eL (e2 eI eI)) p1.2.2), .no, .no]) (t_var (i := 0) (e := (e3 eI eI (eL (e2 eI eI)))) (v := curve') rfl) (fun _ => rfl) (fun p1 => (r_ret (A := ((some p1.2.1).bind fun x8 => (((N_part_of_steps p1.2.2 (0 : Int) (water' - p1.1)).bind fun l => compL (fun (i4 : (Int × Int)) => (some true)) (fun (i4 : (Int × Int)) => (mulO i4.1 i4.2)) l).bind (fun x7 => some (List.sum x7))).bind fun y9 => some (x8 + y9))) (t_f2 (A := (some p1.2.1)) (B := (((N_part_of_steps p1.2.2 (0 : Int) (water' - p1.1)).bind fun l => compL (fun (i4 : (Int × Int)) => (some true)) (fun (i4 : (Int × Int)) => (mulO i4.1 i4.2)) l).bind (fun x7 => some (List.sum x7)))) (h := (fun x8 y9 => some (x8 + y9))) g_add (t_var (i := 3) (e := eI) (v := p1.2.1) rfl) (t_f1 (A := ((N_part_of_steps p1.2.2 (0 : Int) (water' - p1.1)).bind fun l => compL (fun (i4 : (Int × Int)) => (some true)) (fun (i4 : (Int × Int)) => (mulO i4.1 i4.2)) l)) (h := (fun x7 => some (List.sum x7))) g_sumL (t_lc (L := (N_part_of_steps p1.2.2 (0 : Int) (water' - p1.1))) (ea := (e2 eI eI)) (eb := eI) (T := fun (i4 : (Int × Int)) => (some true)) (Bf := fun (i4 : (Int × Int)) => (mulO i4.1 i4.2)) (i_seqL (A := (N_part_of_steps p1.2.2 (0 : Int) (water' - p1.1))) (e := (e2 eI eI)) (t_call3 (A := (some p1.2.2)) (B := (some (0 : Int))) (C := (some (water' - p1.1))) (N := N_part_of_steps) t_part_of_steps (t_var (i := 4) (e := (eL (e2 eI eI))) (v := p1.2.2) rfl) (t_int (i := 0)) (t_f2 (A := (some water')) (B := (some p1.1)) (h := (fun x2 y3 => some (x2 - y3))) g_sub (t_var (i := 1) (e := eI) (v := water') rfl) (t_var (i := 2) (e := eI) (v := p1.1) rfl)))) (fun i4 => ⟨[.dat ((e3 eI eI (eL (e2 eI eI))) curve'), .dat (eI water'), .dat (eI p1.1), .dat (eI p1.2.1), .dat ((eL (e2 eI eI)) p1.2.2), .dat (eI i4.1), .dat (eI i4.2)], rfl, t_yes, (t_f2 (A := (some i4.1)) (B := (some i4.2)) (h := (fun x5 y6 => (mulO x5 y6))) g_mul (t_var (i := 5) (e := eI) (v := i4.1) rfl) (t_var (i := 6) (e := eI) (v := i4.2) rfl))⟩)))))))
noncomputable def N_curve_before (curve' : (Int × Int × (List (Int × Int)))) (inflow' : Int) (capacity' : Int) : Option (Int × Int × (List (Int × Int))) := ((some curve').bind fun p1 => ((some (max2 (0 : Int) (p1.1 - inflow'))).bind fun lowest_2 => ((some ((lowest_2 + inflow') - p1.1)).bind fun begin_9 => ((N_part_of_steps p1.2.2 begin_9 ((begin_9 + capacity') - lowest_2)).bind fun steps_14 => ((some lowest_2).bind fun x21 => (N_worth_on_curve curve' (lowest_2 + inflow')).bind fun x22 => (some steps_14).bind fun x23 => some (x21, x22, x23))))))
theorem t_curve_before (curve' : (Int × Int × (List (Int × Int)))) (inflow' : Int) (capacity' : Int) : S_curve_before [(e3 eI eI (eL (e2 eI eI))) curve', eI inflow', eI capacity'] = (N_curve_before curve' inflow' capacity').map (e3 eI eI (eL (e2 eI eI))) := d_run (r_seq_bind (A := (some curve')) (envb := fun p1 => [.dat ((e3 eI eI (eL (e2 eI eI))) curve'), .dat (eI inflow'), .dat (eI capacity'), .dat (eI p1.1), .dat (eI p1.2.1), .dat ((eL (e2 eI eI)) p1.2.2), .no, .no]) (t_var (i := 0) (e := (e3 eI eI (eL (e2 eI eI)))) (v := curve') rfl) (fun _ => rfl) (fun p1 => (r_seq_set (i := 6) (A := (some (max2 (0 : Int) (p1.1 - inflow')))) (t_f2 (A := (some (0 : Int))) (B := (some (p1.1 - inflow'))) (h := (fun x7 y8 => some (max2 x7 y8))) g_max2 (t_int (i := 0)) (t_f2 (A := (some p1.1)) (B := (some inflow')) (h := (fun x3 y4 => some (x3 - y4))) g_sub (t_var (i := 3) (e := eI) (v := p1.1) rfl) (t_var (i := 1) (e := eI) (v := inflow') rfl))) (lt_of rfl) (fun lowest_2 => (r_seq_set (i := 7) (A := (some ((lowest_2 + inflow') - p1.1))) (t_f2 (A := (some (lowest_2 + inflow'))) (B := (some p1.1)) (h := (fun x12 y13 => some (x12 - y13))) g_sub (t_f2 (A := (some lowest_2)) (B := (some inflow')) (h := (fun x10 y11 => some (x10 + y11))) g_add (t_var (i := 6) (e := eI) (v := lowest_2) rfl) (t_var (i := 1) (e := eI) (v := inflow') rfl)) (t_var (i := 3) (e := eI) (v := p1.1) rfl)) (lt_of rfl) (fun begin_9 => (r_seq_set (i := 5) (A := (N_part_of_steps p1.2.2 begin_9 ((begin_9 + capacity') - lowest_2))) (t_call3 (A := (some p1.2.2)) (B := (some begin_9)) (C := (some ((begin_9 + capacity') - lowest_2))) (N := N_part_of_steps) t_part_of_steps (t_var (i := 5) (e := (eL (e2 eI eI))) (v := p1.2.2) rfl) (t_var (i := 7) (e := eI) (v := begin_9) rfl) (t_f2 (A := (some (begin_9 + capacity'))) (B := (some lowest_2)) (h := (fun x17 y18 => some (x17 - y18))) g_sub (t_f2 (A := (some begin_9)) (B := (some capacity')) (h := (fun x15 y16 => some (x15 + y16))) g_add (t_var (i := 7) (e := eI) (v := begin_9) rfl) (t_var (i := 2) (e := eI) (v := capacity') rfl)) (t_var (i := 6) (e := eI) (v := lowest_2) rfl))) (lt_of rfl) (fun steps_14 => (r_ret (A := ((some lowest_2).bind fun x21 => (N_worth_on_curve curve' (lowest_2 + inflow')).bind fun x22 => (some steps_14).bind fun x23 => some (x21, x22, x23))) (t_tup3 (A := (some lowest_2)) (B := (N_worth_on_curve curve' (lowest_2 + inflow'))) (C := (some steps_14)) (t_var (i := 6) (e := eI) (v := lowest_2) rfl) (t_call2 (A := (some curve')) (B := (some (lowest_2 + inflow'))) (N := N_worth_on_curve) t_worth_on_curve (t_var (i := 0) (e := (e3 eI eI (eL (e2 eI eI)))) (v := curve') rfl) (t_f2 (A := (some lowest_2)) (B := (some inflow')) (h := (fun x19 y20 => some (x19 + y20))) g_add (t_var (i := 6) (e := eI) (v := lowest_2) rfl) (t_var (i := 1) (e := eI) (v := inflow') rfl))) (t_var (i := 5) (e := (eL (e2 eI eI))) (v := steps_14) rfl)))))))))))
noncomputable def N_curves_of_levels (capacities' : (List Int)) (end' : Int) (inflows' : (List Int)) (worths' : (List (List (Int × Int)))) : Option (List (Int × Int × (List (Int × Int)))) := (((((some end').bind fun x11 => (some (0 : Int)).bind fun x12 => ((((some (0 : Int)).bind fun x7 => ((atI capacities' (-(1 : Int))).bind fun x5 => (some end').bind fun y6 => some (x5 - y6)).bind fun x8 => some (x7, x8)).bind fun x9 => (some []).bind fun y10 => some (x9 :: y10)).bind dispO).bind fun x13 => some (x11, x12, x13)).bind fun x14 => (some []).bind fun y15 => some (x14 :: y15)).bind dispO).bind fun curves_1 => ((foldO (fun i19 s17 => (((atI s17 (-(1 : Int))).bind fun a26 => (some i19.2.2).bind fun a27 => (some (i19.1 + i19.2.1)).bind fun a28 => N_curve_in_month a26 a27 a28).bind fun in_month_20 => ((N_curve_before in_month_20 i19.2.1 i19.1).bind fun x30 => (appO s17 x30).bind fun curves_29 => some curves_29))) (List.reverse (zip3 capacities' inflows' worths')) curves_1).bind fun s31 => (some (List.reverse s31))))
theorem t_curves_of_levels (capacities' : (List Int)) (end' : Int) (inflows' : (List Int)) (worths' : (List (List (Int × Int)))) : S_curves_of_levels [(eR eI) capacities', eI end', (eR eI) inflows', (eR (eR (e2 eI eI))) worths'] = (N_curves_of_levels capacities' end' inflows' worths').map (eL (e3 eI eI (eL (e2 eI eI)))) := d_run (r_seq_own (i := 4) (ea := (e3 eI eI (eL (e2 eI eI)))) (A := ((((some end').bind fun x11 => (some (0 : Int)).bind fun x12 => ((((some (0 : Int)).bind fun x7 => ((atI capacities' (-(1 : Int))).bind fun x5 => (some end').bind fun y6 => some (x5 - y6)).bind fun x8 => some (x7, x8)).bind fun x9 => (some []).bind fun y10 => some (x9 :: y10)).bind dispO).bind fun x13 => some (x11, x12, x13)).bind fun x14 => (some []).bind fun y15 => some (x14 :: y15)).bind dispO)) (t_lstL (L := (((some end').bind fun x11 => (some (0 : Int)).bind fun x12 => ((((some (0 : Int)).bind fun x7 => ((atI capacities' (-(1 : Int))).bind fun x5 => (some end').bind fun y6 => some (x5 - y6)).bind fun x8 => some (x7, x8)).bind fun x9 => (some []).bind fun y10 => some (x9 :: y10)).bind dispO).bind fun x13 => some (x11, x12, x13)).bind fun x14 => (some []).bind fun y15 => some (x14 :: y15))) (t_cons (A := ((some end').bind fun x11 => (some (0 : Int)).bind fun x12 => ((((some (0 : Int)).bind fun x7 => ((atI capacities' (-(1 : Int))).bind fun x5 => (some end').bind fun y6 => some (x5 - y6)).bind fun x8 => some (x7, x8)).bind fun x9 => (some []).bind fun y10 => some (x9 :: y10)).bind dispO).bind fun x13 => some (x11, x12, x13))) (L := (some [])) (t_tup3 (A := (some end')) (B := (some (0 : Int))) (C := ((((some (0 : Int)).bind fun x7 => ((atI capacities' (-(1 : Int))).bind fun x5 => (some end').bind fun y6 => some (x5 - y6)).bind fun x8 => some (x7, x8)).bind fun x9 => (some []).bind fun y10 => some (x9 :: y10)).bind dispO)) (t_var (i := 1) (e := eI) (v := end') rfl) (t_int (i := 0)) (t_lstL (L := (((some (0 : Int)).bind fun x7 => ((atI capacities' (-(1 : Int))).bind fun x5 => (some end').bind fun y6 => some (x5 - y6)).bind fun x8 => some (x7, x8)).bind fun x9 => (some []).bind fun y10 => some (x9 :: y10))) (t_cons (A := ((some (0 : Int)).bind fun x7 => ((atI capacities' (-(1 : Int))).bind fun x5 => (some end').bind fun y6 => some (x5 - y6)).bind fun x8 => some (x7, x8))) (L := (some [])) (t_tup2 (A := (some (0 : Int))) (B := ((atI capacities' (-(1 : Int))).bind fun x5 => (some end').bind fun y6 => some (x5 - y6))) (t_int (i := 0)) (t_f2 (A := (atI capacities' (-(1 : Int)))) (B := (some end')) (h := (fun x5 y6 => some (x5 - y6))) g_sub (t_f2 (A := (some capacities')) (B := (some (-(1 : Int)))) (h := (fun x3 y4 => (atI x3 y4))) g_ixR (t_var (i := 0) (e := (eR eI)) (v := capacities') rfl) (t_f1 (A := (some (1 : Int))) (h := (fun x2 => some (-x2))) g_neg (t_int (i := 1)))) (t_var (i := 1) (e := eI) (v := end') rfl))) (t_nil (α := (Int × Int)) (e := (e2 eI eI)))))) (t_nil (α := (Int × Int × (List (Int × Int)))) (e := (e3 eI eI (eL (e2 eI eI))))))) (lt_of rfl) (fun curves_1 => (r_seq_nx (env := (fun (s : ((List (Int × Int × (List (Int × Int)))))) (z : (Slot × Slot × Slot × Slot)) => [.dat ((eR eI) capacities'), .dat (eI end'), .dat ((eR eI) inflows'), .dat ((eR (eR (e2 eI eI))) worths'), .own (List.map (e3 eI eI (eL (e2 eI eI))) s), z.1, z.2.1, z.2.2.1, z.2.2.2])) (n_for (env := (fun (s : ((List (Int × Int × (List (Int × Int)))))) (z : (Slot × Slot × Slot × Slot)) => [.dat ((eR eI) capacities'), .dat (eI end'), .dat ((eR eI) inflows'), .dat ((eR (eR (e2 eI eI))) worths'), .own (List.map (e3 eI eI (eL (e2 eI eI))) s), z.1, z.2.1, z.2.2.1, z.2.2.2])) (s := curves_1) (z := ((.no : Slot), (.no : Slot), (.no : Slot), (.no : Slot))) (L := (some (List.reverse (zip3 capacities' inflows' worths')))) (ea := (e3 eI eI (eR (e2 eI eI)))) (Bd := (fun i19 s17 => (((atI s17 (-(1 : Int))).bind fun a26 => (some i19.2.2).bind fun a27 => (some (i19.1 + i19.2.1)).bind fun a28 => N_curve_in_month a26 a27 a28).bind fun in_month_20 => ((N_curve_before in_month_20 i19.2.1 i19.1).bind fun x30 => (appO s17 x30).bind fun curves_29 => some curves_29)))) rfl (i_revL (A := (some (zip3 capacities' inflows' worths'))) (e := (e3 eI eI (eR (e2 eI eI)))) (t_zipL3 (i_zip3 (A := (some capacities')) (B := (some inflows')) (C := (some worths')) (ea := eI) (eb := eI) (ec := (eR (e2 eI eI))) (fun _ => rfl) (fun _ => rfl) (fun _ => rfl) (t_var (i := 0) (e := (eR eI)) (v := capacities') rfl) (t_var (i := 2) (e := (eR eI)) (v := inflows') rfl) (t_var (i := 3) (e := (eR (eR (e2 eI eI)))) (v := worths') rfl)))) (fun i19 s17 z18 => ⟨[.dat ((eR eI) capacities'), .dat (eI end'), .dat ((eR eI) inflows'), .dat ((eR (eR (e2 eI eI))) worths'), .own (List.map (e3 eI eI (eL (e2 eI eI))) s17), .dat (eI i19.1), .dat (eI i19.2.1), .dat ((eR (e2 eI eI)) i19.2.2), z18.2.2.2], rfl, (n_seq_set (i := 8) (A := ((atI s17 (-(1 : Int))).bind fun a26 => (some i19.2.2).bind fun a27 => (some (i19.1 + i19.2.1)).bind fun a28 => N_curve_in_month a26 a27 a28)) (t_call3 (A := (atI s17 (-(1 : Int)))) (B := (some i19.2.2)) (C := (some (i19.1 + i19.2.1))) (N := N_curve_in_month) t_curve_in_month (t_f2 (A := (some s17)) (B := (some (-(1 : Int)))) (h := (fun x22 y23 => (atI x22 y23))) g_ixL (t_own (i := 4) (e := (e3 eI eI (eL (e2 eI eI)))) (v := s17) rfl) (t_f1 (A := (some (1 : Int))) (h := (fun x21 => some (-x21))) g_neg (t_int (i := 1)))) (t_var (i := 7) (e := (eR (e2 eI eI))) (v := i19.2.2) rfl) (t_f2 (A := (some i19.1)) (B := (some i19.2.1)) (h := (fun x24 y25 => some (x24 + y25))) g_add (t_var (i := 5) (e := eI) (v := i19.1) rfl) (t_var (i := 6) (e := eI) (v := i19.2.1) rfl))) (lt_of rfl) (fun in_month_20 => (n_app (i := 4) (A := (N_curve_before in_month_20 i19.2.1 i19.1)) (v := s17) (K := fun curves_29 => curves_29) (t_call3 (A := (some in_month_20)) (B := (some i19.2.1)) (C := (some i19.1)) (N := N_curve_before) t_curve_before (t_var (i := 8) (e := (e3 eI eI (eL (e2 eI eI)))) (v := in_month_20) rfl) (t_var (i := 6) (e := eI) (v := i19.2.1) rfl) (t_var (i := 5) (e := eI) (v := i19.1) rfl)) rfl (fun curves_29 => ⟨((.dat (eI i19.1) : Slot), (.dat (eI i19.2.1) : Slot), (.dat ((eR (e2 eI eI)) i19.2.2) : Slot), (.dat ((e3 eI eI (eL (e2 eI eI))) in_month_20) : Slot)), rfl⟩))))⟩)) (fun s31 z32 => (r_ret (A := (some (List.reverse s31))) (t_f1 (A := (some s31)) (h := (fun x33 => some (List.reverse x33))) g_revXL (t_own (i := 4) (e := (e3 eI eI (eL (e2 eI eI)))) (v := s31) rfl)))))))
noncomputable def N_level_curves (dam' : (Int × Int × Int × (List Int))) (worths' : (List (List (Int × Int)))) : Option (List (Int × Int × (List (Int × Int)))) := ((some dam').bind fun p1 => ((repO ([p1.1]) (addI ((p1.2.2.2).length : Int) (1 : Int))).bind fun a8 => (some p1.2.2.1).bind fun a9 => (some p1.2.2.2).bind fun a10 => (some worths').bind fun a11 => N_curves_of_levels a8 a9 a10 a11))
theorem t_level_curves (dam' : (Int × Int × Int × (List Int))) (worths' : (List (List (Int × Int)))) : S_level_curves [(e4 eI eI eI (eR eI)) dam', (eR (eR (e2 eI eI))) worths'] = (N_level_curves dam' worths').map (eL (e3 eI eI (eL (e2 eI eI)))) := d_run (r_seq_bind (A := (some dam')) (envb := fun p1 => [.dat ((e4 eI eI eI (eR eI)) dam'), .dat ((eR (eR (e2 eI eI))) worths'), .dat (eI p1.1), .dat (eI p1.2.1), .dat (eI p1.2.2.1), .dat ((eR eI) p1.2.2.2)]) (t_var (i := 0) (e := (e4 eI eI eI (eR eI))) (v := dam') rfl) (fun _ => rfl) (fun p1 => (r_ret (A := ((repO ([p1.1]) (addI ((p1.2.2.2).length : Int) (1 : Int))).bind fun a8 => (some p1.2.2.1).bind fun a9 => (some p1.2.2.2).bind fun a10 => (some worths').bind fun a11 => N_curves_of_levels a8 a9 a10 a11)) (t_call4 (A := (repO ([p1.1]) (addI ((p1.2.2.2).length : Int) (1 : Int)))) (B := (some p1.2.2.1)) (C := (some p1.2.2.2)) (D := (some worths')) (N := N_curves_of_levels) t_curves_of_levels (t_f2 (A := (some ([p1.1]))) (B := (some (addI ((p1.2.2.2).length : Int) (1 : Int)))) (h := (fun x6 y7 => (repO x6 y7))) g_repR (t_as (A := (some p1.1)) (u := fun x5 => [x5]) (ea := (e1 eI)) (eb := (eR eI)) (fun _ => rfl) (t_tup1 (A := (some p1.1)) (t_var (i := 2) (e := eI) (v := p1.1) rfl))) (t_f2 (A := (some ((p1.2.2.2).length : Int))) (B := (some (1 : Int))) (h := (fun x3 y4 => some (addI x3 y4))) g_addI (t_f1 (A := (some p1.2.2.2)) (h := (fun x2 => some ((x2).length : Int))) g_lenR (t_var (i := 5) (e := (eR eI)) (v := p1.2.2.2) rfl)) (t_int (i := 1)))) (t_var (i := 4) (e := eI) (v := p1.2.2.1) rfl) (t_var (i := 5) (e := (eR eI)) (v := p1.2.2.2) rfl) (t_var (i := 1) (e := (eR (eR (e2 eI eI)))) (v := worths') rfl)))))
noncomputable def N_best_hold (curve' : (Int × Int × (List (Int × Int)))) (pairs' : (List (Int × Int))) (water' : Int) : Option Int := ((some curve'.1).bind fun held_1 => ((some (water' - held_1)).bind fun left_3 => (((N_uses_of_water curve' pairs' water').bind fun l => foldO (fun i8 s6 => ((some (min2 s6.1 i8.2.1)).bind fun taken_9 => ((some taken_9).bind fun x14 => (fun left_15 => (iteO (some i8.2.2) (((some taken_9)).bind fun x16 => (fun held_17 => some (left_15, held_17)) (s6.2 + x16)) (some (left_15, s6.2)))) (s6.1 - x14)))) l (left_3, held_1)).bind fun s18 => (some s18.2))))
theorem t_best_hold (curve' : (Int × Int × (List (Int × Int)))) (pairs' : (List (Int × Int))) (water' : Int) : S_best_hold [(e3 eI eI (eL (e2 eI eI))) curve', (eR (e2 eI eI)) pairs', eI water'] = (N_best_hold curve' pairs' water').map eI := d_run (r_seq_set (i := 3) (A := (some curve'.1)) (t_ixc (A := (some curve')) (k := 0) (pr := fun x2 => x2.1) (eb := eI) (fun _ => rfl) (t_var (i := 0) (e := (e3 eI eI (eL (e2 eI eI)))) (v := curve') rfl)) (lt_of rfl) (fun held_1 => (r_seq_set (i := 4) (A := (some (water' - held_1))) (t_f2 (A := (some water')) (B := (some held_1)) (h := (fun x4 y5 => some (x4 - y5))) g_sub (t_var (i := 2) (e := eI) (v := water') rfl) (t_var (i := 3) (e := eI) (v := held_1) rfl)) (lt_of rfl) (fun left_3 => (r_seq_nx (env := (fun (s : (Int × Int)) (z : (Slot × Slot × Slot × Slot)) => [.dat ((e3 eI eI (eL (e2 eI eI))) curve'), .dat ((eR (e2 eI eI)) pairs'), .dat (eI water'), .dat (eI s.2), .dat (eI s.1), z.1, z.2.1, z.2.2.1, z.2.2.2])) (n_for (env := (fun (s : (Int × Int)) (z : (Slot × Slot × Slot × Slot)) => [.dat ((e3 eI eI (eL (e2 eI eI))) curve'), .dat ((eR (e2 eI eI)) pairs'), .dat (eI water'), .dat (eI s.2), .dat (eI s.1), z.1, z.2.1, z.2.2.1, z.2.2.2])) (s := (left_3, held_1)) (z := ((.no : Slot), (.no : Slot), (.no : Slot), (.no : Slot))) (L := (N_uses_of_water curve' pairs' water')) (ea := (e3 eI eI eB)) (Bd := (fun i8 s6 => ((some (min2 s6.1 i8.2.1)).bind fun taken_9 => ((some taken_9).bind fun x14 => (fun left_15 => (iteO (some i8.2.2) (((some taken_9)).bind fun x16 => (fun held_17 => some (left_15, held_17)) (s6.2 + x16)) (some (left_15, s6.2)))) (s6.1 - x14))))) rfl (i_seqL (A := (N_uses_of_water curve' pairs' water')) (e := (e3 eI eI eB)) (t_call3 (A := (some curve')) (B := (some pairs')) (C := (some water')) (N := N_uses_of_water) t_uses_of_water (t_var (i := 0) (e := (e3 eI eI (eL (e2 eI eI)))) (v := curve') rfl) (t_var (i := 1) (e := (eR (e2 eI eI))) (v := pairs') rfl) (t_var (i := 2) (e := eI) (v := water') rfl))) (fun i8 s6 z7 => ⟨[.dat ((e3 eI eI (eL (e2 eI eI))) curve'), .dat ((eR (e2 eI eI)) pairs'), .dat (eI water'), .dat (eI s6.2), .dat (eI s6.1), .dat (eI i8.1), .dat (eI i8.2.1), .dat (eB i8.2.2), z7.2.2.2], rfl, (n_seq_set (i := 8) (A := (some (min2 s6.1 i8.2.1))) (t_f2 (A := (some s6.1)) (B := (some i8.2.1)) (h := (fun x12 y13 => some (min2 x12 y13))) g_min2 (t_var (i := 4) (e := eI) (v := s6.1) rfl) (t_var (i := 6) (e := eI) (v := i8.2.1) rfl)) (lt_of rfl) (fun taken_9 => (n_seq_aug (i := 4) (x := s6.1) (o := fun a b => a - b) (A := (some taken_9)) (K := fun left_15 => (iteO (some i8.2.2) (((some taken_9)).bind fun x16 => (fun held_17 => some (left_15, held_17)) (s6.2 + x16)) (some (left_15, s6.2)))) rfl (t_var (i := 8) (e := eI) (v := taken_9) rfl) (fun left_15 => (n_if (P := (some i8.2.2)) (A := (((some taken_9)).bind fun x16 => (fun held_17 => some (left_15, held_17)) (s6.2 + x16))) (B := (some (left_15, s6.2))) (t_T (P := (some i8.2.2)) (t_var (i := 7) (e := eB) (v := i8.2.2) rfl)) (n_aug (i := 3) (x := s6.2) (o := fun a b => a + b) (A := (some taken_9)) (K := fun held_17 => (left_15, held_17)) rfl (t_var (i := 8) (e := eI) (v := taken_9) rfl) (fun held_17 => ⟨((.dat (eI i8.1) : Slot), (.dat (eI i8.2.1) : Slot), (.dat (eB i8.2.2) : Slot), (.dat (eI taken_9) : Slot)), rfl⟩)) (n_nil (s := (left_15, s6.2)) (z := ((.dat (eI i8.1) : Slot), (.dat (eI i8.2.1) : Slot), (.dat (eB i8.2.2) : Slot), (.dat (eI taken_9) : Slot))) rfl))))))⟩)) (fun s18 z19 => (r_ret (A := (some s18.2)) (t_var (i := 3) (e := eI) (v := s18.2) rfl))))))))
noncomputable def N_best_levels (start' : Int) (inflows' : (List Int)) (worths' : (List (List (Int × Int)))) (curves' : (List (Int × Int × (List (Int × Int))))) : Option (List Int) := ((some start').bind fun held_1 => ((some []).bind fun behind_2 => ((foldO (fun i6 s4 => ((N_best_hold i6.2.2 i6.2.1 (s4.1 + i6.1)).bind fun held_7 => ((appO s4.2 held_7).bind fun behind_10 => some (held_7, behind_10)))) (zip3 inflows' worths' (cutT curves' (some (1 : Int)) none)) (held_1, behind_2)).bind fun s12 => (some s12.2))))
theorem t_best_levels (start' : Int) (inflows' : (List Int)) (worths' : (List (List (Int × Int)))) (curves' : (List (Int × Int × (List (Int × Int))))) : S_best_levels [eI start', (eR eI) inflows', (eR (eR (e2 eI eI))) worths', (eL (e3 eI eI (eL (e2 eI eI)))) curves'] = (N_best_levels start' inflows' worths' curves').map (eL eI) := d_run (r_seq_set (i := 4) (A := (some start')) (t_var (i := 0) (e := eI) (v := start') rfl) (lt_of rfl) (fun held_1 => (r_seq_own (i := 5) (ea := eI) (A := (some [])) (t_lstL (L := some []) (t_nil (α := Int) (e := eI))) (lt_of rfl) (fun behind_2 => (r_seq_nx (env := (fun (s : (Int × (List Int))) (z : (Slot × Slot × Slot)) => [.dat (eI start'), .dat ((eR eI) inflows'), .dat ((eR (eR (e2 eI eI))) worths'), .dat ((eL (e3 eI eI (eL (e2 eI eI)))) curves'), .dat (eI s.1), .own (List.map eI s.2), z.1, z.2.1, z.2.2])) (n_for (env := (fun (s : (Int × (List Int))) (z : (Slot × Slot × Slot)) => [.dat (eI start'), .dat ((eR eI) inflows'), .dat ((eR (eR (e2 eI eI))) worths'), .dat ((eL (e3 eI eI (eL (e2 eI eI)))) curves'), .dat (eI s.1), .own (List.map eI s.2), z.1, z.2.1, z.2.2])) (s := (held_1, behind_2)) (z := ((.no : Slot), (.no : Slot), (.no : Slot))) (L := (some (zip3 inflows' worths' (cutT curves' (some (1 : Int)) none)))) (ea := (e3 eI (eR (e2 eI eI)) (e3 eI eI (eL (e2 eI eI))))) (Bd := (fun i6 s4 => ((N_best_hold i6.2.2 i6.2.1 (s4.1 + i6.1)).bind fun held_7 => ((appO s4.2 held_7).bind fun behind_10 => some (held_7, behind_10))))) rfl (i_zip3 (A := (some inflows')) (B := (some worths')) (C := (some (cutT curves' (some (1 : Int)) none))) (ea := eI) (eb := (eR (e2 eI eI))) (ec := (e3 eI eI (eL (e2 eI eI)))) (fun _ => rfl) (fun _ => rfl) (fun _ => rfl) (t_var (i := 1) (e := (eR eI)) (v := inflows') rfl) (t_var (i := 2) (e := (eR (eR (e2 eI eI)))) (v := worths') rfl) (t_cut (A := (some curves')) (L := (some (some (1 : Int)))) (H := (some none)) g_cutL (t_var (i := 3) (e := (eL (e3 eI eI (eL (e2 eI eI))))) (v := curves') rfl) (t_part (o := (some (1 : Int))) (t_int (i := 1))) t_nopart)) (fun i6 s4 z5 => ⟨[.dat (eI start'), .dat ((eR eI) inflows'), .dat ((eR (eR (e2 eI eI))) worths'), .dat ((eL (e3 eI eI (eL (e2 eI eI)))) curves'), .dat (eI s4.1), .own (List.map eI s4.2), .dat (eI i6.1), .dat ((eR (e2 eI eI)) i6.2.1), .dat ((e3 eI eI (eL (e2 eI eI))) i6.2.2)], rfl, (n_seq_set (i := 4) (A := (N_best_hold i6.2.2 i6.2.1 (s4.1 + i6.1))) (t_call3 (A := (some i6.2.2)) (B := (some i6.2.1)) (C := (some (s4.1 + i6.1))) (N := N_best_hold) t_best_hold (t_var (i := 8) (e := (e3 eI eI (eL (e2 eI eI)))) (v := i6.2.2) rfl) (t_var (i := 7) (e := (eR (e2 eI eI))) (v := i6.2.1) rfl) (t_f2 (A := (some s4.1)) (B := (some i6.1)) (h := (fun x8 y9 => some (x8 + y9))) g_add (t_var (i := 4) (e := eI) (v := s4.1) rfl) (t_var (i := 6) (e := eI) (v := i6.1) rfl))) (lt_of rfl) (fun held_7 => (n_app (i := 5) (A := (some held_7)) (v := s4.2) (K := fun behind_10 => (held_7, behind_10)) (t_var (i := 4) (e := eI) (v := held_7) rfl) rfl (fun behind_10 => ⟨((.dat (eI i6.1) : Slot), (.dat ((eR (e2 eI eI)) i6.2.1) : Slot), (.dat ((e3 eI eI (eL (e2 eI eI))) i6.2.2) : Slot)), rfl⟩))))⟩)) (fun s12 z13 => (r_seq_rel (i := 5) (ea := eI) (a := s12.2) rfl (r_ret (A := (some s12.2)) (t_var (i := 5) (e := (eL eI)) (v := s12.2) rfl)))))))))
noncomputable def N_releases_between (start' : Int) (inflows' : (List Int)) (behind' : (List Int)) : Option (List Int) := (((catO [start'] behind').bind fun x3 => (some inflows').bind fun y4 => (some behind').bind fun z5 => some (zip3 x3 y4 z5)).bind fun l => compL (fun (i6 : (Int × Int × Int)) => (some true)) (fun (i6 : (Int × Int × Int)) => (some ((i6.1 + i6.2.1) - i6.2.2))) l)
theorem t_releases_between (start' : Int) (inflows' : (List Int)) (behind' : (List Int)) : S_releases_between [eI start', (eR eI) inflows', (eL eI) behind'] = (N_releases_between start' inflows' behind').map (eL eI) := d_run (r_ret (A := (((catO [start'] behind').bind fun x3 => (some inflows').bind fun y4 => (some behind').bind fun z5 => some (zip3 x3 y4 z5)).bind fun l => compL (fun (i6 : (Int × Int × Int)) => (some true)) (fun (i6 : (Int × Int × Int)) => (some ((i6.1 + i6.2.1) - i6.2.2))) l)) (t_lc (L := ((catO [start'] behind').bind fun x3 => (some inflows').bind fun y4 => (some behind').bind fun z5 => some (zip3 x3 y4 z5))) (ea := (e3 eI eI eI)) (eb := eI) (T := fun (i6 : (Int × Int × Int)) => (some true)) (Bf := fun (i6 : (Int × Int × Int)) => (some ((i6.1 + i6.2.1) - i6.2.2))) (i_zip3 (A := (catO [start'] behind')) (B := (some inflows')) (C := (some behind')) (ea := eI) (eb := eI) (ec := eI) (fun _ => rfl) (fun _ => rfl) (fun _ => rfl) (t_f2 (A := (some [start'])) (B := (some behind')) (h := (fun x1 y2 => (catO x1 y2))) g_addL (t_lstL (L := (some [start'])) (t_cons (A := (some start')) (L := (some [])) (t_var (i := 0) (e := eI) (v := start') rfl) (t_nil (α := Int) (e := eI)))) (t_var (i := 2) (e := (eL eI)) (v := behind') rfl)) (t_var (i := 1) (e := (eR eI)) (v := inflows') rfl) (t_var (i := 2) (e := (eL eI)) (v := behind') rfl)) (fun i6 => ⟨[.dat (eI start'), .dat ((eR eI) inflows'), .dat ((eL eI) behind'), .dat (eI i6.1), .dat (eI i6.2.1), .dat (eI i6.2.2)], rfl, t_yes, (t_f2 (A := (some (i6.1 + i6.2.1))) (B := (some i6.2.2)) (h := (fun x9 y10 => some (x9 - y10))) g_sub (t_f2 (A := (some i6.1)) (B := (some i6.2.1)) (h := (fun x7 y8 => some (x7 + y8))) g_add (t_var (i := 3) (e := eI) (v := i6.1) rfl) (t_var (i := 4) (e := eI) (v := i6.2.1) rfl)) (t_var (i := 5) (e := eI) (v := i6.2.2) rfl))⟩)))
noncomputable def N_best_releases (dam' : (Int × Int × Int × (List Int))) (worths' : (List (List (Int × Int)))) : Option (List Int) := ((some dam').bind fun p1 => (((some p1.2.1).bind fun a3 => (some p1.2.2.2).bind fun a4 => (some worths').bind fun a5 => (N_level_curves dam' worths').bind fun a6 => N_best_levels a3 a4 a5 a6).bind fun behind_2 => (N_releases_between p1.2.1 p1.2.2.2 behind_2)))
theorem t_best_releases (dam' : (Int × Int × Int × (List Int))) (worths' : (List (List (Int × Int)))) : S_best_releases [(e4 eI eI eI (eR eI)) dam', (eR (eR (e2 eI eI))) worths'] = (N_best_releases dam' worths').map (eL eI) := d_run (r_seq_bind (A := (some dam')) (envb := fun p1 => [.dat ((e4 eI eI eI (eR eI)) dam'), .dat ((eR (eR (e2 eI eI))) worths'), .dat (eI p1.2.2.1), .dat (eI p1.2.1), .dat ((eR eI) p1.2.2.2), .no]) (t_var (i := 0) (e := (e4 eI eI eI (eR eI))) (v := dam') rfl) (fun _ => rfl) (fun p1 => (r_seq_set (i := 5) (A := ((some p1.2.1).bind fun a3 => (some p1.2.2.2).bind fun a4 => (some worths').bind fun a5 => (N_level_curves dam' worths').bind fun a6 => N_best_levels a3 a4 a5 a6)) (t_call4 (A := (some p1.2.1)) (B := (some p1.2.2.2)) (C := (some worths')) (D := (N_level_curves dam' worths')) (N := N_best_levels) t_best_levels (t_var (i := 3) (e := eI) (v := p1.2.1) rfl) (t_var (i := 4) (e := (eR eI)) (v := p1.2.2.2) rfl) (t_var (i := 1) (e := (eR (eR (e2 eI eI)))) (v := worths') rfl) (t_call2 (A := (some dam')) (B := (some worths')) (N := N_level_curves) t_level_curves (t_var (i := 0) (e := (e4 eI eI eI (eR eI))) (v := dam') rfl) (t_var (i := 1) (e := (eR (eR (e2 eI eI)))) (v := worths') rfl))) (lt_of rfl) (fun behind_2 => (r_ret (A := (N_releases_between p1.2.1 p1.2.2.2 behind_2)) (t_call3 (A := (some p1.2.1)) (B := (some p1.2.2.2)) (C := (some behind_2)) (N := N_releases_between) t_releases_between (t_var (i := 3) (e := eI) (v := p1.2.1) rfl) (t_var (i := 4) (e := (eR eI)) (v := p1.2.2.2) rfl) (t_var (i := 5) (e := (eL eI)) (v := behind_2) rfl)))))))
end Ty
namespace PySem
open Sem (wp)
structure Zp4 (z TI TO i1 i2 i3 i4 : Addr) (fp1 fp2 fp3 fp4 : List Addr) : Prop where
  a : TI ≠ z ∧ TO ≠ z ∧ TI ≠ TO
  t : TI ≠ i1 ∧ TI ≠ i2 ∧ TI ≠ i3 ∧ TI ≠ i4
  m : i1 ∈ fp1 ∧ i2 ∈ fp2 ∧ i3 ∈ fp3 ∧ i4 ∈ fp4
  f : z ∉ fp1 ∧ z ∉ fp2 ∧ z ∉ fp3 ∧ z ∉ fp4
  g : TO ∉ fp1 ∧ TO ∉ fp2 ∧ TO ∉ fp3 ∧ TO ∉ fp4
  s1_2 : i1 ∉ fp2
  s1_3 : i1 ∉ fp3
  s1_4 : i1 ∉ fp4
  s2_1 : i2 ∉ fp1
  s2_3 : i2 ∉ fp3
  s2_4 : i2 ∉ fp4
  s3_1 : i3 ∉ fp1
  s3_2 : i3 ∉ fp2
  s3_4 : i3 ∉ fp4
  s4_1 : i4 ∉ fp1
  s4_2 : i4 ∉ fp2
  s4_3 : i4 ∉ fp3
section
variable {prog : Program} {w : World} {A : Around} {E : Value → Shared → Prop} {s : Shared} {z TI TO i1 i2 i3 i4 : Addr} {fp1 fp2 fp3 fp4 : List Addr} {n1 n2 n3 n4 i : Nat} {P1 P2 P3 P4 : Nat → Value → Prop} {St1 St2 St3 St4 : Nat → Heap → Prop} {a1 a2 a3 a4 : Value}
theorem Zp4.zi1 (D : Zp4 z TI TO i1 i2 i3 i4 fp1 fp2 fp3 fp4) : z ≠ i1 ∧ TO ≠ i1 := ⟨fun e => D.f.1 (e ▸ D.m.1), fun e => D.g.1 (e ▸ D.m.1)⟩
theorem Zp4.zi2 (D : Zp4 z TI TO i1 i2 i3 i4 fp1 fp2 fp3 fp4) : z ≠ i2 ∧ TO ≠ i2 := ⟨fun e => D.f.2.1 (e ▸ D.m.2.1), fun e => D.g.2.1 (e ▸ D.m.2.1)⟩
theorem Zp4.zi3 (D : Zp4 z TI TO i1 i2 i3 i4 fp1 fp2 fp3 fp4) : z ≠ i3 ∧ TO ≠ i3 := ⟨fun e => D.f.2.2.1 (e ▸ D.m.2.2.1), fun e => D.g.2.2.1 (e ▸ D.m.2.2.1)⟩
end
end PySem
namespace DN
open PySem PySem.Spec PyProof.Rows L2
end DN
namespace Ty
open PySem PySem.Spec PyProof.Rows L2 DN
def F_greatest_worth (c_worth_on_curve c_level_curves : List PyData → Option PyData) : En → Option Fl := (sRet (fCall 2 c_worth_on_curve (fCons (fIx (fCall 2 c_level_curves (fCons (fVar 0) (fCons (fVar 1) fNil))) (fLit (.int 0))) (fCons (fIx (fVar 0) (fLit (.int 1))) fNil))))
def S_greatest_worth := runD 2 (F_greatest_worth S_worth_on_curve S_level_curves)
noncomputable def N_greatest_worth (dam' : (Int × Int × Int × (List Int))) (worths' : (List (List (Int × Int)))) : Option Int := (((N_level_curves dam' worths').bind fun x1 => (some (0 : Int)).bind fun y2 => (atI x1 y2)).bind fun a4 => (some dam'.2.1).bind fun a5 => N_worth_on_curve a4 a5)
theorem t_greatest_worth (dam' : (Int × Int × Int × (List Int))) (worths' : (List (List (Int × Int)))) : S_greatest_worth [(e4 eI eI eI (eR eI)) dam', (eR (eR (e2 eI eI))) worths'] = (N_greatest_worth dam' worths').map eI := d_run (r_ret (A := (((N_level_curves dam' worths').bind fun x1 => (some (0 : Int)).bind fun y2 => (atI x1 y2)).bind fun a4 => (some dam'.2.1).bind fun a5 => N_worth_on_curve a4 a5)) (t_call2 (A := ((N_level_curves dam' worths').bind fun x1 => (some (0 : Int)).bind fun y2 => (atI x1 y2))) (B := (some dam'.2.1)) (N := N_worth_on_curve) t_worth_on_curve (t_f2 (A := (N_level_curves dam' worths')) (B := (some (0 : Int))) (h := (fun x1 y2 => (atI x1 y2))) g_ixL (t_call2 (A := (some dam')) (B := (some worths')) (N := N_level_curves) t_level_curves (t_var (i := 0) (e := (e4 eI eI eI (eR eI))) (v := dam') rfl) (t_var (i := 1) (e := (eR (eR (e2 eI eI)))) (v := worths') rfl)) (t_int (i := 0))) (t_ixc (A := (some dam')) (k := 1) (pr := fun x3 => x3.2.1) (eb := eI) (fun _ => rfl) (t_var (i := 0) (e := (e4 eI eI eI (eR eI))) (v := dam') rfl))))
theorem andO_t (a : Option Bool) : andO (some true) a = a := rfl
theorem atI_nat {α : Type} {l : List α} {i : Nat} (h : i < l.length) : atI l (0 + (i : Int)) = some l[i] := by
  unfold atI
  rw [Int.zero_add, ixN_at h]
  exact List.getElem?_eq_getElem h
abbrev DamT : Type := Int × Int × Int × List Int
structure DamIn (m : Int) (d : DamT) : Prop where
  c0 : 0 ≤ d.1
  c1 : d.1 ≤ 1000
  s0 : 0 ≤ d.2.1
  s1 : d.2.1 ≤ d.1
  e0 : 0 ≤ d.2.2.1
  e1 : d.2.2.1 ≤ d.1
  fl : Flows d.2.2.2
  l0 : 0 < d.2.2.2.length
  l1 : (d.2.2.2.length : Int) ≤ m
theorem rangeI_len (n : Int) : (rangeI n).length = n.toNat := by simp [rangeI]
section
variable {α β γ δ ε : Type} {en : En} {f g h k l : En → Option PyData} {ea : α → PyData} {eb : β → PyData} {ec : γ → PyData} {ed : δ → PyData} {ee : ε → PyData} {A : Option α} {B : Option β} {C : Option γ} {D : Option δ} {E : Option ε}
def e5 (a : α → PyData) (b : β → PyData) (c : γ → PyData) (d : δ → PyData) (e : ε → PyData) (p : α × β × γ × δ × ε) : PyData := .tuple [a p.1, b p.2.1, c p.2.2.1, d p.2.2.2.1, e p.2.2.2.2]
end
end Ty
namespace DN
open PySem PySem.Spec PyProof.Rows L2
def bAll : List (PyData → En → Option En) → List PyData → En → Option En
  | [], [], en => some en
  | b :: bs, d :: ds, en => (b d en).bind fun e => bAll bs ds e
  | _, _, _ => none
def gDf (K : PySem.W.Frag) (Ts : TsT) (vs : List Nat) (bs : List (PyData → En → Option En)) : TGs := fun xs σ H Q => ∃ He O en ds en', Rep K Ts He O σ H en ∧ DpAll K (hide H O) xs ds ∧ bAll bs ds en = some en' ∧ ∀ σ', Rep K Ts He O σ' H en' → wipe σ' vs = wipe σ vs → Q σ' H
def bTupF (bs : List (PyData → En → Option En)) : PyData → En → Option En := fun d en => match d with
  | .tuple ds => bAll bs ds en
  | _ => none
theorem bAll_len : ∀ {bs : List (PyData → En → Option En)} {ds : List PyData} {en en' : En}, bAll bs ds en = some en' → ds.length = bs.length
  | [], [], _, _, _ => rfl
  | b :: bs, d :: ds, en, en', h => by
    obtain ⟨e1, _, h2⟩ := Option.bind_eq_some_iff.mp h
    rw [List.length_cons, List.length_cons, bAll_len h2]
  | [], _ :: _, _, _, h => by cases h
  | _ :: _, [], _, _, h => by cases h
section
variable {X : Cx} {Ts : TsT} {pos : Pos}
theorem dgf_nil {vs : List Nat} : PGs X [] (gDf X.K Ts vs []) := ⟨fun pins s σ H xs us Q I r ⟨He, O, en, ds, en', rp, q, hb, kk⟩ => by
  cases q with
  | nil =>
    cases hb
    exact pgs_nil.run pins s σ H _ us Q I r ⟨rfl, kk σ rp rfl⟩
  | cons _ _ => cases hb⟩
theorem dgf_cons {e : Expr} {es : List Expr} {vs : List Nat} {b : PyData → En → Option En} {bs : List (PyData → En → Option En)} (h1 : DG X Ts e vs b) (h2 : PGs X es (gDf X.K Ts vs bs)) (hs : (assignEach (e :: es) X.env).map (·.2) = assign e X.env :: (assignEach es X.env).map (·.2) := by rfl) : PGs X (e :: es) (gDf X.K Ts vs (b :: bs)) :=
  ⟨fun pins s σ H xs us Q I r ⟨He, O, en, ds, en', rp, q, hb, kk⟩ => by
    cases q with
    | nil => cases hb
    | cons qd qt =>
      obtain ⟨e1, hb1, hb2⟩ := Option.bind_eq_some_iff.mp hb
      exact (pgs_cons h1 h2 hs).run pins s σ H _ us Q I r ⟨_, _, rfl, He, O, en, _, e1, rp, qd, hb1, fun σ' r' w' => ⟨He, O, e1, _, en', r', qt, hb2, fun σ2 r2 w2 => kk σ2 r2 (w2.trans w')⟩⟩⟩
theorem dg_tupF {es : List Expr} {k : Nat} {vs : List Nat} {bs : List (PyData → En → Option En)} (hc : X.calm = true) (h : PGs X es (gDf X.K Ts vs bs)) (hn : (assignEach es X.env).length = bs.length := by rfl) (hst : (assignEach es X.env).findIdx? (·.1) = none := by rfl) : DG X Ts (.Tuple es k pos) vs (bTupF bs) :=
  PG.imp (pg_tup hc h hn hst) fun v σ H Q ⟨He, O, en, d, en', r, q, hb, kk⟩ => by
    cases d <;> try cases hb
    rename_i ds
    cases q with
    | tup s a =>
      exact ⟨_, _, rfl, sqT_mono (fun o n e => (hide_some e).2) s, by rw [DpAll.len a]; exact bAll_len hb, He, O, en, ds, en', r, a, hb, kk⟩
end
section
variable {X : Cx} {Ts : TsT} {a b c d : Expr} {pos : Pos} {fa fb fc fd : En → Option PyData}
theorem d_ltlele (ha : DE X Ts a fa) (hb : DE X Ts b fb) (hc : DE X Ts c fc) (hd : DE X Ts d fd) (hm : lastMarks [.Lt, .LtE, .LtE] [b, c, d] = false := by with_unfolding_all rfl) :
    DE X Ts (.Compare a [.Lt, .LtE, .LtE] [b, c, d] pos) (fChain3 gLt gLe gLe fa fb fc fd) := PE.imp (pe_chain3 op_lt op_le op_le ha hb hc hd hm) w_chain3
end
section
variable {f g : En → Option PyData} {en : En}
theorem t_chain3R {h k : En → Option PyData} {x y z w : Int} (pa : f en = (some x).map eI) (pb : g en = (some y).map eI) (pc : h en = (some z).map eI) (pd : k en = (some w).map eI) : fChain3 gLt gLe gLe f g h k en = (some (decide (x < y) && (decide (y ≤ z) && decide (z ≤ w)))).map eB := by
  unfold fChain3
  rw [pa, pb, pc, pd]
  show (match (PyData.bool (decide (x < y))) with
    | .bool true => (match (PyData.bool (decide (y ≤ z))) with
      | .bool true => some (PyData.bool (decide (z ≤ w)))
      | .bool false => some (PyData.bool false)
      | _ => none)
    | .bool false => some (PyData.bool false)
    | _ => none) = some (PyData.bool (decide (x < y) && (decide (y ≤ z) && decide (z ≤ w))))
  cases decide (x < y) <;> cases decide (y ≤ z) <;> rfl
end
end DN
namespace Ty
open PySem PySem.Spec PyProof.Rows L2 DN
def F_is_share (c_is_ratio : List PyData → Option PyData) : En → Option Fl := (sRet (fAnd (fCall 1 c_is_ratio (fCons (fVar 0) fNil)) (fChain3 gLt gLe gLe (fLit (.int 0)) (fIx (fVar 0) (fLit (.int 0))) (fIx (fVar 0) (fLit (.int 1))) (fLit (.int 100)))))
def S_is_share := runD 1 (F_is_share S_is_ratio)
def F_is_house (c_is_between c_is_row_between c_is_share : List PyData → Option PyData) : En → Option Fl := (sSeq (sIf (kNot (kAnd (fT (fIsi isTup (fVar 0))) (fT (fEq (fLen (fVar 0)) (fLit (.int 4)))))) (sRet (fLit (.bool false))) sNil) (sSeq (sBind (bTup [1, 2, 3, 4]) (fVar 0)) (sRet (fAnd (fCall 3 c_is_between (fCons (fVar 1) (fCons (fLit (.int 0)) (fCons (fLit (.int 1000)) fNil)))) (fAnd (fCall 3 c_is_row_between (fCons (fTup (fCons (fVar 2) (fCons (fVar 3) fNil))) (fCons (fLit (.int 1)) (fCons (fLit (.int 1000)) fNil)))) (fCall 1 c_is_share (fCons (fVar 4) fNil)))))))
def S_is_house := runD 5 (F_is_house S_is_between S_is_row_between S_is_share)
def F_check_house_and_prices (c_is_house c_is_row_between : List PyData → Option PyData) : En → Option Fl := (sSeq (sIf (kNot (fT (fCall 1 c_is_house (fCons (fVar 0) fNil)))) sNever sNil) (sIf (kNot (kAnd (fT (fCall 3 c_is_row_between (fCons (fVar 1) (fCons (fLit (.int 0)) (fCons (fLit (.int 1000)) fNil))))) (fT (fChain gLe gLe (fLit (.int 1)) (fLen (fVar 1)) (fLit (.int 6)))))) sNever sNil))
def S_check_house_and_prices := runD 2 (F_check_house_and_prices S_is_house S_is_row_between)
def F_like_dam : En → Option Fl := (sSeq (sBind (bTupF [(bName 2), (bName 3), (bName 4), (bTup [5, 6])]) (fVar 0)) (sSeq (sSet 7 (fTup (fCons (fVar 2) (fCons (fLit (.int 0)) (fCons (fLit (.int 0)) (fCons (fTimes (fTup (fCons (fVar 3) fNil)) (fLen (fVar 1))) fNil)))))) (sRet (fTup (fCons (fVar 7) (fCons (fTuple (fLc (iSeq (fVar 1)) (bName 8) kYes (fTup (fCons (fTup (fCons (fVar 3) (fCons (fTimes (fVar 8) (fVar 6)) fNil))) (fCons (fTup (fCons (fVar 4) (fCons (fTimes (fVar 8) (fVar 5)) fNil))) fNil))) [8])) fNil))))))
def S_like_dam := runD 9 (F_like_dam)
def F_found_profit (c_like_dam c_ratio c_greatest_worth : List PyData → Option PyData) : En → Option Fl := (sSeq (sBind (bTupF [(bName 2), (bName 3), (bName 2), (bTup [2, 4])]) (fVar 0)) (sSeq (sBind (bTup [5, 6]) (fCall 2 c_like_dam (fCons (fVar 0) (fCons (fVar 1) fNil)))) (sRet (fCall 2 c_ratio (fCons (fSub (fCall 2 c_greatest_worth (fCons (fVar 5) (fCons (fVar 6) fNil))) (fTimes (fTimes (fVar 3) (fVar 4)) (fSum (fVar 1)))) (fCons (fVar 4) fNil))))))
def S_found_profit := runD 7 (F_found_profit S_like_dam S_ratio S_greatest_worth)
def F_pump_profit (c_check_house_and_prices c_found_profit : List PyData → Option PyData) : En → Option Fl := (sSeq (sExpr (fCall 2 c_check_house_and_prices (fCons (fVar 0) (fCons (fVar 1) fNil)))) (sRet (fCall 2 c_found_profit (fCons (fVar 0) (fCons (fVar 1) fNil)))))
def S_pump_profit := runD 2 (F_pump_profit S_check_house_and_prices S_found_profit)
def F_pump_plan (c_check_house_and_prices c_like_dam c_best_releases : List PyData → Option PyData) : En → Option Fl := (sSeq (sExpr (fCall 2 c_check_house_and_prices (fCons (fVar 0) (fCons (fVar 1) fNil)))) (sSeq (sBind (bTup [2, 3]) (fCall 2 c_like_dam (fCons (fVar 0) (fCons (fVar 1) fNil)))) (sSeq (sOwn 4 (fLst fNil)) (sSeq (sOwn 5 (fLst fNil)) (sSeq (sFor (iSeq (fCall 2 c_best_releases (fCons (fVar 2) (fCons (fVar 3) fNil)))) (bName 6) (sSeq (sSet 7 (fMin2 (fIx (fVar 0) (fLit (.int 1))) (fVar 6))) (sSeq (sApp 4 (fTup (fCons (fSub (fIx (fVar 0) (fLit (.int 1))) (fVar 7)) (fCons (fLit (.int 1)) fNil)))) (sApp 5 (fTup (fCons (fSub (fVar 6) (fVar 7)) (fCons (fLit (.int 1)) fNil))))))) (sRet (fTup (fCons (fTuple (fOwn 4)) (fCons (fTuple (fOwn 5)) fNil)))))))))
def S_pump_plan := runD 8 (F_pump_plan S_check_house_and_prices S_like_dam S_best_releases)
noncomputable def N_is_share (value' : (Int × Int)) : Option Bool := (andO (N_is_ratio value') (some (decide ((0 : Int) < value'.1) && (decide (value'.1 ≤ value'.2) && decide (value'.2 ≤ (100 : Int))))))
theorem t_is_share (value' : (Int × Int)) : S_is_share [(e2 eI eI) value'] = (N_is_share value').map eB := d_run (r_ret (A := (andO (N_is_ratio value') (some (decide ((0 : Int) < value'.1) && (decide (value'.1 ≤ value'.2) && decide (value'.2 ≤ (100 : Int))))))) (t_and (P := (N_is_ratio value')) (Q := (some (decide ((0 : Int) < value'.1) && (decide (value'.1 ≤ value'.2) && decide (value'.2 ≤ (100 : Int)))))) (t_call1 (A := (some value')) (N := N_is_ratio) t_is_ratio (t_var (i := 0) (e := (e2 eI eI)) (v := value') rfl)) (t_chain3R (x := (0 : Int)) (y := value'.1) (z := value'.2) (w := (100 : Int)) (t_int (i := 0)) (t_ixc (A := (some value')) (k := 0) (pr := fun x1 => x1.1) (eb := eI) (fun _ => rfl) (t_var (i := 0) (e := (e2 eI eI)) (v := value') rfl)) (t_ixc (A := (some value')) (k := 1) (pr := fun x2 => x2.2) (eb := eI) (fun _ => rfl) (t_var (i := 0) (e := (e2 eI eI)) (v := value') rfl)) (t_int (i := 100)))))
noncomputable def N_is_house (value' : (Int × Int × Int × (Int × Int))) : Option Bool := (iteO (some (!(true && (decide ((4 : Int) = (4 : Int)))))) (some false) ((some value').bind fun p6 => (andO (N_is_between p6.1 (0 : Int) (1000 : Int)) (andO (N_is_row_between ([(p6.2.1, p6.2.2.1).1, (p6.2.1, p6.2.2.1).2]) (1 : Int) (1000 : Int)) (N_is_share p6.2.2.2)))))
theorem t_is_house (value' : (Int × Int × Int × (Int × Int))) : S_is_house [(e4 eI eI eI (e2 eI eI)) value'] = (N_is_house value').map eB := d_run (r_seq_ifret (P := (some (!(true && (decide ((4 : Int) = (4 : Int))))))) (A := (some false)) (t_knot (P := (some (true && (decide ((4 : Int) = (4 : Int)))))) (t_kandP (b := true) (c := (decide ((4 : Int) = (4 : Int)))) (t_T (P := (some true)) (t_isi (A := (some value')) (b := fun x1 => true) (fun _ => rfl) (t_var (i := 0) (e := (e4 eI eI eI (e2 eI eI))) (v := value') rfl))) (t_T (P := (some (decide ((4 : Int) = (4 : Int))))) (t_f2 (A := (some (4 : Int))) (B := (some (4 : Int))) (h := (fun x3 y4 => some (decide (x3 = y4)))) (g_eq enc_I rfl) (t_f1 (A := (some value')) (h := (fun x2 => some (4 : Int))) (fun _ => rfl) (t_var (i := 0) (e := (e4 eI eI eI (e2 eI eI))) (v := value') rfl)) (t_int (i := 4)))))) (r_ret (A := (some false)) (t_bl (b := false))) (r_seq_bind (A := (some value')) (envb := fun p6 => [.dat ((e4 eI eI eI (e2 eI eI)) value'), .dat (eI p6.1), .dat (eI p6.2.1), .dat (eI p6.2.2.1), .dat ((e2 eI eI) p6.2.2.2)]) (t_var (i := 0) (e := (e4 eI eI eI (e2 eI eI))) (v := value') rfl) (fun _ => rfl) (fun p6 => (r_ret (A := (andO (N_is_between p6.1 (0 : Int) (1000 : Int)) (andO (N_is_row_between ([(p6.2.1, p6.2.2.1).1, (p6.2.1, p6.2.2.1).2]) (1 : Int) (1000 : Int)) (N_is_share p6.2.2.2)))) (t_and (P := (N_is_between p6.1 (0 : Int) (1000 : Int))) (Q := (andO (N_is_row_between ([(p6.2.1, p6.2.2.1).1, (p6.2.1, p6.2.2.1).2]) (1 : Int) (1000 : Int)) (N_is_share p6.2.2.2))) (t_call3 (A := (some p6.1)) (B := (some (0 : Int))) (C := (some (1000 : Int))) (N := N_is_between) t_is_between (t_var (i := 1) (e := eI) (v := p6.1) rfl) (t_int (i := 0)) (t_int (i := 1000))) (t_and (P := (N_is_row_between ([(p6.2.1, p6.2.2.1).1, (p6.2.1, p6.2.2.1).2]) (1 : Int) (1000 : Int))) (Q := (N_is_share p6.2.2.2)) (t_call3 (A := (some ([(p6.2.1, p6.2.2.1).1, (p6.2.1, p6.2.2.1).2]))) (B := (some (1 : Int))) (C := (some (1000 : Int))) (N := N_is_row_between) t_is_row_between (t_as (A := (some (p6.2.1, p6.2.2.1))) (u := fun x7 => [x7.1, x7.2]) (ea := (e2 eI eI)) (eb := (eR eI)) (fun _ => rfl) (t_tup2 (A := (some p6.2.1)) (B := (some p6.2.2.1)) (t_var (i := 2) (e := eI) (v := p6.2.1) rfl) (t_var (i := 3) (e := eI) (v := p6.2.2.1) rfl))) (t_int (i := 1)) (t_int (i := 1000))) (t_call1 (A := (some p6.2.2.2)) (N := N_is_share) t_is_share (t_var (i := 4) (e := (e2 eI eI)) (v := p6.2.2.2) rfl))))))))
noncomputable def N_check_house_and_prices (house' : (Int × Int × Int × (Int × Int))) (prices' : (List Int)) : Option Unit := ((iteO ((N_is_house house').bind fun b1 => some (!b1)) none (some ())).bind fun s2 => (iteO ((andO (N_is_row_between prices' (0 : Int) (1000 : Int)) (some (decide ((1 : Int) ≤ ((prices').length : Int)) && decide (((prices').length : Int) ≤ (6 : Int))))).bind fun b5 => some (!b5)) none (some ()))).bind fun _ => some ()
theorem t_check_house_and_prices (house' : (Int × Int × Int × (Int × Int))) (prices' : (List Int)) : S_check_house_and_prices [(e4 eI eI eI (e2 eI eI)) house', (eR eI) prices'] = (N_check_house_and_prices house' prices').map eU := d_runN (env := (fun (s : Unit) (z : Unit) => [.dat ((e4 eI eI eI (e2 eI eI)) house'), .dat ((eR eI) prices')])) (n_seq (env2 := (fun (s : Unit) (z : Unit) => [.dat ((e4 eI eI eI (e2 eI eI)) house'), .dat ((eR eI) prices')])) (A := (iteO ((N_is_house house').bind fun b1 => some (!b1)) none (some ()))) (n_if (P := ((N_is_house house').bind fun b1 => some (!b1))) (A := none) (B := (some ())) (t_knot (P := (N_is_house house')) (t_T (P := (N_is_house house')) (t_call1 (A := (some house')) (N := N_is_house) t_is_house (t_var (i := 0) (e := (e4 eI eI eI (e2 eI eI))) (v := house') rfl)))) n_never (n_nil (s := ()) (z := ()) rfl)) (fun s2 z3 => (n_if (P := ((andO (N_is_row_between prices' (0 : Int) (1000 : Int)) (some (decide ((1 : Int) ≤ ((prices').length : Int)) && decide (((prices').length : Int) ≤ (6 : Int))))).bind fun b5 => some (!b5))) (A := none) (B := (some ())) (t_knot (P := (andO (N_is_row_between prices' (0 : Int) (1000 : Int)) (some (decide ((1 : Int) ≤ ((prices').length : Int)) && decide (((prices').length : Int) ≤ (6 : Int)))))) (t_kand (P := (N_is_row_between prices' (0 : Int) (1000 : Int))) (Q := (some (decide ((1 : Int) ≤ ((prices').length : Int)) && decide (((prices').length : Int) ≤ (6 : Int))))) (t_T (P := (N_is_row_between prices' (0 : Int) (1000 : Int))) (t_call3 (A := (some prices')) (B := (some (0 : Int))) (C := (some (1000 : Int))) (N := N_is_row_between) t_is_row_between (t_var (i := 1) (e := (eR eI)) (v := prices') rfl) (t_int (i := 0)) (t_int (i := 1000)))) (t_T (P := (some (decide ((1 : Int) ≤ ((prices').length : Int)) && decide (((prices').length : Int) ≤ (6 : Int))))) (t_chainP (x := (1 : Int)) (y := ((prices').length : Int)) (z := (6 : Int)) (t_int (i := 1)) (t_f1 (A := (some prices')) (h := (fun x4 => some ((x4).length : Int))) g_lenR (t_var (i := 1) (e := (eR eI)) (v := prices') rfl)) (t_int (i := 6)))))) n_never (n_nil (s := ()) (z := ()) rfl))))
noncomputable def N_like_dam (house' : (Int × Int × Int × (Int × Int))) (prices' : (List Int)) : Option ((Int × Int × Int × (List Int)) × (List (List (Int × Int)))) := ((some house').bind fun p1 => (((some p1.1).bind fun x7 => (some (0 : Int)).bind fun x8 => (some (0 : Int)).bind fun x9 => (repO ([p1.2.1]) ((prices').length : Int)).bind fun x10 => some (x7, x8, x9, x10)).bind fun dam_2 => ((some dam_2).bind fun x25 => ((compL (fun (i11 : Int) => (some true)) (fun (i11 : Int) => ((((some p1.2.1).bind fun x14 => (mulO i11 p1.2.2.2.2).bind fun x15 => some (x14, x15)).bind fun x22 => (((some p1.2.2.1).bind fun x18 => (mulO i11 p1.2.2.2.1).bind fun x19 => some (x18, x19)).bind fun x20 => (some []).bind fun y21 => some (x20 :: y21)).bind fun y23 => some (x22 :: y23)).bind dispO)) prices').bind (fun x24 => some x24)).bind fun x26 => some (x25, x26))))
theorem t_like_dam (house' : (Int × Int × Int × (Int × Int))) (prices' : (List Int)) : S_like_dam [(e4 eI eI eI (e2 eI eI)) house', (eR eI) prices'] = (N_like_dam house' prices').map (e2 (e4 eI eI eI (eR eI)) (eR (eR (e2 eI eI)))) := d_run (r_seq_bind (A := (some house')) (envb := fun p1 => [.dat ((e4 eI eI eI (e2 eI eI)) house'), .dat ((eR eI) prices'), .dat (eI p1.1), .dat (eI p1.2.1), .dat (eI p1.2.2.1), .dat (eI p1.2.2.2.1), .dat (eI p1.2.2.2.2), .no, .no]) (t_var (i := 0) (e := (e4 eI eI eI (e2 eI eI))) (v := house') rfl) (fun _ => rfl) (fun p1 => (r_seq_set (i := 7) (A := ((some p1.1).bind fun x7 => (some (0 : Int)).bind fun x8 => (some (0 : Int)).bind fun x9 => (repO ([p1.2.1]) ((prices').length : Int)).bind fun x10 => some (x7, x8, x9, x10))) (t_tup4 (A := (some p1.1)) (B := (some (0 : Int))) (C := (some (0 : Int))) (D := (repO ([p1.2.1]) ((prices').length : Int))) (t_var (i := 2) (e := eI) (v := p1.1) rfl) (t_int (i := 0)) (t_int (i := 0)) (t_f2 (A := (some ([p1.2.1]))) (B := (some ((prices').length : Int))) (h := (fun x5 y6 => (repO x5 y6))) g_repR (t_as (A := (some p1.2.1)) (u := fun x4 => [x4]) (ea := (e1 eI)) (eb := (eR eI)) (fun _ => rfl) (t_tup1 (A := (some p1.2.1)) (t_var (i := 3) (e := eI) (v := p1.2.1) rfl))) (t_f1 (A := (some prices')) (h := (fun x3 => some ((x3).length : Int))) g_lenR (t_var (i := 1) (e := (eR eI)) (v := prices') rfl)))) (lt_of rfl) (fun dam_2 => (r_ret (A := ((some dam_2).bind fun x25 => ((compL (fun (i11 : Int) => (some true)) (fun (i11 : Int) => ((((some p1.2.1).bind fun x14 => (mulO i11 p1.2.2.2.2).bind fun x15 => some (x14, x15)).bind fun x22 => (((some p1.2.2.1).bind fun x18 => (mulO i11 p1.2.2.2.1).bind fun x19 => some (x18, x19)).bind fun x20 => (some []).bind fun y21 => some (x20 :: y21)).bind fun y23 => some (x22 :: y23)).bind dispO)) prices').bind (fun x24 => some x24)).bind fun x26 => some (x25, x26))) (t_tup2 (A := (some dam_2)) (B := ((compL (fun (i11 : Int) => (some true)) (fun (i11 : Int) => ((((some p1.2.1).bind fun x14 => (mulO i11 p1.2.2.2.2).bind fun x15 => some (x14, x15)).bind fun x22 => (((some p1.2.2.1).bind fun x18 => (mulO i11 p1.2.2.2.1).bind fun x19 => some (x18, x19)).bind fun x20 => (some []).bind fun y21 => some (x20 :: y21)).bind fun y23 => some (x22 :: y23)).bind dispO)) prices').bind (fun x24 => some x24))) (t_var (i := 7) (e := (e4 eI eI eI (eR eI))) (v := dam_2) rfl) (t_f1 (A := (compL (fun (i11 : Int) => (some true)) (fun (i11 : Int) => ((((some p1.2.1).bind fun x14 => (mulO i11 p1.2.2.2.2).bind fun x15 => some (x14, x15)).bind fun x22 => (((some p1.2.2.1).bind fun x18 => (mulO i11 p1.2.2.2.1).bind fun x19 => some (x18, x19)).bind fun x20 => (some []).bind fun y21 => some (x20 :: y21)).bind fun y23 => some (x22 :: y23)).bind dispO)) prices')) (h := (fun x24 => some x24)) g_tupL (t_lc (L := (some prices')) (ea := eI) (eb := (eR (e2 eI eI))) (T := fun (i11 : Int) => (some true)) (Bf := fun (i11 : Int) => ((((some p1.2.1).bind fun x14 => (mulO i11 p1.2.2.2.2).bind fun x15 => some (x14, x15)).bind fun x22 => (((some p1.2.2.1).bind fun x18 => (mulO i11 p1.2.2.2.1).bind fun x19 => some (x18, x19)).bind fun x20 => (some []).bind fun y21 => some (x20 :: y21)).bind fun y23 => some (x22 :: y23)).bind dispO)) (i_seqR (A := (some prices')) (e := eI) (t_var (i := 1) (e := (eR eI)) (v := prices') rfl)) (fun i11 => ⟨[.dat ((e4 eI eI eI (e2 eI eI)) house'), .dat ((eR eI) prices'), .dat (eI p1.1), .dat (eI p1.2.1), .dat (eI p1.2.2.1), .dat (eI p1.2.2.2.1), .dat (eI p1.2.2.2.2), .dat ((e4 eI eI eI (eR eI)) dam_2), .dat (eI i11)], rfl, t_yes, (t_tupR (L := (((some p1.2.1).bind fun x14 => (mulO i11 p1.2.2.2.2).bind fun x15 => some (x14, x15)).bind fun x22 => (((some p1.2.2.1).bind fun x18 => (mulO i11 p1.2.2.2.1).bind fun x19 => some (x18, x19)).bind fun x20 => (some []).bind fun y21 => some (x20 :: y21)).bind fun y23 => some (x22 :: y23))) (t_cons (A := ((some p1.2.1).bind fun x14 => (mulO i11 p1.2.2.2.2).bind fun x15 => some (x14, x15))) (L := (((some p1.2.2.1).bind fun x18 => (mulO i11 p1.2.2.2.1).bind fun x19 => some (x18, x19)).bind fun x20 => (some []).bind fun y21 => some (x20 :: y21))) (t_tup2 (A := (some p1.2.1)) (B := (mulO i11 p1.2.2.2.2)) (t_var (i := 3) (e := eI) (v := p1.2.1) rfl) (t_f2 (A := (some i11)) (B := (some p1.2.2.2.2)) (h := (fun x12 y13 => (mulO x12 y13))) g_mul (t_var (i := 8) (e := eI) (v := i11) rfl) (t_var (i := 6) (e := eI) (v := p1.2.2.2.2) rfl))) (t_cons (A := ((some p1.2.2.1).bind fun x18 => (mulO i11 p1.2.2.2.1).bind fun x19 => some (x18, x19))) (L := (some [])) (t_tup2 (A := (some p1.2.2.1)) (B := (mulO i11 p1.2.2.2.1)) (t_var (i := 4) (e := eI) (v := p1.2.2.1) rfl) (t_f2 (A := (some i11)) (B := (some p1.2.2.2.1)) (h := (fun x16 y17 => (mulO x16 y17))) g_mul (t_var (i := 8) (e := eI) (v := i11) rfl) (t_var (i := 5) (e := eI) (v := p1.2.2.2.1) rfl))) (t_nil (α := (Int × Int)) (e := (e2 eI eI))))))⟩)))))))))
noncomputable def N_found_profit (house' : (Int × Int × Int × (Int × Int))) (prices' : (List Int)) : Option (Int × Int) := ((some house').bind fun p1 => ((N_like_dam house' prices').bind fun p2 => (((N_greatest_worth p2.1 p2.2).bind fun x8 => ((mulO p1.2.1 p1.2.2.2.2).bind fun x6 => (some (List.sum prices')).bind fun y7 => (mulO x6 y7)).bind fun y9 => some (x8 - y9)).bind fun a10 => (some p1.2.2.2.2).bind fun a11 => N_ratio a10 a11)))
theorem t_found_profit (house' : (Int × Int × Int × (Int × Int))) (prices' : (List Int)) : S_found_profit [(e4 eI eI eI (e2 eI eI)) house', (eR eI) prices'] = (N_found_profit house' prices').map (e2 eI eI) := d_run (r_seq_bind (A := (some house')) (envb := fun p1 => [.dat ((e4 eI eI eI (e2 eI eI)) house'), .dat ((eR eI) prices'), .dat (eI p1.2.2.2.1), .dat (eI p1.2.1), .dat (eI p1.2.2.2.2), .no, .no]) (t_var (i := 0) (e := (e4 eI eI eI (e2 eI eI))) (v := house') rfl) (fun _ => rfl) (fun p1 => (r_seq_bind (A := (N_like_dam house' prices')) (envb := fun p2 => [.dat ((e4 eI eI eI (e2 eI eI)) house'), .dat ((eR eI) prices'), .dat (eI p1.2.2.2.1), .dat (eI p1.2.1), .dat (eI p1.2.2.2.2), .dat ((e4 eI eI eI (eR eI)) p2.1), .dat ((eR (eR (e2 eI eI))) p2.2)]) (t_call2 (A := (some house')) (B := (some prices')) (N := N_like_dam) t_like_dam (t_var (i := 0) (e := (e4 eI eI eI (e2 eI eI))) (v := house') rfl) (t_var (i := 1) (e := (eR eI)) (v := prices') rfl)) (fun _ => rfl) (fun p2 => (r_ret (A := (((N_greatest_worth p2.1 p2.2).bind fun x8 => ((mulO p1.2.1 p1.2.2.2.2).bind fun x6 => (some (List.sum prices')).bind fun y7 => (mulO x6 y7)).bind fun y9 => some (x8 - y9)).bind fun a10 => (some p1.2.2.2.2).bind fun a11 => N_ratio a10 a11)) (t_call2 (A := ((N_greatest_worth p2.1 p2.2).bind fun x8 => ((mulO p1.2.1 p1.2.2.2.2).bind fun x6 => (some (List.sum prices')).bind fun y7 => (mulO x6 y7)).bind fun y9 => some (x8 - y9))) (B := (some p1.2.2.2.2)) (N := N_ratio) t_ratio (t_f2 (A := (N_greatest_worth p2.1 p2.2)) (B := ((mulO p1.2.1 p1.2.2.2.2).bind fun x6 => (some (List.sum prices')).bind fun y7 => (mulO x6 y7))) (h := (fun x8 y9 => some (x8 - y9))) g_sub (t_call2 (A := (some p2.1)) (B := (some p2.2)) (N := N_greatest_worth) t_greatest_worth (t_var (i := 5) (e := (e4 eI eI eI (eR eI))) (v := p2.1) rfl) (t_var (i := 6) (e := (eR (eR (e2 eI eI)))) (v := p2.2) rfl)) (t_f2 (A := (mulO p1.2.1 p1.2.2.2.2)) (B := (some (List.sum prices'))) (h := (fun x6 y7 => (mulO x6 y7))) g_mul (t_f2 (A := (some p1.2.1)) (B := (some p1.2.2.2.2)) (h := (fun x3 y4 => (mulO x3 y4))) g_mul (t_var (i := 3) (e := eI) (v := p1.2.1) rfl) (t_var (i := 4) (e := eI) (v := p1.2.2.2.2) rfl)) (t_f1 (A := (some prices')) (h := (fun x5 => some (List.sum x5))) g_sumR (t_var (i := 1) (e := (eR eI)) (v := prices') rfl)))) (t_var (i := 4) (e := eI) (v := p1.2.2.2.2) rfl)))))))
noncomputable def N_pump_profit (house' : (Int × Int × Int × (Int × Int))) (prices' : (List Int)) : Option (Int × Int) := ((N_check_house_and_prices house' prices').bind fun _ => (N_found_profit house' prices'))
theorem t_pump_profit (house' : (Int × Int × Int × (Int × Int))) (prices' : (List Int)) : S_pump_profit [(e4 eI eI eI (e2 eI eI)) house', (eR eI) prices'] = (N_pump_profit house' prices').map (e2 eI eI) := d_run (r_seq_expr (A := (N_check_house_and_prices house' prices')) (t_call2 (A := (some house')) (B := (some prices')) (N := N_check_house_and_prices) t_check_house_and_prices (t_var (i := 0) (e := (e4 eI eI eI (e2 eI eI))) (v := house') rfl) (t_var (i := 1) (e := (eR eI)) (v := prices') rfl)) (r_ret (A := (N_found_profit house' prices')) (t_call2 (A := (some house')) (B := (some prices')) (N := N_found_profit) t_found_profit (t_var (i := 0) (e := (e4 eI eI eI (e2 eI eI))) (v := house') rfl) (t_var (i := 1) (e := (eR eI)) (v := prices') rfl))))
noncomputable def N_pump_plan (house' : (Int × Int × Int × (Int × Int))) (prices' : (List Int)) : Option ((List (Int × Int)) × (List (Int × Int))) := ((N_check_house_and_prices house' prices').bind fun _ => ((N_like_dam house' prices').bind fun p1 => ((some []).bind fun pumped_2 => ((some []).bind fun let_down_3 => (((N_best_releases p1.1 p1.2).bind fun l => foldO (fun (i6 : Int) (s4 : ((List (Int × Int)) × (List (Int × Int)))) => ((some (min2 house'.2.1 i6)).bind fun saved_7 => ((appO s4.1 ((house'.2.1 - saved_7), (1 : Int))).bind fun pumped_16 => ((appO s4.2 ((i6 - saved_7), (1 : Int))).bind fun let_down_20 => some (pumped_16, let_down_20))))) l (pumped_2, let_down_3)).bind fun s22 => (some s22))))))
theorem t_pump_plan (house' : (Int × Int × Int × (Int × Int))) (prices' : (List Int)) : S_pump_plan [(e4 eI eI eI (e2 eI eI)) house', (eR eI) prices'] = (N_pump_plan house' prices').map (e2 (eR (e2 eI eI)) (eR (e2 eI eI))) := d_run (r_seq_expr (A := (N_check_house_and_prices house' prices')) (t_call2 (A := (some house')) (B := (some prices')) (N := N_check_house_and_prices) t_check_house_and_prices (t_var (i := 0) (e := (e4 eI eI eI (e2 eI eI))) (v := house') rfl) (t_var (i := 1) (e := (eR eI)) (v := prices') rfl)) (r_seq_bind (A := (N_like_dam house' prices')) (envb := fun p1 => [.dat ((e4 eI eI eI (e2 eI eI)) house'), .dat ((eR eI) prices'), .dat ((e4 eI eI eI (eR eI)) p1.1), .dat ((eR (eR (e2 eI eI))) p1.2), .no, .no, .no, .no]) (t_call2 (A := (some house')) (B := (some prices')) (N := N_like_dam) t_like_dam (t_var (i := 0) (e := (e4 eI eI eI (e2 eI eI))) (v := house') rfl) (t_var (i := 1) (e := (eR eI)) (v := prices') rfl)) (fun _ => rfl) (fun p1 => (r_seq_own (i := 4) (ea := (e2 eI eI)) (A := (some [])) (t_lstL (L := some []) (t_nil (α := (Int × Int)) (e := (e2 eI eI)))) (lt_of rfl) (fun pumped_2 => (r_seq_own (i := 5) (ea := (e2 eI eI)) (A := (some [])) (t_lstL (L := some []) (t_nil (α := (Int × Int)) (e := (e2 eI eI)))) (lt_of rfl) (fun let_down_3 => (r_seq_nx (env := (fun (s : ((List (Int × Int)) × (List (Int × Int)))) (z : (Slot × Slot)) => [.dat ((e4 eI eI eI (e2 eI eI)) house'), .dat ((eR eI) prices'), .dat ((e4 eI eI eI (eR eI)) p1.1), .dat ((eR (eR (e2 eI eI))) p1.2), .own (List.map (e2 eI eI) s.1), .own (List.map (e2 eI eI) s.2), z.1, z.2])) (n_for (env := (fun (s : ((List (Int × Int)) × (List (Int × Int)))) (z : (Slot × Slot)) => [.dat ((e4 eI eI eI (e2 eI eI)) house'), .dat ((eR eI) prices'), .dat ((e4 eI eI eI (eR eI)) p1.1), .dat ((eR (eR (e2 eI eI))) p1.2), .own (List.map (e2 eI eI) s.1), .own (List.map (e2 eI eI) s.2), z.1, z.2])) (s := (pumped_2, let_down_3)) (z := ((.no : Slot), (.no : Slot))) (L := (N_best_releases p1.1 p1.2)) (ea := eI) (Bd := (fun (i6 : Int) (s4 : ((List (Int × Int)) × (List (Int × Int)))) => ((some (min2 house'.2.1 i6)).bind fun saved_7 => ((appO s4.1 ((house'.2.1 - saved_7), (1 : Int))).bind fun pumped_16 => ((appO s4.2 ((i6 - saved_7), (1 : Int))).bind fun let_down_20 => some (pumped_16, let_down_20)))))) rfl (i_seqL (A := (N_best_releases p1.1 p1.2)) (e := eI) (t_call2 (A := (some p1.1)) (B := (some p1.2)) (N := N_best_releases) t_best_releases (t_var (i := 2) (e := (e4 eI eI eI (eR eI))) (v := p1.1) rfl) (t_var (i := 3) (e := (eR (eR (e2 eI eI)))) (v := p1.2) rfl))) (fun i6 s4 z5 => ⟨[.dat ((e4 eI eI eI (e2 eI eI)) house'), .dat ((eR eI) prices'), .dat ((e4 eI eI eI (eR eI)) p1.1), .dat ((eR (eR (e2 eI eI))) p1.2), .own (List.map (e2 eI eI) s4.1), .own (List.map (e2 eI eI) s4.2), .dat (eI i6), z5.2], rfl, (n_seq_set (i := 7) (A := (some (min2 house'.2.1 i6))) (t_f2 (A := (some house'.2.1)) (B := (some i6)) (h := (fun x11 y12 => some (min2 x11 y12))) g_min2 (t_ixc (A := (some house')) (k := 1) (pr := fun x8 => x8.2.1) (eb := eI) (fun _ => rfl) (t_var (i := 0) (e := (e4 eI eI eI (e2 eI eI))) (v := house') rfl)) (t_var (i := 6) (e := eI) (v := i6) rfl)) (lt_of rfl) (fun saved_7 => (n_seq_app (i := 4) (A := (some ((house'.2.1 - saved_7), (1 : Int)))) (v := s4.1) (t_tup2 (A := (some (house'.2.1 - saved_7))) (B := (some (1 : Int))) (t_f2 (A := (some house'.2.1)) (B := (some saved_7)) (h := (fun x14 y15 => some (x14 - y15))) g_sub (t_ixc (A := (some house')) (k := 1) (pr := fun x13 => x13.2.1) (eb := eI) (fun _ => rfl) (t_var (i := 0) (e := (e4 eI eI eI (e2 eI eI))) (v := house') rfl)) (t_var (i := 7) (e := eI) (v := saved_7) rfl)) (t_int (i := 1))) rfl (fun pumped_16 => (n_app (i := 5) (A := (some ((i6 - saved_7), (1 : Int)))) (v := s4.2) (K := fun let_down_20 => (pumped_16, let_down_20)) (t_tup2 (A := (some (i6 - saved_7))) (B := (some (1 : Int))) (t_f2 (A := (some i6)) (B := (some saved_7)) (h := (fun x18 y19 => some (x18 - y19))) g_sub (t_var (i := 6) (e := eI) (v := i6) rfl) (t_var (i := 7) (e := eI) (v := saved_7) rfl)) (t_int (i := 1))) rfl (fun let_down_20 => ⟨((.dat (eI i6) : Slot), (.dat (eI saved_7) : Slot)), rfl⟩))))))⟩)) (fun s22 z23 => (r_ret (A := (some s22)) (t_tup2 (A := (some s22.1)) (B := (some s22.2)) (t_f1 (A := (some s22.1)) (h := (fun x24 => some x24)) g_tupL (t_own (i := 4) (e := (e2 eI eI)) (v := s22.1) rfl)) (t_f1 (A := (some s22.2)) (h := (fun x25 => some x25)) g_tupL (t_own (i := 5) (e := (e2 eI eI)) (v := s22.2) rfl)))))))))))))
def F_is_pumping (c_is_row_of_ratios c_minus c_plus c_is_less : List PyData → Option PyData) : En → Option Fl := (sSeq (sIf (kNot (kAnd (fT (fIsi isTup (fVar 2))) (kAnd (fT (fEq (fLen (fVar 2)) (fLit (.int 2)))) (fT (fAll true (iSeq (fVar 2)) (bName 10) (fCall 2 c_is_row_of_ratios (fCons (fVar 10) (fCons (fVar 1) fNil))) [10]))))) (sRet (fLit (.bool false))) sNil) (sSeq (sBind (bTup [3, 4, 5, 6]) (fVar 0)) (sSeq (sSet 7 (fTup (fCons (fLit (.int 0)) (fCons (fLit (.int 1)) fNil)))) (sSeq (sFor (iZip (fIx (fVar 2) (fLit (.int 0))) (fIx (fVar 2) (fLit (.int 1)))) (bTup [8, 9]) (sSeq (sSet 7 (fCall 2 c_minus (fCons (fCall 2 c_plus (fCons (fVar 7) (fCons (fVar 8) fNil))) (fCons (fVar 9) fNil)))) (sSeq (sIf (kOr (fT (fCall 2 c_is_less (fCons (fTup (fCons (fVar 4) (fCons (fLit (.int 1)) fNil))) (fCons (fVar 8) fNil)))) (fT (fCall 2 c_is_less (fCons (fTup (fCons (fVar 5) (fCons (fLit (.int 1)) fNil))) (fCons (fVar 9) fNil))))) (sRet (fLit (.bool false))) sNil) (sIf (kOr (fT (fCall 2 c_is_less (fCons (fVar 7) (fCons (fTup (fCons (fLit (.int 0)) (fCons (fLit (.int 1)) fNil))) fNil)))) (fT (fCall 2 c_is_less (fCons (fTup (fCons (fVar 3) (fCons (fLit (.int 1)) fNil))) (fCons (fVar 7) fNil))))) (sRet (fLit (.bool false))) sNil)))) (sRet (fLit (.bool true)))))))
def S_is_pumping := runD 11 (F_is_pumping S_is_row_of_ratios S_minus S_plus S_is_less)
def F_profit_of (c_times c_plus c_minus : List PyData → Option PyData) : En → Option Fl := (sSeq (sSet 3 (fTup (fCons (fLit (.int 0)) (fCons (fLit (.int 1)) fNil)))) (sSeq (sFor (iZip3 (fVar 1) (fIx (fVar 2) (fLit (.int 0))) (fIx (fVar 2) (fLit (.int 1)))) (bTup [4, 5, 6]) (sSeq (sSet 7 (fCall 2 c_times (fCons (fVar 6) (fCons (fCall 2 c_times (fCons (fTup (fCons (fVar 4) (fCons (fLit (.int 1)) fNil))) (fCons (fIx (fVar 0) (fLit (.int 3))) fNil))) fNil)))) (sSet 3 (fCall 2 c_plus (fCons (fVar 3) (fCons (fCall 2 c_minus (fCons (fVar 7) (fCons (fCall 2 c_times (fCons (fVar 5) (fCons (fTup (fCons (fVar 4) (fCons (fLit (.int 1)) fNil))) fNil))) fNil))) fNil)))))) (sRet (fVar 3))))
def S_profit_of := runD 8 (F_profit_of S_times S_plus S_minus)
def F_shows_pumping (c_pump_profit c_is_pumping c_profit_of : List PyData → Option PyData) : En → Option Fl := (sSeq (sSet 3 (fCall 2 c_pump_profit (fCons (fVar 0) (fCons (fVar 1) fNil)))) (sRet (fAnd (fCall 3 c_is_pumping (fCons (fVar 0) (fCons (fLen (fVar 1)) (fCons (fVar 2) fNil)))) (fEq (fCall 3 c_profit_of (fCons (fVar 0) (fCons (fVar 1) (fCons (fVar 2) fNil)))) (fVar 3)))))
def S_shows_pumping := runD 4 (F_shows_pumping S_pump_profit S_is_pumping S_profit_of)
noncomputable def N_is_pumping (house' : (Int × Int × Int × (Int × Int))) (months' : Int) (value' : ((List (Int × Int)) × (List (Int × Int)))) : Option Bool := (iteO ((andO (some true) (andO (some (decide ((2 : Int) = (2 : Int)))) (allO true (fun (i6 : (List (Int × Int))) => (N_is_row_of_ratios i6 months')) [value'.1, value'.2]))).bind fun b7 => some (!b7)) (some false) ((some house').bind fun p8 => ((some ((0 : Int), (1 : Int))).bind fun held_9 => (bindJ (foldJ (fun (i18 : ((Int × Int) × (Int × Int))) (s16 : ((Int × Int))) => (((N_plus s16 i18.1).bind fun a20 => (some i18.2).bind fun a21 => N_minus a20 a21).bind fun held_19 => (iteO (orO (N_is_less (p8.2.1, (1 : Int)) i18.1) (N_is_less (p8.2.2.1, (1 : Int)) i18.2)) ((some false).bind fun v23 => some (.inl v23)) (iteO (orO (N_is_less held_19 ((0 : Int), (1 : Int))) (N_is_less (p8.1, (1 : Int)) held_19)) ((some false).bind fun v22 => some (.inl v22)) (some (.inr held_19)))))) (List.zip value'.1 value'.2) held_9) (fun s24 => (some true))))))
theorem t_is_pumping (house' : (Int × Int × Int × (Int × Int))) (months' : Int) (value' : ((List (Int × Int)) × (List (Int × Int)))) : S_is_pumping [(e4 eI eI eI (e2 eI eI)) house', eI months', (e2 (eR (e2 eI eI)) (eR (e2 eI eI))) value'] = (N_is_pumping house' months' value').map eB := d_run (r_seq_ifret (P := ((andO (some true) (andO (some (decide ((2 : Int) = (2 : Int)))) (allO true (fun (i6 : (List (Int × Int))) => (N_is_row_of_ratios i6 months')) [value'.1, value'.2]))).bind fun b7 => some (!b7))) (A := (some false)) (t_knot (P := (andO (some true) (andO (some (decide ((2 : Int) = (2 : Int)))) (allO true (fun (i6 : (List (Int × Int))) => (N_is_row_of_ratios i6 months')) [value'.1, value'.2])))) (t_kand (P := (some true)) (Q := (andO (some (decide ((2 : Int) = (2 : Int)))) (allO true (fun (i6 : (List (Int × Int))) => (N_is_row_of_ratios i6 months')) [value'.1, value'.2]))) (t_T (P := (some true)) (t_isi (A := (some value')) (b := fun x1 => true) (fun _ => rfl) (t_var (i := 2) (e := (e2 (eR (e2 eI eI)) (eR (e2 eI eI)))) (v := value') rfl))) (t_kand (P := (some (decide ((2 : Int) = (2 : Int))))) (Q := (allO true (fun (i6 : (List (Int × Int))) => (N_is_row_of_ratios i6 months')) [value'.1, value'.2])) (t_T (P := (some (decide ((2 : Int) = (2 : Int))))) (t_f2 (A := (some (2 : Int))) (B := (some (2 : Int))) (h := (fun x3 y4 => some (decide (x3 = y4)))) (g_eq enc_I rfl) (t_f1 (A := (some value')) (h := (fun x2 => some (2 : Int))) (fun _ => rfl) (t_var (i := 2) (e := (e2 (eR (e2 eI eI)) (eR (e2 eI eI)))) (v := value') rfl)) (t_int (i := 2)))) (t_T (P := (allO true (fun (i6 : (List (Int × Int))) => (N_is_row_of_ratios i6 months')) [value'.1, value'.2])) (t_all (L := (some [value'.1, value'.2])) (ea := (eR (e2 eI eI))) (Bf := fun (i6 : (List (Int × Int))) => (N_is_row_of_ratios i6 months')) (i_seq (A := (some value')) (e := (eR (e2 eI eI))) (u := fun x5 => [x5.1, x5.2]) (fun _ => rfl) (t_var (i := 2) (e := (e2 (eR (e2 eI eI)) (eR (e2 eI eI)))) (v := value') rfl)) (fun i6 => ⟨[.dat ((e4 eI eI eI (e2 eI eI)) house'), .dat (eI months'), .dat ((e2 (eR (e2 eI eI)) (eR (e2 eI eI))) value'), .no, .no, .no, .no, .no, .no, .no, .dat ((eR (e2 eI eI)) i6)], rfl, (t_call2 (A := (some i6)) (B := (some months')) (N := N_is_row_of_ratios) t_is_row_of_ratios (t_var (i := 10) (e := (eR (e2 eI eI))) (v := i6) rfl) (t_var (i := 1) (e := eI) (v := months') rfl))⟩)))))) (r_ret (A := (some false)) (t_bl (b := false))) (r_seq_bind (A := (some house')) (envb := fun p8 => [.dat ((e4 eI eI eI (e2 eI eI)) house'), .dat (eI months'), .dat ((e2 (eR (e2 eI eI)) (eR (e2 eI eI))) value'), .dat (eI p8.1), .dat (eI p8.2.1), .dat (eI p8.2.2.1), .dat ((e2 eI eI) p8.2.2.2), .no, .no, .no, .no]) (t_var (i := 0) (e := (e4 eI eI eI (e2 eI eI))) (v := house') rfl) (fun _ => rfl) (fun p8 => (r_seq_set (i := 7) (A := (some ((0 : Int), (1 : Int)))) (t_tup2 (A := (some (0 : Int))) (B := (some (1 : Int))) (t_int (i := 0)) (t_int (i := 1))) (lt_of rfl) (fun held_9 => (r_seq_bj (env := (fun (s : ((Int × Int))) (z : (Slot × Slot)) => [.dat ((e4 eI eI eI (e2 eI eI)) house'), .dat (eI months'), .dat ((e2 (eR (e2 eI eI)) (eR (e2 eI eI))) value'), .dat (eI p8.1), .dat (eI p8.2.1), .dat (eI p8.2.2.1), .dat ((e2 eI eI) p8.2.2.2), .dat ((e2 eI eI) s), z.1, z.2, .no])) (j_for (env := (fun (s : ((Int × Int))) (z : (Slot × Slot)) => [.dat ((e4 eI eI eI (e2 eI eI)) house'), .dat (eI months'), .dat ((e2 (eR (e2 eI eI)) (eR (e2 eI eI))) value'), .dat (eI p8.1), .dat (eI p8.2.1), .dat (eI p8.2.2.1), .dat ((e2 eI eI) p8.2.2.2), .dat ((e2 eI eI) s), z.1, z.2, .no])) (s := held_9) (z := ((.no : Slot), (.no : Slot))) (L := (some (List.zip value'.1 value'.2))) (ea := (e2 (e2 eI eI) (e2 eI eI))) (Bd := (fun (i18 : ((Int × Int) × (Int × Int))) (s16 : ((Int × Int))) => (((N_plus s16 i18.1).bind fun a20 => (some i18.2).bind fun a21 => N_minus a20 a21).bind fun held_19 => (iteO (orO (N_is_less (p8.2.1, (1 : Int)) i18.1) (N_is_less (p8.2.2.1, (1 : Int)) i18.2)) ((some false).bind fun v23 => some (.inl v23)) (iteO (orO (N_is_less held_19 ((0 : Int), (1 : Int))) (N_is_less (p8.1, (1 : Int)) held_19)) ((some false).bind fun v22 => some (.inl v22)) (some (.inr held_19))))))) rfl (i_zip (A := (some value'.1)) (B := (some value'.2)) (ea := (e2 eI eI)) (eb := (e2 eI eI)) (fun _ _ => rfl) (t_ixc (A := (some value')) (k := 0) (pr := fun x12 => x12.1) (eb := (eR (e2 eI eI))) (fun _ => rfl) (t_var (i := 2) (e := (e2 (eR (e2 eI eI)) (eR (e2 eI eI)))) (v := value') rfl)) (t_ixc (A := (some value')) (k := 1) (pr := fun x13 => x13.2) (eb := (eR (e2 eI eI))) (fun _ => rfl) (t_var (i := 2) (e := (e2 (eR (e2 eI eI)) (eR (e2 eI eI)))) (v := value') rfl))) (fun i18 s16 z17 => ⟨[.dat ((e4 eI eI eI (e2 eI eI)) house'), .dat (eI months'), .dat ((e2 (eR (e2 eI eI)) (eR (e2 eI eI))) value'), .dat (eI p8.1), .dat (eI p8.2.1), .dat (eI p8.2.2.1), .dat ((e2 eI eI) p8.2.2.2), .dat ((e2 eI eI) s16), .dat ((e2 eI eI) i18.1), .dat ((e2 eI eI) i18.2), .no], rfl, (j_seq_set (i := 7) (A := ((N_plus s16 i18.1).bind fun a20 => (some i18.2).bind fun a21 => N_minus a20 a21)) (t_call2 (A := (N_plus s16 i18.1)) (B := (some i18.2)) (N := N_minus) t_minus (t_call2 (A := (some s16)) (B := (some i18.1)) (N := N_plus) t_plus (t_var (i := 7) (e := (e2 eI eI)) (v := s16) rfl) (t_var (i := 8) (e := (e2 eI eI)) (v := i18.1) rfl)) (t_var (i := 9) (e := (e2 eI eI)) (v := i18.2) rfl)) (lt_of rfl) (fun held_19 => (j_seq_ifret (P := (orO (N_is_less (p8.2.1, (1 : Int)) i18.1) (N_is_less (p8.2.2.1, (1 : Int)) i18.2))) (A := (some false)) (t_kor (P := (N_is_less (p8.2.1, (1 : Int)) i18.1)) (Q := (N_is_less (p8.2.2.1, (1 : Int)) i18.2)) (t_T (P := (N_is_less (p8.2.1, (1 : Int)) i18.1)) (t_call2 (A := (some (p8.2.1, (1 : Int)))) (B := (some i18.1)) (N := N_is_less) t_is_less (t_tup2 (A := (some p8.2.1)) (B := (some (1 : Int))) (t_var (i := 4) (e := eI) (v := p8.2.1) rfl) (t_int (i := 1))) (t_var (i := 8) (e := (e2 eI eI)) (v := i18.1) rfl))) (t_T (P := (N_is_less (p8.2.2.1, (1 : Int)) i18.2)) (t_call2 (A := (some (p8.2.2.1, (1 : Int)))) (B := (some i18.2)) (N := N_is_less) t_is_less (t_tup2 (A := (some p8.2.2.1)) (B := (some (1 : Int))) (t_var (i := 5) (e := eI) (v := p8.2.2.1) rfl) (t_int (i := 1))) (t_var (i := 9) (e := (e2 eI eI)) (v := i18.2) rfl)))) (r_ret (A := (some false)) (t_bl (b := false))) (j_if (P := (orO (N_is_less held_19 ((0 : Int), (1 : Int))) (N_is_less (p8.1, (1 : Int)) held_19))) (A := ((some false).bind fun v22 => some (.inl v22))) (B := (some (.inr held_19))) (t_kor (P := (N_is_less held_19 ((0 : Int), (1 : Int)))) (Q := (N_is_less (p8.1, (1 : Int)) held_19)) (t_T (P := (N_is_less held_19 ((0 : Int), (1 : Int)))) (t_call2 (A := (some held_19)) (B := (some ((0 : Int), (1 : Int)))) (N := N_is_less) t_is_less (t_var (i := 7) (e := (e2 eI eI)) (v := held_19) rfl) (t_tup2 (A := (some (0 : Int))) (B := (some (1 : Int))) (t_int (i := 0)) (t_int (i := 1))))) (t_T (P := (N_is_less (p8.1, (1 : Int)) held_19)) (t_call2 (A := (some (p8.1, (1 : Int)))) (B := (some held_19)) (N := N_is_less) t_is_less (t_tup2 (A := (some p8.1)) (B := (some (1 : Int))) (t_var (i := 3) (e := eI) (v := p8.1) rfl) (t_int (i := 1))) (t_var (i := 7) (e := (e2 eI eI)) (v := held_19) rfl)))) (j_of_r (A := (some false)) (r_ret (A := (some false)) (t_bl (b := false)))) (j_of_n (A := some held_19) (n_nil (s := held_19) (z := ((.dat ((e2 eI eI) i18.1) : Slot), (.dat ((e2 eI eI) i18.2) : Slot))) rfl))))))⟩)) (fun s24 z25 => (r_ret (A := (some true)) (t_bl (b := true))))))))))
noncomputable def N_profit_of (house' : (Int × Int × Int × (Int × Int))) (prices' : (List Int)) (pumping' : ((List (Int × Int)) × (List (Int × Int)))) : Option (Int × Int) := ((some ((0 : Int), (1 : Int))).bind fun profit_1 => ((foldO (fun (i8 : (Int × (Int × Int) × (Int × Int))) (s6 : ((Int × Int))) => (((some i8.2.2).bind fun a11 => (N_times (i8.1, (1 : Int)) house'.2.2.2).bind fun a12 => N_times a11 a12).bind fun brought_9 => (((some s6).bind fun a16 => ((some brought_9).bind fun a14 => (N_times i8.2.1 (i8.1, (1 : Int))).bind fun a15 => N_minus a14 a15).bind fun a17 => N_plus a16 a17).bind fun profit_13 => some profit_13))) (zip3 prices' pumping'.1 pumping'.2) profit_1).bind fun s18 => (some s18)))
theorem t_profit_of (house' : (Int × Int × Int × (Int × Int))) (prices' : (List Int)) (pumping' : ((List (Int × Int)) × (List (Int × Int)))) : S_profit_of [(e4 eI eI eI (e2 eI eI)) house', (eR eI) prices', (e2 (eR (e2 eI eI)) (eR (e2 eI eI))) pumping'] = (N_profit_of house' prices' pumping').map (e2 eI eI) := d_run (r_seq_set (i := 3) (A := (some ((0 : Int), (1 : Int)))) (t_tup2 (A := (some (0 : Int))) (B := (some (1 : Int))) (t_int (i := 0)) (t_int (i := 1))) (lt_of rfl) (fun profit_1 => (r_seq_nx (env := (fun (s : ((Int × Int))) (z : (Slot × Slot × Slot × Slot)) => [.dat ((e4 eI eI eI (e2 eI eI)) house'), .dat ((eR eI) prices'), .dat ((e2 (eR (e2 eI eI)) (eR (e2 eI eI))) pumping'), .dat ((e2 eI eI) s), z.1, z.2.1, z.2.2.1, z.2.2.2])) (n_for (env := (fun (s : ((Int × Int))) (z : (Slot × Slot × Slot × Slot)) => [.dat ((e4 eI eI eI (e2 eI eI)) house'), .dat ((eR eI) prices'), .dat ((e2 (eR (e2 eI eI)) (eR (e2 eI eI))) pumping'), .dat ((e2 eI eI) s), z.1, z.2.1, z.2.2.1, z.2.2.2])) (s := profit_1) (z := ((.no : Slot), (.no : Slot), (.no : Slot), (.no : Slot))) (L := (some (zip3 prices' pumping'.1 pumping'.2))) (ea := (e3 eI (e2 eI eI) (e2 eI eI))) (Bd := (fun (i8 : (Int × (Int × Int) × (Int × Int))) (s6 : ((Int × Int))) => (((some i8.2.2).bind fun a11 => (N_times (i8.1, (1 : Int)) house'.2.2.2).bind fun a12 => N_times a11 a12).bind fun brought_9 => (((some s6).bind fun a16 => ((some brought_9).bind fun a14 => (N_times i8.2.1 (i8.1, (1 : Int))).bind fun a15 => N_minus a14 a15).bind fun a17 => N_plus a16 a17).bind fun profit_13 => some profit_13)))) rfl (i_zip3 (A := (some prices')) (B := (some pumping'.1)) (C := (some pumping'.2)) (ea := eI) (eb := (e2 eI eI)) (ec := (e2 eI eI)) (fun _ => rfl) (fun _ => rfl) (fun _ => rfl) (t_var (i := 1) (e := (eR eI)) (v := prices') rfl) (t_ixc (A := (some pumping')) (k := 0) (pr := fun x4 => x4.1) (eb := (eR (e2 eI eI))) (fun _ => rfl) (t_var (i := 2) (e := (e2 (eR (e2 eI eI)) (eR (e2 eI eI)))) (v := pumping') rfl)) (t_ixc (A := (some pumping')) (k := 1) (pr := fun x5 => x5.2) (eb := (eR (e2 eI eI))) (fun _ => rfl) (t_var (i := 2) (e := (e2 (eR (e2 eI eI)) (eR (e2 eI eI)))) (v := pumping') rfl))) (fun i8 s6 z7 => ⟨[.dat ((e4 eI eI eI (e2 eI eI)) house'), .dat ((eR eI) prices'), .dat ((e2 (eR (e2 eI eI)) (eR (e2 eI eI))) pumping'), .dat ((e2 eI eI) s6), .dat (eI i8.1), .dat ((e2 eI eI) i8.2.1), .dat ((e2 eI eI) i8.2.2), z7.2.2.2], rfl, (n_seq_set (i := 7) (A := ((some i8.2.2).bind fun a11 => (N_times (i8.1, (1 : Int)) house'.2.2.2).bind fun a12 => N_times a11 a12)) (t_call2 (A := (some i8.2.2)) (B := (N_times (i8.1, (1 : Int)) house'.2.2.2)) (N := N_times) t_times (t_var (i := 6) (e := (e2 eI eI)) (v := i8.2.2) rfl) (t_call2 (A := (some (i8.1, (1 : Int)))) (B := (some house'.2.2.2)) (N := N_times) t_times (t_tup2 (A := (some i8.1)) (B := (some (1 : Int))) (t_var (i := 4) (e := eI) (v := i8.1) rfl) (t_int (i := 1))) (t_ixc (A := (some house')) (k := 3) (pr := fun x10 => x10.2.2.2) (eb := (e2 eI eI)) (fun _ => rfl) (t_var (i := 0) (e := (e4 eI eI eI (e2 eI eI))) (v := house') rfl)))) (lt_of rfl) (fun brought_9 => (n_set  (K := fun profit_13 => profit_13) (i := 3) (A := ((some s6).bind fun a16 => ((some brought_9).bind fun a14 => (N_times i8.2.1 (i8.1, (1 : Int))).bind fun a15 => N_minus a14 a15).bind fun a17 => N_plus a16 a17)) (t_call2 (A := (some s6)) (B := ((some brought_9).bind fun a14 => (N_times i8.2.1 (i8.1, (1 : Int))).bind fun a15 => N_minus a14 a15)) (N := N_plus) t_plus (t_var (i := 3) (e := (e2 eI eI)) (v := s6) rfl) (t_call2 (A := (some brought_9)) (B := (N_times i8.2.1 (i8.1, (1 : Int)))) (N := N_minus) t_minus (t_var (i := 7) (e := (e2 eI eI)) (v := brought_9) rfl) (t_call2 (A := (some i8.2.1)) (B := (some (i8.1, (1 : Int)))) (N := N_times) t_times (t_var (i := 5) (e := (e2 eI eI)) (v := i8.2.1) rfl) (t_tup2 (A := (some i8.1)) (B := (some (1 : Int))) (t_var (i := 4) (e := eI) (v := i8.1) rfl) (t_int (i := 1)))))) (lt_of rfl) (fun profit_13 => ⟨((.dat (eI i8.1) : Slot), (.dat ((e2 eI eI) i8.2.1) : Slot), (.dat ((e2 eI eI) i8.2.2) : Slot), (.dat ((e2 eI eI) brought_9) : Slot)), rfl⟩))))⟩)) (fun s18 z19 => (r_ret (A := (some s18)) (t_var (i := 3) (e := (e2 eI eI)) (v := s18) rfl))))))
noncomputable def N_shows_pumping (house' : (Int × Int × Int × (Int × Int))) (prices' : (List Int)) (value' : ((List (Int × Int)) × (List (Int × Int)))) : Option Bool := ((N_pump_profit house' prices').bind fun profit_1 => (andO (N_is_pumping house' ((prices').length : Int) value') ((N_profit_of house' prices' value').bind fun x3 => (some profit_1).bind fun y4 => some (decide (x3 = y4)))))
theorem t_shows_pumping (house' : (Int × Int × Int × (Int × Int))) (prices' : (List Int)) (value' : ((List (Int × Int)) × (List (Int × Int)))) : S_shows_pumping [(e4 eI eI eI (e2 eI eI)) house', (eR eI) prices', (e2 (eR (e2 eI eI)) (eR (e2 eI eI))) value'] = (N_shows_pumping house' prices' value').map eB := d_run (r_seq_set (i := 3) (A := (N_pump_profit house' prices')) (t_call2 (A := (some house')) (B := (some prices')) (N := N_pump_profit) t_pump_profit (t_var (i := 0) (e := (e4 eI eI eI (e2 eI eI))) (v := house') rfl) (t_var (i := 1) (e := (eR eI)) (v := prices') rfl)) (lt_of rfl) (fun profit_1 => (r_ret (A := (andO (N_is_pumping house' ((prices').length : Int) value') ((N_profit_of house' prices' value').bind fun x3 => (some profit_1).bind fun y4 => some (decide (x3 = y4))))) (t_and (P := (N_is_pumping house' ((prices').length : Int) value')) (Q := ((N_profit_of house' prices' value').bind fun x3 => (some profit_1).bind fun y4 => some (decide (x3 = y4)))) (t_call3 (A := (some house')) (B := (some ((prices').length : Int))) (C := (some value')) (N := N_is_pumping) t_is_pumping (t_var (i := 0) (e := (e4 eI eI eI (e2 eI eI))) (v := house') rfl) (t_f1 (A := (some prices')) (h := (fun x2 => some ((x2).length : Int))) g_lenR (t_var (i := 1) (e := (eR eI)) (v := prices') rfl)) (t_var (i := 2) (e := (e2 (eR (e2 eI eI)) (eR (e2 eI eI)))) (v := value') rfl)) (t_f2 (A := (N_profit_of house' prices' value')) (B := (some profit_1)) (h := (fun x3 y4 => some (decide (x3 = y4)))) (g_eq (enc_2 enc_I enc_I) rfl) (t_call3 (A := (some house')) (B := (some prices')) (C := (some value')) (N := N_profit_of) t_profit_of (t_var (i := 0) (e := (e4 eI eI eI (e2 eI eI))) (v := house') rfl) (t_var (i := 1) (e := (eR eI)) (v := prices') rfl) (t_var (i := 2) (e := (e2 (eR (e2 eI eI)) (eR (e2 eI eI)))) (v := value') rfl)) (t_var (i := 3) (e := (e2 eI eI)) (v := profit_1) rfl))))))
end Ty
namespace DN
open PySem PySem.Spec PyProof.Rows L2
end DN
namespace Ty
open PySem PySem.Spec PyProof.Rows L2 DN
noncomputable def N__law_less_1 (one' : (PyData × Int)) (other' : (Int × Int)) : Option Bool := ((gTimes (eA one'.1) (eI other'.2)).bind fun x11 => (mulO other'.1 one'.2).bind fun y12 => ((asI x11).bind fun u9 => some (decide (u9 < y12))))
structure PairsIn (l : List (Int × Int)) : Prop where
  len : l.length ≤ 3
  am : ∀ p ∈ l, 1 ≤ p.1 ∧ p.1 ≤ 1000
  pr : ∀ p ∈ l, 1 ≤ p.2 ∧ p.2 ≤ 1000
  dn : l.Pairwise fun a b => b.2 < a.2
def WorthsIn (ws : List (List (Int × Int))) : Prop := ∀ l ∈ ws, PairsIn l
def F__law_house (c__law_ratio : List PyData → Option PyData) : LF := (lSeq (lSet 1 (wDraw 1 cPick (wCons (wLst (wCons (wP 0 (fTup (fCons (fLit (.int 1)) (fCons (fLit (.int 1)) fNil)))) (wCons (wP 0 (fTup (fCons (fLit (.int 3)) (fCons (fLit (.int 4)) fNil)))) (wCons (wP 0 (fTup (fCons (fLit (.int 1)) (fCons (fLit (.int 2)) fNil)))) (wCons (wCall 2 c__law_ratio (wCons (w2 gPlus (wP 0 (fLit (.int 1))) (wDraw 1 cTaken (wCons (wP 0 (fLit (.int 9))) wNil))) (wCons (wP 0 (fLit (.int 10))) wNil))) wNil))))) wNil))) (lSeq (lSet 2 (wTup (wCons (wDraw 1 cPick (wCons (wLst (wCons (wP 0 (fLit (.int 0))) (wCons (wP 0 (fLit (.int 1))) (wCons (wP 0 (fLit (.int 10))) (wCons (wDraw 1 cTaken (wCons (wP 0 (fLit (.int 50))) wNil)) wNil))))) wNil)) (wCons (w2 gPlus (wP 0 (fLit (.int 1))) (wDraw 1 cTaken (wCons (wP 0 (fLit (.int 20))) wNil))) (wCons (w2 gPlus (wP 0 (fLit (.int 1))) (wDraw 1 cTaken (wCons (wP 0 (fLit (.int 20))) wNil))) (wCons (wP 0 (fVar 1)) wNil)))))) (lRetV (wTup (wCons (wP 0 (fVar 2)) (wCons (w1 gTuple (wLc (wRange1 (w2 gPlus (wP 0 (fLit (.int 1))) (wDraw 1 cTaken (wCons (wP 0 (fLit (.int 6))) wNil)))) (bName 3) wYes (wDraw 1 cPick (wCons (wLst (wCons (wP 0 (fLit (.int 0))) (wCons (wP 0 (fLit (.int 1))) (wCons (wP 0 (fLit (.int 10))) (wCons (wDraw 1 cTaken (wCons (wP 0 (fLit (.int 40))) wNil)) wNil))))) wNil)) [3])) wNil))))))
def W__law_house  (K : ((Int × Int × Int × (Int × Int)) × (List Int)) → Prop) : Prop := (∀ r59 : Int, 0 ≤ r59 → r59 < 9 → (∃ v62 : (Int × Int), N__law_ratio ((1 : Int) + r59) (10 : Int) = some v62 ∧ (∀ r64 : (Int × Int), r64 ∈ [((1 : Int), (1 : Int)), ((3 : Int), (4 : Int)), ((1 : Int), (2 : Int)), v62] → (∀ r66 : Int, 0 ≤ r66 → r66 < 50 → (∀ r69 : Int, r69 ∈ [(0 : Int), (1 : Int), (10 : Int), r66] → (∀ r71 : Int, 0 ≤ r71 → r71 < 20 → (∀ r74 : Int, 0 ≤ r74 → r74 < 20 → (∀ r79 : Int, 0 ≤ r79 → r79 < 6 → (-1000000 ≤ ((1 : Int) + r79) ∧ ((1 : Int) + r79) ≤ 1000000 ∧ ∀ l77 : List Int, All2 (fun (i82 : Int) (y : Int) => ∀ R : Int → Prop, ((∀ r83 : Int, 0 ≤ r83 → r83 < 40 → (∀ r86 : Int, r86 ∈ [(0 : Int), (1 : Int), (10 : Int), r83] → R r86))) → R y) (rangeI ((1 : Int) + r79)) l77 → K (((r69, ((1 : Int) + r71), ((1 : Int) + r74), r64), l77)))))))))))
theorem w__law_house  (K : ((Int × Int × Int × (Int × Int)) × (List Int)) → Prop) (Qd : PyData → Prop) (hK : ∀ v, K v → Qd ((e2 (e4 eI eI eI (e2 eI eI)) (eR eI)) v)) (H : W__law_house  K) : runV 4 (F__law_house S__law_ratio) [] Qd := ⟨(e2 eI eI) ((1 : Int), (1 : Int)), fun rw => (t_tup2 (A := (some (1 : Int))) (B := (some (1 : Int))) (t_int (i := 1)) (t_int (i := 1))), ⟨(e2 eI eI) ((3 : Int), (4 : Int)), fun rw => (t_tup2 (A := (some (3 : Int))) (B := (some (4 : Int))) (t_int (i := 3)) (t_int (i := 4))), ⟨(e2 eI eI) ((1 : Int), (2 : Int)), fun rw => (t_tup2 (A := (some (1 : Int))) (B := (some (2 : Int))) (t_int (i := 1)) (t_int (i := 2))), ⟨eI (1 : Int), fun rw => (t_int (i := 1)), ⟨eI (9 : Int), fun rw => (t_int (i := 9)), ⟨rfl, (9 : Int), rfl, (by decide), (by decide), fun r59 g60 g61 => ⟨eI ((1 : Int) + r59), rfl, ⟨eI (10 : Int), fun rw => (t_int (i := 10)), (Exists.elim (H r59 g60 g61) fun v62 h63 => ⟨rfl, (e2 eI eI) v62, Eq.trans (t__law_ratio ((1 : Int) + r59) (10 : Int)) (congrArg (Option.map (e2 eI eI)) h63.1), ⟨Nat.le_of_ble_eq_true rfl, rfl, List.map (e2 eI eI) [((1 : Int), (1 : Int)), ((3 : Int), (4 : Int)), ((1 : Int), (2 : Int)), v62], rfl, Nat.le_of_ble_eq_true rfl, Nat.le_of_ble_eq_true rfl, pick_of (fun r64 g65 => ⟨_, rfl, ⟨eI (0 : Int), fun rw => (t_int (i := 0)), ⟨eI (1 : Int), fun rw => (t_int (i := 1)), ⟨eI (10 : Int), fun rw => (t_int (i := 10)), ⟨eI (50 : Int), fun rw => (t_int (i := 50)), ⟨rfl, (50 : Int), rfl, (by decide), (by decide), fun r66 g67 g68 => ⟨Nat.le_of_ble_eq_true rfl, rfl, List.map eI [(0 : Int), (1 : Int), (10 : Int), r66], rfl, Nat.le_of_ble_eq_true rfl, Nat.le_of_ble_eq_true rfl, pick_of (fun r69 g70 => ⟨eI (1 : Int), fun rw => (t_int (i := 1)), ⟨eI (20 : Int), fun rw => (t_int (i := 20)), ⟨rfl, (20 : Int), rfl, (by decide), (by decide), fun r71 g72 g73 => ⟨eI ((1 : Int) + r71), rfl, ⟨eI (1 : Int), fun rw => (t_int (i := 1)), ⟨eI (20 : Int), fun rw => (t_int (i := 20)), ⟨rfl, (20 : Int), rfl, (by decide), (by decide), fun r74 g75 g76 => ⟨eI ((1 : Int) + r74), rfl, ⟨(e2 eI eI) r64, fun rw => (t_var (i := 1) (e := (e2 eI eI)) (v := r64) rfl), ⟨Nat.le_of_ble_eq_true rfl, ⟨_, rfl, ⟨(e4 eI eI eI (e2 eI eI)) (r69, ((1 : Int) + r71), ((1 : Int) + r74), r64), fun rw => (t_var (i := 2) (e := (e4 eI eI eI (e2 eI eI))) (v := (r69, ((1 : Int) + r71), ((1 : Int) + r74), r64)) rfl), ⟨(noown1 (i := 3) rfl), ⟨eI (1 : Int), fun rw => (t_int (i := 1)), ⟨eI (6 : Int), fun rw => (t_int (i := 6)), ⟨rfl, (6 : Int), rfl, (by decide), (by decide), fun r79 g80 g81 => ⟨eI ((1 : Int) + r79), rfl, ⟨((1 : Int) + r79), rfl, ((((((h63.2 r64 g65) r66 g67 g68) r69 g70) r71 g72 g73) r74 g75 g76) r79 g80 g81).1, ((((((h63.2 r64 g65) r66 g67 g68) r69 g70) r71 g72 g73) r74 g75 g76) r79 g80 g81).2.1, rangeD_len ((((((h63.2 r64 g65) r66 g67 g68) r69 g70) r71 g72 g73) r74 g75 g76) r79 g80 g81).2.1, wlc_range (P := (fun (i82 : Int) (y : Int) => ∀ R : Int → Prop, ((∀ r83 : Int, 0 ≤ r83 → r83 < 40 → (∀ r86 : Int, r86 ∈ [(0 : Int), (1 : Int), (10 : Int), r83] → R r86))) → R y)) (eb := eI) (fun i82 => ⟨[.no, .dat ((e2 eI eI) r64), .dat ((e4 eI eI eI (e2 eI eI)) (r69, ((1 : Int) + r71), ((1 : Int) + r74), r64)), .dat (eI i82)], rfl, fun Q hR => ⟨eI (0 : Int), fun rw => (t_int (i := 0)), ⟨eI (1 : Int), fun rw => (t_int (i := 1)), ⟨eI (10 : Int), fun rw => (t_int (i := 10)), ⟨eI (40 : Int), fun rw => (t_int (i := 40)), ⟨rfl, (40 : Int), rfl, (by decide), (by decide), fun r83 g84 g85 => ⟨Nat.le_of_ble_eq_true rfl, rfl, List.map eI [(0 : Int), (1 : Int), (10 : Int), r83], rfl, Nat.le_of_ble_eq_true rfl, Nat.le_of_ble_eq_true rfl, pick_of (fun r86 g87 => (hR r86 (fun R hh => ((hh r83 g84 g85) r86 g87))))⟩⟩⟩⟩⟩⟩⟩) (fun l77 g78 => ⟨(eR eI) l77, rfl, ⟨Nat.le_of_ble_eq_true rfl, ⟨_, rfl, hK _ (((((((h63.2 r64 g65) r66 g67 g68) r69 g70) r71 g72 g73) r74 g75 g76) r79 g80 g81).2.2 l77 g78)⟩⟩⟩)⟩⟩⟩⟩⟩⟩⟩⟩⟩⟩⟩⟩⟩⟩⟩⟩⟩⟩)⟩⟩⟩⟩⟩⟩⟩)⟩⟩)⟩⟩⟩⟩⟩⟩⟩⟩
abbrev Q2 : Type := Int × Int
def val (q : Q2) : Rat := (q.1 : Rat) / (q.2 : Rat)
structure Sz (n : Nat) (q : Q2) : Prop where
  pos : 0 < q.2
  top : q.1.natAbs < 2 ^ n
  bot : q.2.natAbs < 2 ^ n
  low : Nat.gcd q.1.natAbs q.2.natAbs = 1
theorem Sz.mono {n m : Nat} {q : Q2} (h : Sz n q) (hm : n ≤ m) : Sz m q :=
  ⟨h.pos, Nat.lt_of_lt_of_le h.top (Nat.pow_le_pow_right (by decide) hm), Nat.lt_of_lt_of_le h.bot (Nat.pow_le_pow_right (by decide) hm), h.low⟩
def rt (a b : Int) : Q2 := (a / (Nat.gcd a.natAbs b.natAbs : Nat), b / (Nat.gcd a.natAbs b.natAbs : Nat))
theorem cast_pos {b : Int} (h : 0 < b) : (0 : Rat) < (b : Rat) := by
  have := Rat.intCast_lt_intCast (a := 0) (b := b)
  simpa using this.mpr h
theorem cast_ne {b : Int} (h : 0 < b) : (b : Rat) ≠ 0 := fun e => by
  have := cast_pos h
  rw [e] at this
  exact absurd this (by decide)
theorem gcd_pos {a b : Int} (hb : 0 < b) : 0 < Nat.gcd a.natAbs b.natAbs := Nat.gcd_pos_of_pos_right _ (by omega)
theorem rt_parts (a b : Int) (hb : 0 < b) : ∃ g : Int, 0 < g ∧ a = g * (rt a b).1 ∧ b = g * (rt a b).2 ∧ g = (Nat.gcd a.natAbs b.natAbs : Nat) := by
  have hg := gcd_pos (a := a) hb
  have d1 : ((Nat.gcd a.natAbs b.natAbs : Nat) : Int) ∣ a := Int.ofNat_dvd_left.mpr (Nat.gcd_dvd_left _ _)
  have d2 : ((Nat.gcd a.natAbs b.natAbs : Nat) : Int) ∣ b := Int.ofNat_dvd_left.mpr (Nat.gcd_dvd_right _ _)
  exact ⟨_, by omega, (Int.mul_ediv_cancel' d1).symm, (Int.mul_ediv_cancel' d2).symm, rfl⟩
theorem rt_pos {a b : Int} (hb : 0 < b) : 0 < (rt a b).2 := by
  obtain ⟨g, hg, _, h2, _⟩ := rt_parts a b hb
  by_cases h : 0 < (rt a b).2
  · exact h
  · have := Int.mul_le_mul_of_nonneg_left (show (rt a b).2 ≤ 0 by omega) (Int.le_of_lt hg)
    rw [Int.mul_zero] at this
    omega
theorem rt_val {a b : Int} (hb : 0 < b) : val (rt a b) = (a : Rat) / b := by
  obtain ⟨g, hg, h1, h2, _⟩ := rt_parts a b hb
  have hp := cast_ne (rt_pos (a := a) hb)
  have hg' := cast_ne hg
  have e1 : (a : Rat) = (g : Rat) * ((rt a b).1 : Rat) := by rw [← Rat.intCast_mul, ← h1]
  have e2 : (b : Rat) = (g : Rat) * ((rt a b).2 : Rat) := by rw [← Rat.intCast_mul, ← h2]
  unfold val
  rw [e1, e2]
  grind
theorem rt_low {a b : Int} (hb : 0 < b) : Nat.gcd (rt a b).1.natAbs (rt a b).2.natAbs = 1 := by
  obtain ⟨g, hg, h1, h2, h3⟩ := rt_parts a b hb
  have e1 : a.natAbs = g.natAbs * (rt a b).1.natAbs := by rw [← Int.natAbs_mul, ← h1]
  have e2 : b.natAbs = g.natAbs * (rt a b).2.natAbs := by rw [← Int.natAbs_mul, ← h2]
  have e3 : g.natAbs = Nat.gcd a.natAbs b.natAbs := by rw [h3]; simp
  have : Nat.gcd a.natAbs b.natAbs = g.natAbs * Nat.gcd (rt a b).1.natAbs (rt a b).2.natAbs := by
    rw [← Nat.gcd_mul_left, ← e1, ← e2]
  rw [← e3] at this
  have hgn : 0 < g.natAbs := by omega
  exact Nat.eq_of_mul_eq_mul_left hgn (by omega)
theorem rt_small {a b : Int} (hb : 0 < b) : (rt a b).1.natAbs ≤ a.natAbs ∧ (rt a b).2.natAbs ≤ b.natAbs := by
  obtain ⟨g, hg, h1, h2, h3⟩ := rt_parts a b hb
  have e1 : a.natAbs = g.natAbs * (rt a b).1.natAbs := by rw [← Int.natAbs_mul, ← h1]
  have e2 : b.natAbs = g.natAbs * (rt a b).2.natAbs := by rw [← Int.natAbs_mul, ← h2]
  have hgn : 1 ≤ g.natAbs := by omega
  constructor
  · rw [e1]; exact Nat.le_mul_of_pos_left _ hgn
  · rw [e2]; exact Nat.le_mul_of_pos_left _ hgn
theorem rt_sz {a b : Int} {n : Nat} (hb : 0 < b) (h1 : a.natAbs < 2 ^ n) (h2 : b.natAbs < 2 ^ n) : Sz n (rt a b) :=
  ⟨rt_pos hb, Nat.lt_of_le_of_lt (rt_small hb).1 h1, Nat.lt_of_le_of_lt (rt_small hb).2 h2, rt_low hb⟩
theorem low_unique {p q : Q2} (hp : 0 < p.2) (hq : 0 < q.2) (gp : Nat.gcd p.1.natAbs p.2.natAbs = 1) (gq : Nat.gcd q.1.natAbs q.2.natAbs = 1) (h : p.1 * q.2 = q.1 * p.2) : p = q := by
  have d1 : p.2.natAbs ∣ q.2.natAbs := by
    have : p.2.natAbs ∣ p.1.natAbs * q.2.natAbs := by
      rw [← Int.natAbs_mul, h, Int.natAbs_mul]
      exact Nat.dvd_mul_left _ _
    exact (Nat.Coprime.dvd_of_dvd_mul_left (show Nat.Coprime p.2.natAbs p.1.natAbs by rw [Nat.Coprime, Nat.gcd_comm]; exact gp) this)
  have d2 : q.2.natAbs ∣ p.2.natAbs := by
    have : q.2.natAbs ∣ q.1.natAbs * p.2.natAbs := by
      rw [← Int.natAbs_mul, ← h, Int.natAbs_mul]
      exact Nat.dvd_mul_left _ _
    exact (Nat.Coprime.dvd_of_dvd_mul_left (show Nat.Coprime q.2.natAbs q.1.natAbs by rw [Nat.Coprime, Nat.gcd_comm]; exact gq) this)
  have e : p.2 = q.2 := by
    have := Nat.dvd_antisymm d1 d2
    omega
  refine Prod.ext ?_ e
  rw [e] at h
  exact Int.eq_of_mul_eq_mul_right (by omega) h
theorem val_inj {n m : Nat} {p q : Q2} (hp : Sz n p) (hq : Sz m q) (h : val p = val q) : p = q := by
  refine low_unique hp.pos hq.pos hp.low hq.low ?_
  have a := cast_ne hp.pos
  have b := cast_ne hq.pos
  unfold val at h
  have : ((p.1 * q.2 : Int) : Rat) = ((q.1 * p.2 : Int) : Rat) := by
    rw [Rat.intCast_mul, Rat.intCast_mul]
    grind
  exact Rat.intCast_inj.mp this
theorem val_lt {p q : Q2} (hp : 0 < p.2) (hq : 0 < q.2) : val p < val q ↔ p.1 * q.2 < q.1 * p.2 := by
  have a := cast_pos hp
  have b := cast_pos hq
  unfold val
  rw [Rat.div_lt_iff a, ← Rat.intCast_lt_intCast, Rat.intCast_mul, Rat.intCast_mul]
  have e : (q.1 : Rat) / q.2 * p.2 = (q.1 * p.2 : Rat) / q.2 := by
    have := cast_ne hq
    grind
  rw [e, Rat.lt_div_iff b]
theorem sz_int {i : Int} {n : Nat} (h : i.natAbs < 2 ^ n) (hn : 0 < n) : Sz n (i, 1) := ⟨by show (0:Int) < 1; decide, h, by
  show 1 < 2 ^ n
  exact Nat.one_lt_two_pow (by omega), by simp⟩
theorem val_int (i : Int) : val (i, 1) = (i : Rat) := by
  unfold val
  show (i : Rat) / ((1 : Int) : Rat) = i
  have : ((1 : Int) : Rat) = 1 := rfl
  rw [this]
  grind
theorem log2_lt {a : Int} {k : Nat} (h : a.natAbs < 2 ^ k) (hk : 0 < k) : a.natAbs.log2 < k := by
  by_cases h0 : a.natAbs = 0
  · rw [h0]; simpa using hk
  · exact (Nat.log2_lt h0).mpr h
theorem mul_bits {a b : Int} {n m : Nat} (ha : a.natAbs < 2 ^ n) (hb : b.natAbs < 2 ^ m) : (a * b).natAbs < 2 ^ (n + m) := by
  rw [Int.natAbs_mul, Nat.pow_add]
  exact Nat.mul_lt_mul'' ha hb
theorem mul_ok {x y : Int} {n m : Nat} (hx : x.natAbs < 2 ^ n) (hy : y.natAbs < 2 ^ m) (h : n + m ≤ 900000) : mulO x y = some (x * y) := by
  have h1 := log2_lt (k := n + 1) (Nat.lt_of_lt_of_le hx (Nat.pow_le_pow_right (by decide) (by omega))) (by omega)
  have h2 := log2_lt (k := m + 1) (Nat.lt_of_lt_of_le hy (Nat.pow_le_pow_right (by decide) (by omega))) (by omega)
  unfold mulO cMul
  rw [if_pos (decide_eq_true (by omega))]
theorem div_ok {x y : Int} {m : Nat} (h0 : 0 < y) (hy : y.natAbs < 2 ^ m) (h : m ≤ 8990) : divO x y = some (x / y) := by
  have h2 := log2_lt (k := m + 1) (Nat.lt_of_lt_of_le hy (Nat.pow_le_pow_right (by decide) (by omega))) (by omega)
  unfold divO cDiv
  rw [if_pos (decide_eq_true ⟨h0, by omega⟩)]
theorem gcd_bits {a b : Int} {n : Nat} (hb : 0 < b) (h : b.natAbs < 2 ^ n) : ((Nat.gcd a.natAbs b.natAbs : Nat) : Int).natAbs < 2 ^ n := by
  rw [Int.natAbs_natCast]
  exact Nat.lt_of_le_of_lt (Nat.le_of_dvd (by omega) (Nat.gcd_dvd_right _ _)) h
theorem ratio_ok {a b : Int} {n : Nat} (hb : 0 < b) (h : b.natAbs < 2 ^ n) (hn : n ≤ 8990) : N_ratio a b = some (rt a b) := by
  have hg := gcd_pos (a := a) hb
  unfold N_ratio
  rw [Option.bind_some, div_ok (by omega) (gcd_bits hb h) hn, div_ok (by omega) (gcd_bits hb h) hn]
  rfl
theorem gcd_step (a b : Nat) : Nat.gcd a b = Nat.gcd b (a % b) := by
  rw [Nat.gcd_comm a b, Nat.gcd_rec b a, Nat.gcd_comm]
theorem euc_go {T : Int × Int → Option Bool} {Bd : Int × Int → Option (Int × Int)} (hT : ∀ s, T s = some (!decide (s.2 = 0))) (hB : ∀ i j : Nat, 0 < j → Bd ((i : Int), (j : Int)) = some ((j : Int), ((i % j : Nat) : Int))) :
    ∀ (k i j n : Nat), j < 2 ^ k → 2 * k + 1 ≤ n → whileO T Bd n ((i : Int), (j : Int)) = some (((Nat.gcd i j : Nat) : Int), 0) := by
  have stop : ∀ (i n : Nat), 1 ≤ n → whileO T Bd n ((i : Int), ((0 : Nat) : Int)) = some (((Nat.gcd i 0 : Nat) : Int), 0) := by
    intro i n hn
    obtain ⟨n, rfl⟩ : ∃ m, n = m + 1 := ⟨n - 1, by omega⟩
    unfold whileO
    rw [hT]
    simp
  have step : ∀ (i j n : Nat), 0 < j → whileO T Bd (n + 1) ((i : Int), (j : Int)) = whileO T Bd n ((j : Int), ((i % j : Nat) : Int)) := by
    intro i j n hj
    have ew : whileO T Bd (n + 1) ((i : Int), (j : Int)) = (T ((i : Int), (j : Int))).bind fun k => match k with
      | true => (Bd ((i : Int), (j : Int))).bind (whileO T Bd n)
      | false => some ((i : Int), (j : Int)) := rfl
    rw [ew, hT, hB i j hj]
    have : (!decide (((i : Int), (j : Int)).2 = 0)) = true := by simp; omega
    rw [this]
    rfl
  intro k
  induction k with
  | zero =>
    intro i j n hj hn
    have : j = 0 := by simp at hj; omega
    subst this
    exact stop i n (by omega)
  | succ k ih =>
    intro i j n hj hn
    by_cases h0 : j = 0
    · subst h0; exact stop i n (by omega)
    · obtain ⟨n, rfl⟩ : ∃ m, n = m + 1 := ⟨n - 1, by omega⟩
      rw [step i j n (by omega)]
      by_cases h1 : i % j = 0
      · rw [h1, stop j n (by omega)]
        rw [gcd_step i j, h1]
      · obtain ⟨n, rfl⟩ : ∃ m, n = m + 1 := ⟨n - 1, by omega⟩
        rw [step j (i % j) n (by omega)]
        have hr : i % j < j := Nat.mod_lt _ (by omega)
        have hs : j % (i % j) < 2 ^ k := by
          have h2 : j % (i % j) < i % j := Nat.mod_lt _ (by omega)
          have h3 : j % (i % j) + (i % j) ≤ j := by
            have := Nat.div_add_mod j (i % j)
            have h4 : 1 ≤ j / (i % j) := (Nat.le_div_iff_mul_le (by omega)).mpr (by omega)
            have h5 := Nat.mul_le_mul_left (i % j) h4
            omega
          rw [Nat.pow_succ] at hj
          omega
        rw [ih (i % j) (j % (i % j)) n hs (by omega)]
        rw [gcd_step i j, gcd_step j (i % j)]
theorem abs1_eq (a : Int) : abs1 a = (a.natAbs : Int) := by
  unfold abs1
  split <;> omega
theorem law_ratio_ok {a b : Int} {n : Nat} (hb : 0 < b) (h : b.natAbs < 2 ^ n) (hn : n ≤ 8990) : N__law_ratio a b = some (rt a b) := by
  unfold N__law_ratio
  rw [Option.bind_some, Option.bind_some, abs1_eq, abs1_eq]
  have e := euc_go (T := fun s5 : Int × Int => (some (!decide (s5.2 = (0 : Int))))) (Bd := fun s5 : Int × Int => ((some s5.2).bind fun one_12 => (modO s5.1 s5.2).bind fun other_13 => some (one_12, other_13))) (fun s => rfl) (fun i j hj => by
    unfold modO cMod
    rw [if_pos (decide_eq_true (by show ((j : Nat) : Int) ≠ 0; omega))]
    show some (((j : Nat) : Int), ((i : Nat) : Int).fmod ((j : Nat) : Int)) = _
    rw [Int.fmod_eq_emod_of_nonneg _ (by omega)]
    rfl) n a.natAbs b.natAbs FUEL h (by unfold FUEL; omega)
  have e2 : ∀ (f : Int × Int → Option (Int × Int)), ((whileO (fun s5 : Int × Int => (some (!decide (s5.2 = (0 : Int))))) (fun s5 : Int × Int => ((some s5.2).bind fun one_12 => (modO s5.1 s5.2).bind fun other_13 => some (one_12, other_13))) FUEL ((a.natAbs : Int), (b.natAbs : Int))).bind f) = f (((Nat.gcd a.natAbs b.natAbs : Nat) : Int), 0) := fun f => by rw [e]; rfl
  refine (e2 _).trans ?_
  have hg := gcd_pos (a := a) hb
  rw [decide_eq_true hb]
  show (divO a _).bind _ = _
  rw [div_ok (by omega) (gcd_bits hb h) hn, div_ok (by omega) (gcd_bits hb h) hn]
  rfl
theorem cross_bits {p q : Q2} {n m : Nat} (hp : Sz n p) (hq : Sz m q) : (p.1 * q.2 + q.1 * p.2).natAbs < 2 ^ (n + m + 1) ∧ (p.2 * q.2).natAbs < 2 ^ (n + m) ∧ 0 < p.2 * q.2 := by
  refine ⟨?_, mul_bits hp.bot hq.bot, Int.mul_pos hp.pos hq.pos⟩
  have h1 := mul_bits hp.top hq.bot
  have h2 := mul_bits hq.top hp.bot
  rw [Nat.add_comm m n] at h2
  have h3 := Int.natAbs_add_le (p.1 * q.2) (q.1 * p.2)
  rw [Nat.pow_succ]
  omega
theorem pow_up {a : Int} {n m : Nat} (h : a.natAbs < 2 ^ n) (hm : n ≤ m) : a.natAbs < 2 ^ m := Nat.lt_of_lt_of_le h (Nat.pow_le_pow_right (by decide) hm)
theorem plus_val {p q : Q2} (hp : 0 < p.2) (hq : 0 < q.2) : ((p.1 * q.2 + q.1 * p.2 : Int) : Rat) / ((p.2 * q.2 : Int) : Rat) = val p + val q := by
  have a := cast_ne hp
  have b := cast_ne hq
  unfold val
  rw [Rat.intCast_add, Rat.intCast_mul, Rat.intCast_mul, Rat.intCast_mul]
  grind
theorem law_plus_ok {p q : Q2} {n m : Nat} (hp : Sz n p) (hq : Sz m q) (h : n + m + 1 ≤ 8990) : ∃ r, N__law_plus p q = some r ∧ val r = val p + val q ∧ Sz (n + m + 1) r := by
  obtain ⟨h1, h2, h3⟩ := cross_bits hp hq
  refine ⟨rt (p.1 * q.2 + q.1 * p.2) (p.2 * q.2), ?_, (rt_val h3).trans (plus_val hp.pos hq.pos), rt_sz h3 h1 (pow_up h2 (by omega))⟩
  unfold N__law_plus
  rw [mul_ok hp.top hq.bot (by omega), mul_ok hq.top hp.bot (by omega), mul_ok hp.bot hq.bot (by omega)]
  exact law_ratio_ok h3 h2 (by omega)
theorem law_less_ok {p q : Q2} {n m : Nat} (hp : Sz n p) (hq : Sz m q) (h : n + m ≤ 900000) : N__law_less p q = some (decide (val p < val q)) := by
  unfold N__law_less
  rw [mul_ok hp.top hq.bot (by omega), mul_ok hq.top hp.bot (by omega)]
  simp only [Option.bind_some]
  rw [decide_eq_decide.mpr (val_lt hp.pos hq.pos)]
theorem is_less_ok {p q : Q2} {n m : Nat} (hp : Sz n p) (hq : Sz m q) (h : n + m ≤ 900000) : N_is_less p q = some (decide (val p < val q)) := by
  unfold N_is_less
  rw [mul_ok hp.top hq.bot (by omega), mul_ok hq.top hp.bot (by omega)]
  simp only [Option.bind_some]
  rw [decide_eq_decide.mpr (val_lt hp.pos hq.pos)]
abbrev HouseT : Type := Int × Int × Int × (Int × Int)
structure HouseIn (h : HouseT) (ps : List Int) : Prop where
  c0 : 0 ≤ h.1
  c1 : h.1 ≤ 1000
  u0 : 1 ≤ h.2.1
  u1 : h.2.1 ≤ 1000
  v0 : 1 ≤ h.2.2.1
  v1 : h.2.2.1 ≤ 1000
  s0 : 0 < h.2.2.2.1
  s1 : h.2.2.2.1 ≤ h.2.2.2.2
  s2 : h.2.2.2.2 ≤ 100
  sz : Sz 7 h.2.2.2
  p : ∀ p ∈ ps, 0 ≤ p ∧ p ≤ 1000
  l0 : 0 < ps.length
  l1 : ps.length ≤ 6
structure HouseD (h : HouseT) (ps : List Int) : Prop where
  w : HouseIn h ps
  c : h.1 ≤ 49
  u : h.2.1 ≤ 20
  v : h.2.2.1 ≤ 20
  p : ∀ p ∈ ps, p ≤ 39
theorem tenthsH {r : Int} (h0 : 1 ≤ r) (h1 : r ≤ 9) : N__law_ratio r (10 : Int) = some (rt r 10) ∧ 0 < (rt r 10).1 ∧ (rt r 10).1 ≤ (rt r 10).2 ∧ (rt r 10).2 ≤ 100 ∧ Sz 7 (rt r 10) := by
  refine ⟨law_ratio_ok (n := 4) (by decide) (by decide) (by decide), ?_⟩
  have key : r = 1 ∨ r = 2 ∨ r = 3 ∨ r = 4 ∨ r = 5 ∨ r = 6 ∨ r = 7 ∨ r = 8 ∨ r = 9 := by omega
  rcases key with rfl | rfl | rfl | rfl | rfl | rfl | rfl | rfl | rfl <;> exact ⟨by decide, by decide, by decide, rt_sz (by decide) (by decide) (by decide)⟩
theorem house_in {K : (HouseT × List Int) → Prop} (h : ∀ d ps, HouseD d ps → K (d, ps)) : W__law_house K := by
  intro r r0 r1
  obtain ⟨t1, t2, t3, t4, t5⟩ := tenthsH (r := 1 + r) (by omega) (by omega)
  refine ⟨_, t1, fun s hs c0 c00 c01 C hC u u0 u1 v v0 v1 m m0 m1 => ⟨by omega, by omega, fun l hl => h _ _ ?_⟩⟩
  have S : 0 < s.1 ∧ s.1 ≤ s.2 ∧ s.2 ≤ 100 ∧ Sz 7 s := by
    simp only [List.mem_cons, List.not_mem_nil, or_false] at hs
    rcases hs with rfl | rfl | rfl | rfl
    · exact ⟨by decide, by decide, by decide, by decide, by decide, by decide, by decide⟩
    · exact ⟨by decide, by decide, by decide, by decide, by decide, by decide, by decide⟩
    · exact ⟨by decide, by decide, by decide, by decide, by decide, by decide, by decide⟩
    · exact ⟨t2, t3, t4, t5⟩
  have C0 : 0 ≤ C ∧ C ≤ 49 := by
    simp only [List.mem_cons, List.not_mem_nil, or_false] at hC
    rcases hC with rfl | rfl | rfl | rfl <;> omega
  have ll := hl.len
  rw [rangeI_len] at ll
  have pr : ∀ y ∈ l, 0 ≤ y ∧ y ≤ 39 := hl.all (R := fun y => 0 ≤ y ∧ y ≤ 39) fun a b hab => hab (fun y => 0 ≤ y ∧ y ≤ 39) fun r r0 r1 y hy => by
    simp only [List.mem_cons, List.not_mem_nil, or_false] at hy
    rcases hy with rfl | rfl | rfl | rfl <;> omega
  exact ⟨⟨C0.1, by show C ≤ 1000; omega, by show 1 ≤ 1 + u; omega, by show 1 + u ≤ 1000; omega, by show 1 ≤ 1 + v; omega, by show 1 + v ≤ 1000; omega, S.1, S.2.1, S.2.2.1, S.2.2.2, fun p hp => by have := pr p hp; omega, by omega, by omega⟩, C0.2, by show 1 + u ≤ 20; omega, by show 1 + v ≤ 20; omega, fun p hp => (pr p hp).2⟩
def cHouse : List PyData → (PyData → Prop) → Prop := fun ds Q => ds = [] ∧ ∀ d ps, HouseD d ps → Q (e2 (e4 eI eI eI (e2 eI eI)) (eR eI) (d, ps))
theorem house_ok : ∀ ds Q, cHouse ds Q → runV 4 (F__law_house S__law_ratio) ds Q := by
  rintro ds Q ⟨rfl, h⟩
  exact w__law_house (fun v => Q ((e2 (e4 eI eI eI (e2 eI eI)) (eR eI)) v)) Q (fun v h => h) (house_in h)
end Ty
namespace DN
open PySem PySem.Spec PyProof.Rows L2
end DN
namespace Ty
open PySem PySem.Spec PyProof.Rows L2 DN
end Ty
namespace DN
open PySem PySem.Spec PyProof.Rows L2
end DN
namespace Ty
open PySem PySem.Spec PyProof.Rows L2 DN
end Ty
namespace L94
open PySem PySem.Spec PyProof.Rows L2 DN Ty
def F_row : En → Option PyData := (fLst (fCons (fVar 0) (fCons (fLit (.int 0)) (fCons (fLit (.int 4494)) (fCons (fLit (.int 0)) fNil)))))
def F_tail (c_pump_profit c__law_less c_pump_plan c_shows_pumping c__law_sum : List PyData → Option PyData) : En → Option Fl := (sSeq (sSet 11 (fPlus (fCut (fVar 3) fNoPart (fPart (fNeg (fLit (.int 1))))) (fTup (fCons (fMin2 (fLit (.int 1000)) (fPlus (fIx (fVar 3) (fNeg (fLit (.int 1)))) (fLit (.int 5)))) fNil)))) (sSeq (sIf (fT (fCall 2 c__law_less (fCons (fCall 2 c_pump_profit (fCons (fVar 2) (fCons (fVar 11) fNil))) (fCons (fVar 4) fNil)))) (sRet (fLit (.bool false))) sNil) (sSeq (sSet 12 (fCall 2 c_pump_plan (fCons (fVar 2) (fCons (fVar 3) fNil)))) (sSeq (sIf (kOr (fT (fNotB (fCall 3 c_shows_pumping (fCons (fVar 2) (fCons (fVar 3) (fCons (fVar 12) fNil)))) (fLit (.bool true)))) (fT (fCall 2 c__law_less (fCons (fCall 1 c__law_sum (fCons (fList (fIx (fVar 12) (fLit (.int 0)))) fNil)) (fCons (fCall 1 c__law_sum (fCons (fList (fIx (fVar 12) (fLit (.int 1)))) fNil)) fNil))))) (sRet (fLit (.bool false))) sNil) (sSeq (sSet 13 (fTimes (fTup (fCons (fIx (fVar 3) (fLit (.int 0))) fNil)) (fLen (fVar 3)))) (sRet (fAnd (fEq (fCall 2 c_pump_profit (fCons (fVar 2) (fCons (fVar 13) fNil))) (fTup (fCons (fLit (.int 0)) (fCons (fLit (.int 1)) fNil)))) (fNot (fCall 2 c__law_less (fCons (fVar 4) (fCons (fTup (fCons (fLit (.int 0)) (fCons (fLit (.int 1)) fNil))) fNil)))))))))))
def F_law (c_pump_profit c__law_less c_pump_plan c_shows_pumping c__law_sum : List PyData → Option PyData) : LF := (lSeq (lBind (bTup [2, 3]) (wDraw 0 cHouse wNil)) (lSeq (lSet 4 (wP 1 (fCall 2 c_pump_profit (fCons (fVar 2) (fCons (fVar 3) fNil))))) (lSeq (lBind (bTup [5, 6, 7, 8]) (wP 1 (fVar 2))) (lSeq (lSet 9 (wP 1 (fLst (fCons (fTup (fCons (fMin2 (fLit (.int 1000)) (fPlus (fVar 5) (fLit (.int 3)))) (fCons (fVar 6) (fCons (fVar 7) (fCons (fVar 8) fNil))))) (fCons (fTup (fCons (fVar 5) (fCons (fPlus (fVar 6) (fLit (.int 1))) (fCons (fVar 7) (fCons (fVar 8) fNil))))) (fCons (fTup (fCons (fVar 5) (fCons (fVar 6) (fCons (fPlus (fVar 7) (fLit (.int 1))) (fCons (fVar 8) fNil))))) (fCons (fTup (fCons (fVar 5) (fCons (fVar 6) (fCons (fVar 7) (fCons (fTup (fCons (fLit (.int 1)) (fCons (fLit (.int 1)) fNil))) fNil))))) fNil))))))) (lSeq (lFor (wIt 1 (iSeq (fVar 9))) (bName 10) (lIf (wT 1 (fT (fCall 2 c__law_less (fCons (fCall 2 c_pump_profit (fCons (fVar 10) (fCons (fVar 3) fNil))) (fCons (fVar 4) fNil))))) (lRetV (wP 1 (fLit (.bool false)))) lNil)) (lSeq (lIf (wT 1 (fT (fNe (fCall 2 c_pump_profit (fCons (fTup (fCons (fLit (.int 0)) (fCons (fVar 6) (fCons (fVar 7) (fCons (fVar 8) fNil))))) (fCons (fVar 3) fNil))) (fTup (fCons (fLit (.int 0)) (fCons (fLit (.int 1)) fNil)))))) (lRetV (wP 1 (fLit (.bool false)))) lNil) (lSeq (lIf (wAnd (wT 1 (fT (fLt (fLen (fVar 3)) (fLit (.int 6))))) (wTB (wCall 2 c__law_less (wCons (wCall 2 c_pump_profit (wCons (wP 1 (fVar 2)) (wCons (w2 gPlus (wP 1 (fVar 3)) (wTup (wCons (wDraw 1 cTaken (wCons (wP 1 (fLit (.int 60))) wNil)) wNil))) wNil))) (wCons (wP 1 (fVar 4)) wNil))))) (lRetV (wP 1 (fLit (.bool false)))) lNil) (lEnd 1 (F_tail c_pump_profit c__law_less c_pump_plan c_shows_pumping c__law_sum)))))))))
noncomputable def N_tail (house' : (Int × Int × Int × (Int × Int))) (prices' : (List Int)) (most' : (Int × Int)) : Option Bool := (((some (cutT prices' none (some (-(1 : Int))))).bind fun x71 => (((some (1000 : Int)).bind fun x67 => ((atI prices' (-(1 : Int))).bind fun x63 => (some (5 : Int)).bind fun y64 => some (x63 + y64)).bind fun y68 => some (min2 x67 y68)).bind fun x70 => some ([x70])).bind fun y72 => (catO x71 y72)).bind fun more_57 => (iteO ((N_pump_profit house' more_57).bind fun a73 => (some most').bind fun a74 => N__law_less a73 a74) (some false) ((N_pump_plan house' prices').bind fun plan_75 => (iteO (orO ((N_shows_pumping house' prices' plan_75).bind fun x76 => (some true).bind fun y77 => some (!decide (x76 = y77))) ((N__law_sum plan_75.1).bind fun a82 => (N__law_sum plan_75.2).bind fun a83 => N__law_less a82 a83)) (some false) ((((atI prices' (0 : Int)).bind fun x89 => some ([x89])).bind fun x90 => (some ((prices').length : Int)).bind fun y91 => (repO x90 y91)).bind fun same_84 => (andO ((N_pump_profit house' same_84).bind fun x92 => (some ((0 : Int), (1 : Int))).bind fun y93 => some (decide (x92 = y93))) ((N__law_less most' ((0 : Int), (1 : Int))).bind fun b94 => some (!b94))))))))
theorem t_tail (ns : List Int) (rw : List PyData) {zs5 : Slot} {zs6 : Slot} {zs7 : Slot} {zs8 : Slot} {zs9 : Slot} {zs10 : Slot} (house' : (Int × Int × Int × (Int × Int))) (prices' : (List Int)) (most' : (Int × Int)) : F_tail S_pump_profit S__law_less S_pump_plan S_shows_pumping S__law_sum [(.dat (.list (List.map PyData.int ns))), (.own rw), .dat ((e4 eI eI eI (e2 eI eI)) house'), .dat ((eR eI) prices'), .dat ((e2 eI eI) most'), zs5, zs6, zs7, zs8, zs9, zs10, .no, .no, .no] = rtO eB (N_tail house' prices' most') := (r_seq_set (i := 11) (A := ((some (cutT prices' none (some (-(1 : Int))))).bind fun x71 => (((some (1000 : Int)).bind fun x67 => ((atI prices' (-(1 : Int))).bind fun x63 => (some (5 : Int)).bind fun y64 => some (x63 + y64)).bind fun y68 => some (min2 x67 y68)).bind fun x70 => some ([x70])).bind fun y72 => (catO x71 y72))) (t_f2 (A := (some (cutT prices' none (some (-(1 : Int)))))) (B := (((some (1000 : Int)).bind fun x67 => ((atI prices' (-(1 : Int))).bind fun x63 => (some (5 : Int)).bind fun y64 => some (x63 + y64)).bind fun y68 => some (min2 x67 y68)).bind fun x70 => some ([x70]))) (h := (fun x71 y72 => (catO x71 y72))) g_addR (t_cut (A := (some prices')) (L := (some none)) (H := (some (some (-(1 : Int))))) g_cutR (t_var (i := 3) (e := (eR eI)) (v := prices') rfl) t_nopart (t_part (o := (some (-(1 : Int)))) (t_f1 (A := (some (1 : Int))) (h := (fun x58 => some (-x58))) g_neg (t_int (i := 1))))) (t_as (A := ((some (1000 : Int)).bind fun x67 => ((atI prices' (-(1 : Int))).bind fun x63 => (some (5 : Int)).bind fun y64 => some (x63 + y64)).bind fun y68 => some (min2 x67 y68))) (u := fun x70 => [x70]) (ea := (e1 eI)) (eb := (eR eI)) (fun _ => rfl) (t_tup1 (A := ((some (1000 : Int)).bind fun x67 => ((atI prices' (-(1 : Int))).bind fun x63 => (some (5 : Int)).bind fun y64 => some (x63 + y64)).bind fun y68 => some (min2 x67 y68))) (t_f2 (A := (some (1000 : Int))) (B := ((atI prices' (-(1 : Int))).bind fun x63 => (some (5 : Int)).bind fun y64 => some (x63 + y64))) (h := (fun x67 y68 => some (min2 x67 y68))) g_min2 (t_int (i := 1000)) (t_f2 (A := (atI prices' (-(1 : Int)))) (B := (some (5 : Int))) (h := (fun x63 y64 => some (x63 + y64))) g_add (t_f2 (A := (some prices')) (B := (some (-(1 : Int)))) (h := (fun x61 y62 => (atI x61 y62))) g_ixR (t_var (i := 3) (e := (eR eI)) (v := prices') rfl) (t_f1 (A := (some (1 : Int))) (h := (fun x60 => some (-x60))) g_neg (t_int (i := 1)))) (t_int (i := 5))))))) (lt_of rfl) (fun more_57 => (r_seq_ifret (P := ((N_pump_profit house' more_57).bind fun a73 => (some most').bind fun a74 => N__law_less a73 a74)) (A := (some false)) (t_T (P := ((N_pump_profit house' more_57).bind fun a73 => (some most').bind fun a74 => N__law_less a73 a74)) (t_call2 (A := (N_pump_profit house' more_57)) (B := (some most')) (N := N__law_less) t__law_less (t_call2 (A := (some house')) (B := (some more_57)) (N := N_pump_profit) t_pump_profit (t_var (i := 2) (e := (e4 eI eI eI (e2 eI eI))) (v := house') rfl) (t_var (i := 11) (e := (eR eI)) (v := more_57) rfl)) (t_var (i := 4) (e := (e2 eI eI)) (v := most') rfl))) (r_ret (A := (some false)) (t_bl (b := false))) (r_seq_set (i := 12) (A := (N_pump_plan house' prices')) (t_call2 (A := (some house')) (B := (some prices')) (N := N_pump_plan) t_pump_plan (t_var (i := 2) (e := (e4 eI eI eI (e2 eI eI))) (v := house') rfl) (t_var (i := 3) (e := (eR eI)) (v := prices') rfl)) (lt_of rfl) (fun plan_75 => (r_seq_ifret (P := (orO ((N_shows_pumping house' prices' plan_75).bind fun x76 => (some true).bind fun y77 => some (!decide (x76 = y77))) ((N__law_sum plan_75.1).bind fun a82 => (N__law_sum plan_75.2).bind fun a83 => N__law_less a82 a83))) (A := (some false)) (t_kor (P := ((N_shows_pumping house' prices' plan_75).bind fun x76 => (some true).bind fun y77 => some (!decide (x76 = y77)))) (Q := ((N__law_sum plan_75.1).bind fun a82 => (N__law_sum plan_75.2).bind fun a83 => N__law_less a82 a83)) (t_T (P := ((N_shows_pumping house' prices' plan_75).bind fun x76 => (some true).bind fun y77 => some (!decide (x76 = y77)))) (t_f2 (A := (N_shows_pumping house' prices' plan_75)) (B := (some true)) (h := (fun x76 y77 => some (!decide (x76 = y77)))) (ec := eB) (fun _ _ => rfl) (t_call3 (A := (some house')) (B := (some prices')) (C := (some plan_75)) (N := N_shows_pumping) t_shows_pumping (t_var (i := 2) (e := (e4 eI eI eI (e2 eI eI))) (v := house') rfl) (t_var (i := 3) (e := (eR eI)) (v := prices') rfl) (t_var (i := 12) (e := (e2 (eR (e2 eI eI)) (eR (e2 eI eI)))) (v := plan_75) rfl)) (t_bl (b := true)))) (t_T (P := ((N__law_sum plan_75.1).bind fun a82 => (N__law_sum plan_75.2).bind fun a83 => N__law_less a82 a83)) (t_call2 (A := (N__law_sum plan_75.1)) (B := (N__law_sum plan_75.2)) (N := N__law_less) t__law_less (t_call1 (A := (some plan_75.1)) (N := N__law_sum) t__law_sum (t_f1 (A := (some plan_75.1)) (h := (fun x79 => some x79)) (fun _ => rfl) (t_ixc (A := (some plan_75)) (k := 0) (pr := fun x78 => x78.1) (eb := (eR (e2 eI eI))) (fun _ => rfl) (t_var (i := 12) (e := (e2 (eR (e2 eI eI)) (eR (e2 eI eI)))) (v := plan_75) rfl)))) (t_call1 (A := (some plan_75.2)) (N := N__law_sum) t__law_sum (t_f1 (A := (some plan_75.2)) (h := (fun x81 => some x81)) (fun _ => rfl) (t_ixc (A := (some plan_75)) (k := 1) (pr := fun x80 => x80.2) (eb := (eR (e2 eI eI))) (fun _ => rfl) (t_var (i := 12) (e := (e2 (eR (e2 eI eI)) (eR (e2 eI eI)))) (v := plan_75) rfl))))))) (r_ret (A := (some false)) (t_bl (b := false))) (r_seq_set (i := 13) (A := (((atI prices' (0 : Int)).bind fun x89 => some ([x89])).bind fun x90 => (some ((prices').length : Int)).bind fun y91 => (repO x90 y91))) (t_f2 (A := ((atI prices' (0 : Int)).bind fun x89 => some ([x89]))) (B := (some ((prices').length : Int))) (h := (fun x90 y91 => (repO x90 y91))) g_repR (t_as (A := (atI prices' (0 : Int))) (u := fun x89 => [x89]) (ea := (e1 eI)) (eb := (eR eI)) (fun _ => rfl) (t_tup1 (A := (atI prices' (0 : Int))) (t_f2 (A := (some prices')) (B := (some (0 : Int))) (h := (fun x85 y86 => (atI x85 y86))) g_ixR (t_var (i := 3) (e := (eR eI)) (v := prices') rfl) (t_int (i := 0))))) (t_f1 (A := (some prices')) (h := (fun x88 => some ((x88).length : Int))) g_lenR (t_var (i := 3) (e := (eR eI)) (v := prices') rfl))) (lt_of rfl) (fun same_84 => (r_ret (A := (andO ((N_pump_profit house' same_84).bind fun x92 => (some ((0 : Int), (1 : Int))).bind fun y93 => some (decide (x92 = y93))) ((N__law_less most' ((0 : Int), (1 : Int))).bind fun b94 => some (!b94)))) (t_and (P := ((N_pump_profit house' same_84).bind fun x92 => (some ((0 : Int), (1 : Int))).bind fun y93 => some (decide (x92 = y93)))) (Q := ((N__law_less most' ((0 : Int), (1 : Int))).bind fun b94 => some (!b94))) (t_f2 (A := (N_pump_profit house' same_84)) (B := (some ((0 : Int), (1 : Int)))) (h := (fun x92 y93 => some (decide (x92 = y93)))) (g_eq (enc_2 enc_I enc_I) rfl) (t_call2 (A := (some house')) (B := (some same_84)) (N := N_pump_profit) t_pump_profit (t_var (i := 2) (e := (e4 eI eI eI (e2 eI eI))) (v := house') rfl) (t_var (i := 13) (e := (eR eI)) (v := same_84) rfl)) (t_tup2 (A := (some (0 : Int))) (B := (some (1 : Int))) (t_int (i := 0)) (t_int (i := 1)))) (t_not (P := (N__law_less most' ((0 : Int), (1 : Int)))) (t_call2 (A := (some most')) (B := (some ((0 : Int), (1 : Int)))) (N := N__law_less) t__law_less (t_var (i := 4) (e := (e2 eI eI)) (v := most') rfl) (t_tup2 (A := (some (0 : Int))) (B := (some (1 : Int))) (t_int (i := 0)) (t_int (i := 1)))))))))))))))
def Law : Prop := (∀ (d1 : HouseT) (o2 : List Int), HouseD d1 o2 → (∃ v4 : (Int × Int), (N_pump_profit (d1, o2).1 (d1, o2).2) = some v4 ∧ (∃ v25 : List (Int × Int × Int × (Int × Int)), (some [((min2 (1000 : Int) ((d1, o2).1.1 + (3 : Int))), (d1, o2).1.2.1, (d1, o2).1.2.2.1, (d1, o2).1.2.2.2), ((d1, o2).1.1, ((d1, o2).1.2.1 + (1 : Int)), (d1, o2).1.2.2.1, (d1, o2).1.2.2.2), ((d1, o2).1.1, (d1, o2).1.2.1, ((d1, o2).1.2.2.1 + (1 : Int)), (d1, o2).1.2.2.2), ((d1, o2).1.1, (d1, o2).1.2.1, (d1, o2).1.2.2.1, ((1 : Int), (1 : Int)))]) = some v25 ∧ wfor (fun (i18 : (Int × Int × Int × (Int × Int))) (s16 : Unit) (K : Unit → Prop) => (∃ b21 : Bool, ((N_pump_profit i18 (d1, o2).2).bind fun a19 => (some v4).bind fun a20 => N__law_less a19 a20) = some b21 ∧ (b21 = true → (false = true)) ∧ (b21 = false → K ()))) v25 () (fun s27 => (∃ b32 : Bool, ((N_pump_profit ((0 : Int), (d1, o2).1.2.1, (d1, o2).1.2.2.1, (d1, o2).1.2.2.2) (d1, o2).2).bind fun x30 => (some ((0 : Int), (1 : Int))).bind fun y31 => some (!decide (x30 = y31))) = some b32 ∧ (b32 = true → (false = true)) ∧ (b32 = false → (∃ b41 : Bool, (some (decide ((((d1, o2).2).length : Int) < (6 : Int)))) = some b41 ∧ (b41 = true → (∀ r45 : Int, 0 ≤ r45 → r45 < 60 → (∃ v48 : (List Int), catO (d1, o2).2 [r45] = some v48 ∧ (∃ v50 : (Int × Int), N_pump_profit (d1, o2).1 v48 = some v50 ∧ (∃ v52 : Bool, N__law_less v50 v4 = some v52 ∧ ((v52 = true → (false = true)) ∧ (v52 = false → (N_tail ((d1, o2).1) ((d1, o2).2) v4 = some true)))))))) ∧ (b41 = false → (N_tail ((d1, o2).1) ((d1, o2).2) v4 = some true)))))))))
theorem law_of (H : Law) : ∀ ns : List Int, ns.length ≤ 63 → ∃ rw, RowOk rw ∧ F_row (lawEn 14 ns) = some (.list rw) ∧ ∀ en', (∃ rw', en' = (lawEn 14 ns).set 1 (.own rw')) → F_law S_pump_profit S__law_less S_pump_plan S_shows_pumping S__law_sum en' fun r => r = .rt (.bool true) := by
  intro ns hns
  refine ⟨_, rowOk (ns := ns) (i := 0) (m := 4494) (c := 0) hns (by decide) (by decide) (by decide) (by decide), rfl, ?_⟩
  rintro en' ⟨rw, rfl⟩
  exact ⟨rfl, rfl, fun d1 o2 g3 => ⟨_, rfl, (Exists.elim (H d1 o2 g3) fun v4 h5 => ⟨(e2 eI eI) v4, fun rw => Eq.trans (t_call2 (A := (some (d1, o2).1)) (B := (some (d1, o2).2)) (N := N_pump_profit) t_pump_profit (t_var (i := 2) (e := (e4 eI eI eI (e2 eI eI))) (v := (d1, o2).1) rfl) (t_var (i := 3) (e := (eR eI)) (v := (d1, o2).2) rfl)) (congrArg (Option.map (e2 eI eI)) h5.1), ⟨_, rfl, ⟨(e4 eI eI eI (e2 eI eI)) (d1, o2).1, fun rw => (t_var (i := 2) (e := (e4 eI eI eI (e2 eI eI))) (v := (d1, o2).1) rfl), ⟨_, rfl, ⟨(eL (e4 eI eI eI (e2 eI eI))) [((min2 (1000 : Int) ((d1, o2).1.1 + (3 : Int))), (d1, o2).1.2.1, (d1, o2).1.2.2.1, (d1, o2).1.2.2.2), ((d1, o2).1.1, ((d1, o2).1.2.1 + (1 : Int)), (d1, o2).1.2.2.1, (d1, o2).1.2.2.2), ((d1, o2).1.1, (d1, o2).1.2.1, ((d1, o2).1.2.2.1 + (1 : Int)), (d1, o2).1.2.2.2), ((d1, o2).1.1, (d1, o2).1.2.1, (d1, o2).1.2.2.1, ((1 : Int), (1 : Int)))], fun rw => (t_lstL (L := (some [((min2 (1000 : Int) ((d1, o2).1.1 + (3 : Int))), (d1, o2).1.2.1, (d1, o2).1.2.2.1, (d1, o2).1.2.2.2), ((d1, o2).1.1, ((d1, o2).1.2.1 + (1 : Int)), (d1, o2).1.2.2.1, (d1, o2).1.2.2.2), ((d1, o2).1.1, (d1, o2).1.2.1, ((d1, o2).1.2.2.1 + (1 : Int)), (d1, o2).1.2.2.2), ((d1, o2).1.1, (d1, o2).1.2.1, (d1, o2).1.2.2.1, ((1 : Int), (1 : Int)))])) (t_cons (A := (some ((min2 (1000 : Int) ((d1, o2).1.1 + (3 : Int))), (d1, o2).1.2.1, (d1, o2).1.2.2.1, (d1, o2).1.2.2.2))) (L := (some [((d1, o2).1.1, ((d1, o2).1.2.1 + (1 : Int)), (d1, o2).1.2.2.1, (d1, o2).1.2.2.2), ((d1, o2).1.1, (d1, o2).1.2.1, ((d1, o2).1.2.2.1 + (1 : Int)), (d1, o2).1.2.2.2), ((d1, o2).1.1, (d1, o2).1.2.1, (d1, o2).1.2.2.1, ((1 : Int), (1 : Int)))])) (t_tup4 (A := (some (min2 (1000 : Int) ((d1, o2).1.1 + (3 : Int))))) (B := (some (d1, o2).1.2.1)) (C := (some (d1, o2).1.2.2.1)) (D := (some (d1, o2).1.2.2.2)) (t_f2 (A := (some (1000 : Int))) (B := (some ((d1, o2).1.1 + (3 : Int)))) (h := (fun x10 y11 => some (min2 x10 y11))) g_min2 (t_int (i := 1000)) (t_f2 (A := (some (d1, o2).1.1)) (B := (some (3 : Int))) (h := (fun x6 y7 => some (x6 + y7))) g_add (t_var (i := 5) (e := eI) (v := (d1, o2).1.1) rfl) (t_int (i := 3)))) (t_var (i := 6) (e := eI) (v := (d1, o2).1.2.1) rfl) (t_var (i := 7) (e := eI) (v := (d1, o2).1.2.2.1) rfl) (t_var (i := 8) (e := (e2 eI eI)) (v := (d1, o2).1.2.2.2) rfl)) (t_cons (A := (some ((d1, o2).1.1, ((d1, o2).1.2.1 + (1 : Int)), (d1, o2).1.2.2.1, (d1, o2).1.2.2.2))) (L := (some [((d1, o2).1.1, (d1, o2).1.2.1, ((d1, o2).1.2.2.1 + (1 : Int)), (d1, o2).1.2.2.2), ((d1, o2).1.1, (d1, o2).1.2.1, (d1, o2).1.2.2.1, ((1 : Int), (1 : Int)))])) (t_tup4 (A := (some (d1, o2).1.1)) (B := (some ((d1, o2).1.2.1 + (1 : Int)))) (C := (some (d1, o2).1.2.2.1)) (D := (some (d1, o2).1.2.2.2)) (t_var (i := 5) (e := eI) (v := (d1, o2).1.1) rfl) (t_f2 (A := (some (d1, o2).1.2.1)) (B := (some (1 : Int))) (h := (fun x12 y13 => some (x12 + y13))) g_add (t_var (i := 6) (e := eI) (v := (d1, o2).1.2.1) rfl) (t_int (i := 1))) (t_var (i := 7) (e := eI) (v := (d1, o2).1.2.2.1) rfl) (t_var (i := 8) (e := (e2 eI eI)) (v := (d1, o2).1.2.2.2) rfl)) (t_cons (A := (some ((d1, o2).1.1, (d1, o2).1.2.1, ((d1, o2).1.2.2.1 + (1 : Int)), (d1, o2).1.2.2.2))) (L := (some [((d1, o2).1.1, (d1, o2).1.2.1, (d1, o2).1.2.2.1, ((1 : Int), (1 : Int)))])) (t_tup4 (A := (some (d1, o2).1.1)) (B := (some (d1, o2).1.2.1)) (C := (some ((d1, o2).1.2.2.1 + (1 : Int)))) (D := (some (d1, o2).1.2.2.2)) (t_var (i := 5) (e := eI) (v := (d1, o2).1.1) rfl) (t_var (i := 6) (e := eI) (v := (d1, o2).1.2.1) rfl) (t_f2 (A := (some (d1, o2).1.2.2.1)) (B := (some (1 : Int))) (h := (fun x14 y15 => some (x14 + y15))) g_add (t_var (i := 7) (e := eI) (v := (d1, o2).1.2.2.1) rfl) (t_int (i := 1))) (t_var (i := 8) (e := (e2 eI eI)) (v := (d1, o2).1.2.2.2) rfl)) (t_cons (A := (some ((d1, o2).1.1, (d1, o2).1.2.1, (d1, o2).1.2.2.1, ((1 : Int), (1 : Int))))) (L := (some [])) (t_tup4 (A := (some (d1, o2).1.1)) (B := (some (d1, o2).1.2.1)) (C := (some (d1, o2).1.2.2.1)) (D := (some ((1 : Int), (1 : Int)))) (t_var (i := 5) (e := eI) (v := (d1, o2).1.1) rfl) (t_var (i := 6) (e := eI) (v := (d1, o2).1.2.1) rfl) (t_var (i := 7) (e := eI) (v := (d1, o2).1.2.2.1) rfl) (t_tup2 (A := (some (1 : Int))) (B := (some (1 : Int))) (t_int (i := 1)) (t_int (i := 1)))) (t_nil (α := (Int × Int × Int × (Int × Int))) (e := (e4 eI eI eI (e2 eI eI))))))))), ⟨_, rfl, (Exists.elim h5.2 fun v25 h26 => ⟨List.map (e4 eI eI eI (e2 eI eI)) v25, fun rw => Eq.trans (i_seqL (A := (some [((min2 (1000 : Int) ((d1, o2).1.1 + (3 : Int))), (d1, o2).1.2.1, (d1, o2).1.2.2.1, (d1, o2).1.2.2.2), ((d1, o2).1.1, ((d1, o2).1.2.1 + (1 : Int)), (d1, o2).1.2.2.1, (d1, o2).1.2.2.2), ((d1, o2).1.1, (d1, o2).1.2.1, ((d1, o2).1.2.2.1 + (1 : Int)), (d1, o2).1.2.2.2), ((d1, o2).1.1, (d1, o2).1.2.1, (d1, o2).1.2.2.1, ((1 : Int), (1 : Int)))])) (e := (e4 eI eI eI (e2 eI eI))) (t_var (i := 9) (e := (eL (e4 eI eI eI (e2 eI eI)))) (v := [((min2 (1000 : Int) ((d1, o2).1.1 + (3 : Int))), (d1, o2).1.2.1, (d1, o2).1.2.2.1, (d1, o2).1.2.2.2), ((d1, o2).1.1, ((d1, o2).1.2.1 + (1 : Int)), (d1, o2).1.2.2.1, (d1, o2).1.2.2.2), ((d1, o2).1.1, (d1, o2).1.2.1, ((d1, o2).1.2.2.1 + (1 : Int)), (d1, o2).1.2.2.2), ((d1, o2).1.1, (d1, o2).1.2.1, (d1, o2).1.2.2.1, ((1 : Int), (1 : Int)))]) rfl)) (congrArg (Option.map (List.map (e4 eI eI eI (e2 eI eI)))) h26.1), lfor_of (env := (fun (s : Unit) (z : (Slot)) => [(.dat (.list (List.map PyData.int ns))), (.own rw), .dat ((e4 eI eI eI (e2 eI eI)) (d1, o2).1), .dat ((eR eI) (d1, o2).2), .dat ((e2 eI eI) v4), .dat (eI (d1, o2).1.1), .dat (eI (d1, o2).1.2.1), .dat (eI (d1, o2).1.2.2.1), .dat ((e2 eI eI) (d1, o2).1.2.2.2), .dat ((eL (e4 eI eI eI (e2 eI eI))) [((min2 (1000 : Int) ((d1, o2).1.1 + (3 : Int))), (d1, o2).1.2.1, (d1, o2).1.2.2.1, (d1, o2).1.2.2.2), ((d1, o2).1.1, ((d1, o2).1.2.1 + (1 : Int)), (d1, o2).1.2.2.1, (d1, o2).1.2.2.2), ((d1, o2).1.1, (d1, o2).1.2.1, ((d1, o2).1.2.2.1 + (1 : Int)), (d1, o2).1.2.2.2), ((d1, o2).1.1, (d1, o2).1.2.1, (d1, o2).1.2.2.1, ((1 : Int), (1 : Int)))]), z, .no, .no, .no])) (Bd := (fun (i18 : (Int × Int × Int × (Int × Int))) (s16 : Unit) (K : Unit → Prop) => (∃ b21 : Bool, ((N_pump_profit i18 (d1, o2).2).bind fun a19 => (some v4).bind fun a20 => N__law_less a19 a20) = some b21 ∧ (b21 = true → (false = true)) ∧ (b21 = false → K ())))) (fun i18 s16 z17 Q K hK hB => ⟨[(.dat (.list (List.map PyData.int ns))), (.own rw), .dat ((e4 eI eI eI (e2 eI eI)) (d1, o2).1), .dat ((eR eI) (d1, o2).2), .dat ((e2 eI eI) v4), .dat (eI (d1, o2).1.1), .dat (eI (d1, o2).1.2.1), .dat (eI (d1, o2).1.2.2.1), .dat ((e2 eI eI) (d1, o2).1.2.2.2), .dat ((eL (e4 eI eI eI (e2 eI eI))) [((min2 (1000 : Int) ((d1, o2).1.1 + (3 : Int))), (d1, o2).1.2.1, (d1, o2).1.2.2.1, (d1, o2).1.2.2.2), ((d1, o2).1.1, ((d1, o2).1.2.1 + (1 : Int)), (d1, o2).1.2.2.1, (d1, o2).1.2.2.2), ((d1, o2).1.1, (d1, o2).1.2.1, ((d1, o2).1.2.2.1 + (1 : Int)), (d1, o2).1.2.2.2), ((d1, o2).1.1, (d1, o2).1.2.1, (d1, o2).1.2.2.1, ((1 : Int), (1 : Int)))]), .dat ((e4 eI eI eI (e2 eI eI)) i18), .no, .no, .no], rfl, (Exists.elim hB fun b21 h22 => ⟨b21, fun rw => Eq.trans (t_T (P := ((N_pump_profit i18 (d1, o2).2).bind fun a19 => (some v4).bind fun a20 => N__law_less a19 a20)) (t_call2 (A := (N_pump_profit i18 (d1, o2).2)) (B := (some v4)) (N := N__law_less) t__law_less (t_call2 (A := (some i18)) (B := (some (d1, o2).2)) (N := N_pump_profit) t_pump_profit (t_var (i := 10) (e := (e4 eI eI eI (e2 eI eI))) (v := i18) rfl) (t_var (i := 3) (e := (eR eI)) (v := (d1, o2).2) rfl)) (t_var (i := 4) (e := (e2 eI eI)) (v := v4) rfl))) h22.1, if_of (fun e23 => ⟨eB false, fun rw => (t_bl (b := false)), (absurd (h22.2.1 e23) Bool.false_ne_true)⟩) (fun e24 => (hK () (h22.2.2 e24) (.dat ((e4 eI eI eI (e2 eI eI)) i18) : Slot)))⟩)⟩) v25 () (.no : Slot) _ (fun s27 => (∃ b32 : Bool, ((N_pump_profit ((0 : Int), (d1, o2).1.2.1, (d1, o2).1.2.2.1, (d1, o2).1.2.2.2) (d1, o2).2).bind fun x30 => (some ((0 : Int), (1 : Int))).bind fun y31 => some (!decide (x30 = y31))) = some b32 ∧ (b32 = true → (false = true)) ∧ (b32 = false → (∃ b41 : Bool, (some (decide ((((d1, o2).2).length : Int) < (6 : Int)))) = some b41 ∧ (b41 = true → (∀ r45 : Int, 0 ≤ r45 → r45 < 60 → (∃ v48 : (List Int), catO (d1, o2).2 [r45] = some v48 ∧ (∃ v50 : (Int × Int), N_pump_profit (d1, o2).1 v48 = some v50 ∧ (∃ v52 : Bool, N__law_less v50 v4 = some v52 ∧ ((v52 = true → (false = true)) ∧ (v52 = false → (N_tail ((d1, o2).1) ((d1, o2).2) v4 = some true)))))))) ∧ (b41 = false → (N_tail ((d1, o2).1) ((d1, o2).2) v4 = some true)))))) (fun s27 k29 z28 => (Exists.elim k29 fun b32 h33 => ⟨b32, fun rw => Eq.trans (t_T (P := ((N_pump_profit ((0 : Int), (d1, o2).1.2.1, (d1, o2).1.2.2.1, (d1, o2).1.2.2.2) (d1, o2).2).bind fun x30 => (some ((0 : Int), (1 : Int))).bind fun y31 => some (!decide (x30 = y31)))) (t_f2 (A := (N_pump_profit ((0 : Int), (d1, o2).1.2.1, (d1, o2).1.2.2.1, (d1, o2).1.2.2.2) (d1, o2).2)) (B := (some ((0 : Int), (1 : Int)))) (h := (fun x30 y31 => some (!decide (x30 = y31)))) (g_ne (enc_2 enc_I enc_I) rfl) (t_call2 (A := (some ((0 : Int), (d1, o2).1.2.1, (d1, o2).1.2.2.1, (d1, o2).1.2.2.2))) (B := (some (d1, o2).2)) (N := N_pump_profit) t_pump_profit (t_tup4 (A := (some (0 : Int))) (B := (some (d1, o2).1.2.1)) (C := (some (d1, o2).1.2.2.1)) (D := (some (d1, o2).1.2.2.2)) (t_int (i := 0)) (t_var (i := 6) (e := eI) (v := (d1, o2).1.2.1) rfl) (t_var (i := 7) (e := eI) (v := (d1, o2).1.2.2.1) rfl) (t_var (i := 8) (e := (e2 eI eI)) (v := (d1, o2).1.2.2.2) rfl)) (t_var (i := 3) (e := (eR eI)) (v := (d1, o2).2) rfl)) (t_tup2 (A := (some (0 : Int))) (B := (some (1 : Int))) (t_int (i := 0)) (t_int (i := 1))))) h33.1, if_of (fun e34 => ⟨eB false, fun rw => (t_bl (b := false)), (absurd (h33.2.1 e34) Bool.false_ne_true)⟩) (fun e35 => (Exists.elim (h33.2.2 e35) fun b41 h42 => ⟨b41, fun rw => Eq.trans (t_T (P := (some (decide ((((d1, o2).2).length : Int) < (6 : Int))))) (t_f2 (A := (some (((d1, o2).2).length : Int))) (B := (some (6 : Int))) (h := (fun x39 y40 => some (decide (x39 < y40)))) g_lt (t_f1 (A := (some (d1, o2).2)) (h := (fun x36 => some ((x36).length : Int))) g_lenR (t_var (i := 3) (e := (eR eI)) (v := (d1, o2).2) rfl)) (t_int (i := 6)))) h42.1, if_of (fun e43 => ⟨(e4 eI eI eI (e2 eI eI)) (d1, o2).1, fun rw => (t_var (i := 2) (e := (e4 eI eI eI (e2 eI eI))) (v := (d1, o2).1) rfl), ⟨(eR eI) (d1, o2).2, fun rw => (t_var (i := 3) (e := (eR eI)) (v := (d1, o2).2) rfl), ⟨eI (60 : Int), fun rw => (t_int (i := 60)), ⟨rfl, (60 : Int), rfl, (by decide), (by decide), fun r45 g46 g47 => ⟨Nat.le_of_ble_eq_true rfl, (Exists.elim ((h42.2.1 e43) r45 g46 g47) fun v48 h49 => ⟨(eR eI) v48, (by exact Eq.trans (g_addR (e := eI) (d1, o2).2 [r45]) (congrArg (Option.map (eR eI)) h49.1)), (Exists.elim h49.2 fun v50 h51 => ⟨rfl, (e2 eI eI) v50, Eq.trans (t_pump_profit (d1, o2).1 v48) (congrArg (Option.map (e2 eI eI)) h51.1), ⟨(e2 eI eI) v4, fun rw => (t_var (i := 4) (e := (e2 eI eI)) (v := v4) rfl), (Exists.elim h51.2 fun v52 h53 => ⟨rfl, eB v52, Eq.trans (t__law_less v50 v4) (congrArg (Option.map eB) h53.1), ⟨v52, rfl, if_of (fun e55 => ⟨eB false, fun rw => (t_bl (b := false)), (absurd (h53.2.1 e55) Bool.false_ne_true)⟩) (fun e56 => (fun rw _ => ⟨true, Eq.trans (t_tail ns rw ((d1, o2).1) ((d1, o2).2) v4) (congrArg (rtO eB) (h53.2.2 e56)), rfl⟩))⟩⟩)⟩⟩)⟩)⟩⟩⟩⟩⟩) (fun e44 => if_of (b := false) (fun h => nomatch h) (fun _ => (fun rw _ => ⟨true, Eq.trans (t_tail ns rw ((d1, o2).1) ((d1, o2).2) v4) (congrArg (rtO eB) (h42.2.2 e44)), rfl⟩)))⟩))⟩)) h26.2⟩)⟩⟩⟩⟩⟩⟩)⟩⟩
structure Txt (K : PySem.W.Frag) (mg : Str → Option Value) : Prop where
  b_abs : mg "abs" = none
  b_all : mg "all" = none
  b_bool : mg "bool" = none
  b_int : mg "int" = none
  b_isinstance : mg "isinstance" = none
  b_len : mg "len" = none
  b_list : mg "list" = none
  b_max : mg "max" = none
  b_min : mg "min" = none
  b_range : mg "range" = none
  b_reversed : mg "reversed" = none
  b_sorted : mg "sorted" = none
  b_sum : mg "sum" = none
  b_tuple : mg "tuple" = none
  b_zip : mg "zip" = none
  m_gcd : mg "gcd" = some (.builtin "math.gcd")
  k_MOST_OF_SHARE : ∃ t, mg "MOST_OF_SHARE" = some (.int 100 t)
  k_MOST_PRICE : ∃ t, mg "MOST_PRICE" = some (.int 1000 t)
  k_MOST_PRICES : ∃ t, mg "MOST_PRICES" = some (.int 6 t)
  k_MOST_WATER : ∃ t, mg "MOST_WATER" = some (.int 1000 t)
section
variable {P : Program} {w : World} {K : PySem.W.Frag} {mg : Str → Option Value} {base : Heap} {Ts : TsT}
abbrev s_is_whole : Stmt := top 6
theorem sc_is_whole : FnScope ["value"] ["value"] (defScope s_is_whole) := ⟨rfl, rfl, rfl, by decide +kernel, rfl, by decide +kernel, by decide +kernel⟩
theorem ok_is_whole (T : Txt K mg) {f : Addr} {fd : FuncData} {cdv : Value} (D : DF K "is_whole" "is_whole" s_is_whole f fd cdv) : FnOk P w K mg base CX0 1 f fd ["value"] (spD K Ts 1 (runD 1 (F_is_whole))) := by
  refine D.ok sc_is_whole fun A outer s H E hr => ?_
  exact (s_one (s_ret (d_and (d_isi isi_int (by rfl) T.b_isinstance (by decide +kernel) (by rfl) T.b_int (by decide +kernel) (d_var 0)) (d_one (d_not (d_isi isi_bool (by rfl) T.b_isinstance (by decide +kernel) (by rfl) T.b_bool (by decide +kernel) (d_var 0)))))))
abbrev s_is_between : Stmt := top 7
theorem sc_is_between : FnScope ["value", "least", "most"] ["value", "least", "most"] (defScope s_is_between) := ⟨rfl, rfl, rfl, by decide +kernel, rfl, by decide +kernel, by decide +kernel⟩
theorem ok_is_between {c_is_whole : List PyData → Option PyData} (T : Txt K mg) {f : Addr} {fd : FuncData} {cdv : Value} (D : DF K "is_between" "is_between" s_is_between f fd cdv) (h_is_whole : CF P w K mg base Ts 1 "is_whole" 1 c_is_whole) : FnOk P w K mg base CX0 2 f fd ["value", "least", "most"] (spD K Ts 3 (runD 3 (F_is_between c_is_whole))) := by
  refine D.ok sc_is_between fun A outer s H E hr => ?_
  have l_is_whole : 1 ≤ 1 := by decide
  exact (s_one (s_ret (d_and (d_call hr (CF.call h_is_whole) l_is_whole (by rfl) (da_cons (d_var 0) da_nil)) (d_one (d_lele (d_var 1) (d_var 0) (d_var 2))))))
abbrev s_is_row_between : Stmt := top 8
theorem sc_is_row_between : FnScope ["value", "least", "most", "number"] ["value", "least", "most"] (defScope s_is_row_between) := ⟨rfl, rfl, rfl, by decide +kernel, rfl, by decide +kernel, by decide +kernel⟩
theorem ok_is_row_between {c_is_between : List PyData → Option PyData} (T : Txt K mg) {f : Addr} {fd : FuncData} {c Pt : Addr} (TB : LamX.TabB base mg c Pt) (hP : Pt ∈ Ts.gs) (D : DF K "is_row_between" "is_row_between" s_is_row_between f fd (.ref c)) (h_is_between : CF P w K mg base Ts 2 "is_between" 3 c_is_between) : FnOk P w K mg base CX0 4 f fd ["value", "least", "most"] (spD K Ts 3 (runD 4 (F_is_row_between c_is_between))) := by
  refine D.ok sc_is_row_between fun A outer s H E hr => ?_
  have l_is_between : 2 ≤ 3 := by decide
  have l_is_betweeng : 2 ≤ 2 := by decide
  have l_gen : 2 + 1 ≤ 3 := by decide
  exact (s_one (s_ret (d_and (d_isi isi_tuple (by rfl) T.b_isinstance (by decide +kernel) (by rfl) T.b_tuple (by decide +kernel) (d_var 0)) (d_one (d_all (own := [("number", 3)]) hr (by rfl) T.b_all (by decide +kernel) TB hP rfl rfl sc_is_row_between.nd (di_seq (d_var 0)) (blkOk_by (own := [("number", 3)]) (N := ["value", "least", "most", "number"]) (sc := defScope s_is_row_between) (by decide +kernel)) (GA.genK_by (by decide +kernel)) (fun _ _ _ _ _ _ _ => (dg_name 3 sc_is_row_between.nd rfl (by first | exact Or.inl rfl | exact Or.inr rfl) (by decide))) (fun _ _ _ _ _ _ _ => (d_call (room_gen (hr.mono l_gen) _) (CF.call h_is_between) l_is_betweeng (by rfl) (da_cons (d_var 3) (da_cons (d_var 1) (da_cons (d_var 2) da_nil))))))))))
abbrev s_is_ratio : Stmt := top 9
theorem sc_is_ratio : FnScope ["value", "top", "bottom"] ["value"] (defScope s_is_ratio) := ⟨rfl, rfl, rfl, by decide +kernel, rfl, by decide +kernel, by decide +kernel⟩
theorem ok_is_ratio {c_is_whole : List PyData → Option PyData} (T : Txt K mg) {f : Addr} {fd : FuncData} {cdv : Value} (D : DF K "is_ratio" "is_ratio" s_is_ratio f fd cdv) (h_is_whole : CF P w K mg base Ts 1 "is_whole" 1 c_is_whole) : FnOk P w K mg base CX0 2 f fd ["value"] (spD K Ts 1 (runD 3 (F_is_ratio c_is_whole))) := by
  refine D.ok sc_is_ratio fun A outer s H E hr => ?_
  have l_is_whole : 1 ≤ 1 := by decide
  exact (s_cons (s_if (dt_not (dt_w (dw_and (dt_val (d_isi isi_tuple (by rfl) T.b_isinstance (by decide +kernel) (by rfl) T.b_tuple (by decide +kernel) (d_var 0))) (dw_and1 (dt_eq hr (d_len (by rfl) T.b_len (d_b (d_var 0))) d_int))))) (s_one (s_ret d_bl)) s_nil) (s_cons (s_bind (vs := [1, 2]) (d_var 0) (dg_tup rfl (dgs_cons (dg_name 1 sc_is_ratio.nd rfl (by first | exact Or.inl rfl | exact Or.inr rfl) (by decide)) (dgs_cons (dg_name 2 sc_is_ratio.nd rfl (by first | exact Or.inl rfl | exact Or.inr rfl) (by decide)) dgs_nil)))) (s_one (s_ret (d_and (d_call hr (CF.call h_is_whole) l_is_whole (by rfl) (da_cons (d_var 1) da_nil)) (d_and (d_call hr (CF.call h_is_whole) l_is_whole (by rfl) (da_cons (d_var 2) da_nil)) (d_and (d_gt (d_var 2) d_int) (d_one (d_eq hr (d_gcd (by rfl) T.m_gcd (d_var 1) (d_var 2)) d_int)))))))))
abbrev s_is_row_of_ratios : Stmt := top 10
theorem sc_is_row_of_ratios : FnScope ["value", "count", "one"] ["value", "count"] (defScope s_is_row_of_ratios) := ⟨rfl, rfl, rfl, by decide +kernel, rfl, by decide +kernel, by decide +kernel⟩
theorem ok_is_row_of_ratios {c_is_ratio : List PyData → Option PyData} (T : Txt K mg) {f : Addr} {fd : FuncData} {c Pt : Addr} (TB : LamX.TabB base mg c Pt) (hP : Pt ∈ Ts.gs) (D : DF K "is_row_of_ratios" "is_row_of_ratios" s_is_row_of_ratios f fd (.ref c)) (h_is_ratio : CF P w K mg base Ts 2 "is_ratio" 1 c_is_ratio) : FnOk P w K mg base CX0 4 f fd ["value", "count"] (spD K Ts 2 (runD 3 (F_is_row_of_ratios c_is_ratio))) := by
  refine D.ok sc_is_row_of_ratios fun A outer s H E hr => ?_
  have l_is_ratio : 2 ≤ 3 := by decide
  have l_is_ratiog : 2 ≤ 2 := by decide
  have l_gen : 2 + 1 ≤ 3 := by decide
  exact (s_cons (s_if (dt_not (dt_w (dw_and (dt_val (d_isi isi_tuple (by rfl) T.b_isinstance (by decide +kernel) (by rfl) T.b_tuple (by decide +kernel) (d_var 0))) (dw_and1 (dt_eq hr (d_len (by rfl) T.b_len (d_b (d_var 0))) (d_var 1)))))) (s_one (s_ret d_bl)) s_nil) (s_one (s_ret (d_all (own := [("one", 2)]) hr (by rfl) T.b_all (by decide +kernel) TB hP rfl rfl sc_is_row_of_ratios.nd (di_seq (d_var 0)) (blkOk_by (own := [("one", 2)]) (N := ["value", "count", "one"]) (sc := defScope s_is_row_of_ratios) (by decide +kernel)) (GA.genK_by (by decide +kernel)) (fun _ _ _ _ _ _ _ => (dg_name 2 sc_is_row_of_ratios.nd rfl (by first | exact Or.inl rfl | exact Or.inr rfl) (by decide))) (fun _ _ _ _ _ _ _ => (d_and (d_call (room_gen (hr.mono l_gen) _) (CF.call h_is_ratio) l_is_ratiog (by rfl) (da_cons (d_var 2) da_nil)) (d_one (d_ge (b_ix (d_b (d_var 2)) d_int) d_int))))))))
abbrev s_ratio : Stmt := top 11
theorem sc_ratio : FnScope ["top", "bottom", "shared"] ["top", "bottom"] (defScope s_ratio) := ⟨rfl, rfl, rfl, by decide +kernel, rfl, by decide +kernel, by decide +kernel⟩
theorem ok_ratio (T : Txt K mg) {f : Addr} {fd : FuncData} {cdv : Value} (D : DF K "ratio" "ratio" s_ratio f fd cdv) : FnOk P w K mg base CX0 1 f fd ["top", "bottom"] (spD K Ts 2 (runD 3 (F_ratio))) := by
  refine D.ok sc_ratio fun A outer s H E hr => ?_
  exact (s_cons (s_set (i := 2) sc_ratio.nd rfl (by first | exact Or.inl rfl | exact Or.inr rfl) (d_gcd (by rfl) T.m_gcd (d_var 0) (d_var 1))) (s_one (s_ret (d_tup (da_cons (d_div (d_var 0) (d_var 2)) (da_cons (d_div (d_var 1) (d_var 2)) da_nil))))))
abbrev s_plus : Stmt := top 12
theorem sc_plus : FnScope ["one", "other"] ["one", "other"] (defScope s_plus) := ⟨rfl, rfl, rfl, by decide +kernel, rfl, by decide +kernel, by decide +kernel⟩
theorem ok_plus {c_ratio : List PyData → Option PyData} (T : Txt K mg) {f : Addr} {fd : FuncData} {cdv : Value} (D : DF K "plus" "plus" s_plus f fd cdv) (h_ratio : CF P w K mg base Ts 1 "ratio" 2 c_ratio) : FnOk P w K mg base CX0 2 f fd ["one", "other"] (spD K Ts 2 (runD 2 (F_plus c_ratio))) := by
  refine D.ok sc_plus fun A outer s H E hr => ?_
  have l_ratio : 1 ≤ 1 := by decide
  exact (s_one (s_ret (d_call hr (CF.call h_ratio) l_ratio (by rfl) (da_cons (d_plus (d_times (b_ix (d_b (d_var 0)) d_int) (b_ix (d_b (d_var 1)) d_int)) (d_times (b_ix (d_b (d_var 1)) d_int) (b_ix (d_b (d_var 0)) d_int))) (da_cons (d_times (b_ix (d_b (d_var 0)) d_int) (b_ix (d_b (d_var 1)) d_int)) da_nil)))))
abbrev s_minus : Stmt := top 13
theorem sc_minus : FnScope ["one", "other"] ["one", "other"] (defScope s_minus) := ⟨rfl, rfl, rfl, by decide +kernel, rfl, by decide +kernel, by decide +kernel⟩
theorem ok_minus {c_ratio : List PyData → Option PyData} (T : Txt K mg) {f : Addr} {fd : FuncData} {cdv : Value} (D : DF K "minus" "minus" s_minus f fd cdv) (h_ratio : CF P w K mg base Ts 1 "ratio" 2 c_ratio) : FnOk P w K mg base CX0 2 f fd ["one", "other"] (spD K Ts 2 (runD 2 (F_minus c_ratio))) := by
  refine D.ok sc_minus fun A outer s H E hr => ?_
  have l_ratio : 1 ≤ 1 := by decide
  exact (s_one (s_ret (d_call hr (CF.call h_ratio) l_ratio (by rfl) (da_cons (d_sub (d_times (b_ix (d_b (d_var 0)) d_int) (b_ix (d_b (d_var 1)) d_int)) (d_times (b_ix (d_b (d_var 1)) d_int) (b_ix (d_b (d_var 0)) d_int))) (da_cons (d_times (b_ix (d_b (d_var 0)) d_int) (b_ix (d_b (d_var 1)) d_int)) da_nil)))))
abbrev s_times : Stmt := top 14
theorem sc_times : FnScope ["one", "other"] ["one", "other"] (defScope s_times) := ⟨rfl, rfl, rfl, by decide +kernel, rfl, by decide +kernel, by decide +kernel⟩
theorem ok_times {c_ratio : List PyData → Option PyData} (T : Txt K mg) {f : Addr} {fd : FuncData} {cdv : Value} (D : DF K "times" "times" s_times f fd cdv) (h_ratio : CF P w K mg base Ts 1 "ratio" 2 c_ratio) : FnOk P w K mg base CX0 2 f fd ["one", "other"] (spD K Ts 2 (runD 2 (F_times c_ratio))) := by
  refine D.ok sc_times fun A outer s H E hr => ?_
  have l_ratio : 1 ≤ 1 := by decide
  exact (s_one (s_ret (d_call hr (CF.call h_ratio) l_ratio (by rfl) (da_cons (d_times (b_ix (d_b (d_var 0)) d_int) (b_ix (d_b (d_var 1)) d_int)) (da_cons (d_times (b_ix (d_b (d_var 0)) d_int) (b_ix (d_b (d_var 1)) d_int)) da_nil)))))
abbrev s_is_less : Stmt := top 15
theorem sc_is_less : FnScope ["one", "other"] ["one", "other"] (defScope s_is_less) := ⟨rfl, rfl, rfl, by decide +kernel, rfl, by decide +kernel, by decide +kernel⟩
theorem ok_is_less (T : Txt K mg) {f : Addr} {fd : FuncData} {cdv : Value} (D : DF K "is_less" "is_less" s_is_less f fd cdv) : FnOk P w K mg base CX0 1 f fd ["one", "other"] (spD K Ts 2 (runD 2 (F_is_less))) := by
  refine D.ok sc_is_less fun A outer s H E hr => ?_
  exact (s_one (s_ret (d_lt (d_times (b_ix (d_b (d_var 0)) d_int) (b_ix (d_b (d_var 1)) d_int)) (d_times (b_ix (d_b (d_var 1)) d_int) (b_ix (d_b (d_var 0)) d_int)))))
abbrev s_part_of_steps : Stmt := top 17
theorem sc_part_of_steps : FnScope ["steps", "first", "behind", "part", "place", "price", "units", "taken"] ["steps", "first", "behind"] (defScope s_part_of_steps) := ⟨rfl, rfl, rfl, by decide +kernel, rfl, by decide +kernel, by decide +kernel⟩
theorem ok_part_of_steps (T : Txt K mg) {f : Addr} {fd : FuncData} {cdv : Value} (D : DF K "part_of_steps" "part_of_steps" s_part_of_steps f fd cdv) : FnOk P w K mg base CX0 1 f fd ["steps", "first", "behind"] (spD K Ts 3 (runD 8 (F_part_of_steps))) := by
  refine D.ok sc_part_of_steps fun A outer s H E hr => ?_
  exact (s_cons (s_own (i := 3) sc_part_of_steps.nd rfl (by first | exact Or.inl rfl | exact Or.inr rfl) (n_lst da_nil)) (s_cons (s_set (i := 4) sc_part_of_steps.nd rfl (by first | exact Or.inl rfl | exact Or.inr rfl) d_int) (s_cons (s_for (vs := [5, 6]) PassesOwn.never rfl (di_seq (d_var 0)) (dg_tup rfl (dgs_cons (dg_name 5 sc_part_of_steps.nd rfl (by first | exact Or.inl rfl | exact Or.inr rfl) (by decide)) (dgs_cons (dg_name 6 sc_part_of_steps.nd rfl (by first | exact Or.inl rfl | exact Or.inr rfl) (by decide)) dgs_nil))) (s_cons (s_set (i := 7) sc_part_of_steps.nd rfl (by first | exact Or.inl rfl | exact Or.inr rfl) (d_sub (d_min2 rfl (by rfl) T.b_min (by decide +kernel) (d_plus (d_var 4) (d_var 6)) (d_var 2)) (d_max2 rfl (by rfl) T.b_max (by decide +kernel) (d_var 4) (d_var 1)))) (s_cons (s_if (dt_gt (d_var 7) d_int) (s_one (s_app (i := 3) (ha := (d_tup (da_cons (d_var 5) (da_cons (d_var 7) da_nil)))))) s_nil) (s_one (s_aug (i := 4) sc_part_of_steps.nd rfl (by first | exact Or.inl rfl | exact Or.inr rfl) (d_var 6) ip_add))))) (s_rel 3 (s_one (s_ret (d_var 3)))))))
abbrev s_worth_on_curve : Stmt := top 18
theorem sc_worth_on_curve : FnScope ["curve", "water", "least", "worth", "steps", "price", "units"] ["curve", "water"] (defScope s_worth_on_curve) := ⟨rfl, rfl, rfl, by decide +kernel, rfl, by decide +kernel, by decide +kernel⟩
theorem ok_worth_on_curve {c_part_of_steps : List PyData → Option PyData} (T : Txt K mg) {f : Addr} {fd : FuncData} {cdv : Value} (D : DF K "worth_on_curve" "worth_on_curve" s_worth_on_curve f fd cdv) (h_part_of_steps : CF P w K mg base Ts 1 "part_of_steps" 3 c_part_of_steps) : FnOk P w K mg base CX0 2 f fd ["curve", "water"] (spD K Ts 2 (runD 7 (F_worth_on_curve c_part_of_steps))) := by
  refine D.ok sc_worth_on_curve fun A outer s H E hr => ?_
  have l_part_of_steps : 1 ≤ 1 := by decide
  exact (s_cons (s_bind (vs := [2, 3, 4]) (d_var 0) (dg_tup rfl (dgs_cons (dg_name 2 sc_worth_on_curve.nd rfl (by first | exact Or.inl rfl | exact Or.inr rfl) (by decide)) (dgs_cons (dg_name 3 sc_worth_on_curve.nd rfl (by first | exact Or.inl rfl | exact Or.inr rfl) (by decide)) (dgs_cons (dg_name 4 sc_worth_on_curve.nd rfl (by first | exact Or.inl rfl | exact Or.inr rfl) (by decide)) dgs_nil))))) (s_one (s_ret (d_plus (d_var 3) (d_sum rfl (by rfl) T.b_sum (by decide +kernel) (d_b (d_lc (own := [("price", 5), ("units", 6)]) rfl sc_worth_on_curve.nd (di_seq (d_call hr (CF.call h_part_of_steps) l_part_of_steps (by rfl) (da_cons (d_var 4) (da_cons d_int (da_cons (d_sub (d_var 1) (d_var 2)) da_nil))))) (blkOk_by (own := [("price", 5), ("units", 6)]) (N := ["curve", "water", "least", "worth", "steps", "price", "units"]) (sc := defScope s_worth_on_curve) (by decide +kernel)) (fun _ _ _ _ _ => (dg_tup rfl (dgs_cons (dg_name 5 sc_worth_on_curve.nd rfl (by first | exact Or.inl rfl | exact Or.inr rfl) (by decide)) (dgs_cons (dg_name 6 sc_worth_on_curve.nd rfl (by first | exact Or.inl rfl | exact Or.inr rfl) (by decide)) dgs_nil)))) (fun _ _ _ _ _ => dts_nil) (fun _ _ _ _ _ => (d_times (d_var 5) (d_var 6))))))))))
abbrev s_uses_of_water : Stmt := top 19
theorem sc_uses_of_water : FnScope ["curve", "pairs", "water", "held", "sold", "price", "units", "amount"] ["curve", "pairs", "water"] (defScope s_uses_of_water) := ⟨rfl, rfl, rfl, by decide +kernel, rfl, by decide +kernel, by decide +kernel⟩
theorem ok_uses_of_water (T : Txt K mg) {f : Addr} {fd : FuncData} {c Pt : Addr} (TB : LamX.TabB base mg c Pt) (hP : (Pt, ("uses_of_water.<locals>.<lambda>" : Str)) ∈ Ts.ls) (D : DF K "uses_of_water" "uses_of_water" s_uses_of_water f fd (.ref c)) : FnOk P w K mg base CX0 2 f fd ["curve", "pairs", "water"] (spD K Ts 3 (runD 8 (F_uses_of_water))) := by
  refine D.ok sc_uses_of_water fun A outer s H E hr => ?_
  exact (s_cons (s_setLc (i := 3) (own := [("price", 5), ("units", 6)]) rfl sc_uses_of_water.nd rfl rfl (sw_true rfl rfl rfl (by decide +kernel)) (di_seq (b_ix (d_b (d_var 0)) d_int)) (blkOk_by (own := [("price", 5), ("units", 6)]) (N := ["curve", "pairs", "water", "held", "sold", "price", "units", "amount"]) (sc := defScope s_uses_of_water) (by decide +kernel)) (fun _ _ _ _ _ => (dg_tup rfl (dgs_cons (dg_name 5 sc_uses_of_water.nd rfl (by first | exact Or.inl rfl | exact Or.inr rfl) (by decide)) (dgs_cons (dg_name 6 sc_uses_of_water.nd rfl (by first | exact Or.inl rfl | exact Or.inr rfl) (by decide)) dgs_nil)))) (fun _ _ _ _ _ => dts_nil) (fun _ _ _ _ _ => (d_tup (da_cons (d_var 5) (da_cons (d_var 6) (da_cons d_bl da_nil)))))) (s_cons (s_setLc (i := 4) (own := [("amount", 7), ("price", 5)]) rfl sc_uses_of_water.nd rfl rfl (sw_true rfl rfl rfl (by decide +kernel)) (di_seq (d_var 1)) (blkOk_by (own := [("amount", 7), ("price", 5)]) (N := ["curve", "pairs", "water", "held", "sold", "price", "units", "amount"]) (sc := defScope s_uses_of_water) (by decide +kernel)) (fun _ _ _ _ _ => (dg_tup rfl (dgs_cons (dg_name 7 sc_uses_of_water.nd rfl (by first | exact Or.inl rfl | exact Or.inr rfl) (by decide)) (dgs_cons (dg_name 5 sc_uses_of_water.nd rfl (by first | exact Or.inl rfl | exact Or.inr rfl) (by decide)) dgs_nil)))) (fun _ _ _ _ _ => dts_nil) (fun _ _ _ _ _ => (d_tup (da_cons (d_var 5) (da_cons (d_var 7) (da_cons d_bl da_nil)))))) (s_one (s_ret (d_sortU (k := 0) (u := "use") (hr.mono (by decide)) (by rfl) T.b_sorted (by decide +kernel) TB hP rfl (by rfl) (useS_by (by first | decide +kernel | (show useSB _ _ = true; decide +kernel))) (d_b (d_plus (d_plus (d_var 3) (d_var 4)) (d_lst (da_cons (d_tup (da_cons d_int (da_cons (d_plus (d_var 2) d_int) (da_cons d_bl da_nil)))) da_nil)))))))))
abbrev s_curve_in_month : Stmt := top 20
theorem sc_curve_in_month : FnScope ["curve", "pairs", "most", "least", "worth", "_", "price", "units"] ["curve", "pairs", "most"] (defScope s_curve_in_month) := ⟨rfl, rfl, rfl, by decide +kernel, rfl, by decide +kernel, by decide +kernel⟩
theorem ok_curve_in_month {c_uses_of_water : List PyData → Option PyData} (T : Txt K mg) {f : Addr} {fd : FuncData} {cdv : Value} (D : DF K "curve_in_month" "curve_in_month" s_curve_in_month f fd cdv) (h_uses_of_water : CF P w K mg base Ts 2 "uses_of_water" 3 c_uses_of_water) : FnOk P w K mg base CX0 3 f fd ["curve", "pairs", "most"] (spD K Ts 3 (runD 8 (F_curve_in_month c_uses_of_water))) := by
  refine D.ok sc_curve_in_month fun A outer s H E hr => ?_
  have l_uses_of_water : 2 ≤ 2 := by decide
  exact (s_cons (s_bind (vs := [3, 4, 5]) (d_var 0) (dg_tup rfl (dgs_cons (dg_name 3 sc_curve_in_month.nd rfl (by first | exact Or.inl rfl | exact Or.inr rfl) (by decide)) (dgs_cons (dg_name 4 sc_curve_in_month.nd rfl (by first | exact Or.inl rfl | exact Or.inr rfl) (by decide)) (dgs_cons (dg_name 5 sc_curve_in_month.nd rfl (by first | exact Or.inl rfl | exact Or.inr rfl) (by decide)) dgs_nil))))) (s_one (s_ret (d_tup (da_cons (d_var 3) (da_cons (d_var 4) (da_cons (d_lc (own := [("price", 6), ("units", 7), ("_", 5)]) rfl sc_curve_in_month.nd (di_seq (d_call hr (CF.call h_uses_of_water) l_uses_of_water (by rfl) (da_cons (d_var 0) (da_cons (d_var 1) (da_cons (d_var 2) da_nil))))) (blkOk_by (own := [("price", 6), ("units", 7), ("_", 5)]) (N := ["curve", "pairs", "most", "least", "worth", "_", "price", "units"]) (sc := defScope s_curve_in_month) (by decide +kernel)) (fun _ _ _ _ _ => (dg_tup rfl (dgs_cons (dg_name 6 sc_curve_in_month.nd rfl (by first | exact Or.inl rfl | exact Or.inr rfl) (by decide)) (dgs_cons (dg_name 7 sc_curve_in_month.nd rfl (by first | exact Or.inl rfl | exact Or.inr rfl) (by decide)) (dgs_cons (dg_name 5 sc_curve_in_month.nd rfl (by first | exact Or.inl rfl | exact Or.inr rfl) (by decide)) dgs_nil))))) (fun _ _ _ _ _ => dts_nil) (fun _ _ _ _ _ => (d_tup (da_cons (d_var 6) (da_cons (d_var 7) da_nil))))) da_nil)))))))
abbrev s_curve_before : Stmt := top 21
theorem sc_curve_before : FnScope ["curve", "inflow", "capacity", "least", "_", "steps", "lowest", "begin"] ["curve", "inflow", "capacity"] (defScope s_curve_before) := ⟨rfl, rfl, rfl, by decide +kernel, rfl, by decide +kernel, by decide +kernel⟩
theorem ok_curve_before {c_part_of_steps c_worth_on_curve : List PyData → Option PyData} (T : Txt K mg) {f : Addr} {fd : FuncData} {cdv : Value} (D : DF K "curve_before" "curve_before" s_curve_before f fd cdv) (h_part_of_steps : CF P w K mg base Ts 1 "part_of_steps" 3 c_part_of_steps) (h_worth_on_curve : CF P w K mg base Ts 2 "worth_on_curve" 2 c_worth_on_curve) : FnOk P w K mg base CX0 3 f fd ["curve", "inflow", "capacity"] (spD K Ts 3 (runD 8 (F_curve_before c_part_of_steps c_worth_on_curve))) := by
  refine D.ok sc_curve_before fun A outer s H E hr => ?_
  have l_part_of_steps : 1 ≤ 2 := by decide
  have l_worth_on_curve : 2 ≤ 2 := by decide
  exact (s_cons (s_bind (vs := [3, 4, 5]) (d_var 0) (dg_tup rfl (dgs_cons (dg_name 3 sc_curve_before.nd rfl (by first | exact Or.inl rfl | exact Or.inr rfl) (by decide)) (dgs_cons (dg_name 4 sc_curve_before.nd rfl (by first | exact Or.inl rfl | exact Or.inr rfl) (by decide)) (dgs_cons (dg_name 5 sc_curve_before.nd rfl (by first | exact Or.inl rfl | exact Or.inr rfl) (by decide)) dgs_nil))))) (s_cons (s_set (i := 6) sc_curve_before.nd rfl (by first | exact Or.inl rfl | exact Or.inr rfl) (d_max2 rfl (by rfl) T.b_max (by decide +kernel) d_int (d_sub (d_var 3) (d_var 1)))) (s_cons (s_set (i := 7) sc_curve_before.nd rfl (by first | exact Or.inl rfl | exact Or.inr rfl) (d_sub (d_plus (d_var 6) (d_var 1)) (d_var 3))) (s_cons (s_set (i := 5) sc_curve_before.nd rfl (by first | exact Or.inl rfl | exact Or.inr rfl) (d_call hr (CF.call h_part_of_steps) l_part_of_steps (by rfl) (da_cons (d_var 5) (da_cons (d_var 7) (da_cons (d_sub (d_plus (d_var 7) (d_var 2)) (d_var 6)) da_nil))))) (s_one (s_ret (d_tup (da_cons (d_var 6) (da_cons (d_call hr (CF.call h_worth_on_curve) l_worth_on_curve (by rfl) (da_cons (d_var 0) (da_cons (d_plus (d_var 6) (d_var 1)) da_nil))) (da_cons (d_var 5) da_nil))))))))))
abbrev s_curves_of_levels : Stmt := top 22
theorem sc_curves_of_levels : FnScope ["capacities", "end", "inflows", "worths", "curves", "capacity", "inflow", "pairs", "in_month"] ["capacities", "end", "inflows", "worths"] (defScope s_curves_of_levels) := ⟨rfl, rfl, rfl, by decide +kernel, rfl, by decide +kernel, by decide +kernel⟩
theorem ok_curves_of_levels {c_curve_in_month c_curve_before : List PyData → Option PyData} (T : Txt K mg) {f : Addr} {fd : FuncData} {cdv : Value} (D : DF K "curves_of_levels" "curves_of_levels" s_curves_of_levels f fd cdv) (h_curve_in_month : CF P w K mg base Ts 3 "curve_in_month" 3 c_curve_in_month) (h_curve_before : CF P w K mg base Ts 3 "curve_before" 3 c_curve_before) : FnOk P w K mg base CX0 4 f fd ["capacities", "end", "inflows", "worths"] (spD K Ts 4 (runD 9 (F_curves_of_levels c_curve_in_month c_curve_before))) := by
  refine D.ok sc_curves_of_levels fun A outer s H E hr => ?_
  have l_curve_in_month : 3 ≤ 3 := by decide
  have l_curve_before : 3 ≤ 3 := by decide
  exact (s_cons (s_own (i := 4) sc_curves_of_levels.nd rfl (by first | exact Or.inl rfl | exact Or.inr rfl) (n_lst (da_cons (d_tup (da_cons (d_var 1) (da_cons d_int (da_cons (d_lst (da_cons (d_tup (da_cons d_int (da_cons (d_sub (b_ix (d_b (d_var 0)) (d_neg d_int)) (d_var 1)) da_nil))) da_nil)) da_nil)))) da_nil))) (s_cons (s_for (vs := [5, 6, 7]) PassesOwn.never rfl (di_rev (by rfl) T.b_reversed (d_zipL3 rfl (by rfl) T.b_list (by decide +kernel) (by rfl) T.b_zip (d_var 0) (d_var 2) (d_var 3))) (dg_tup rfl (dgs_cons (dg_name 5 sc_curves_of_levels.nd rfl (by first | exact Or.inl rfl | exact Or.inr rfl) (by decide)) (dgs_cons (dg_name 6 sc_curves_of_levels.nd rfl (by first | exact Or.inl rfl | exact Or.inr rfl) (by decide)) (dgs_cons (dg_name 7 sc_curves_of_levels.nd rfl (by first | exact Or.inl rfl | exact Or.inr rfl) (by decide)) dgs_nil)))) (s_cons (s_set (i := 8) sc_curves_of_levels.nd rfl (by first | exact Or.inl rfl | exact Or.inr rfl) (d_call hr (CF.call h_curve_in_month) l_curve_in_month (by rfl) (da_cons (b_ix (b_own 4) (d_neg d_int)) (da_cons (d_var 7) (da_cons (d_plus (d_var 5) (d_var 6)) da_nil))))) (s_one (s_app (i := 4) (ha := (d_call hr (CF.call h_curve_before) l_curve_before (by rfl) (da_cons (d_var 8) (da_cons (d_var 6) (da_cons (d_var 5) da_nil))))))))) (s_one (s_ret (b_revX (b_own 4))))))
abbrev s_level_curves : Stmt := top 23
theorem sc_level_curves : FnScope ["dam", "worths", "capacity", "_", "end", "inflows"] ["dam", "worths"] (defScope s_level_curves) := ⟨rfl, rfl, rfl, by decide +kernel, rfl, by decide +kernel, by decide +kernel⟩
theorem ok_level_curves {c_curves_of_levels : List PyData → Option PyData} (T : Txt K mg) {f : Addr} {fd : FuncData} {cdv : Value} (D : DF K "level_curves" "level_curves" s_level_curves f fd cdv) (h_curves_of_levels : CF P w K mg base Ts 4 "curves_of_levels" 4 c_curves_of_levels) : FnOk P w K mg base CX0 5 f fd ["dam", "worths"] (spD K Ts 2 (runD 6 (F_level_curves c_curves_of_levels))) := by
  refine D.ok sc_level_curves fun A outer s H E hr => ?_
  have l_curves_of_levels : 4 ≤ 4 := by decide
  exact (s_cons (s_bind (vs := [2, 3, 4, 5]) (d_var 0) (dg_tup rfl (dgs_cons (dg_name 2 sc_level_curves.nd rfl (by first | exact Or.inl rfl | exact Or.inr rfl) (by decide)) (dgs_cons (dg_name 3 sc_level_curves.nd rfl (by first | exact Or.inl rfl | exact Or.inr rfl) (by decide)) (dgs_cons (dg_name 4 sc_level_curves.nd rfl (by first | exact Or.inl rfl | exact Or.inr rfl) (by decide)) (dgs_cons (dg_name 5 sc_level_curves.nd rfl (by first | exact Or.inl rfl | exact Or.inr rfl) (by decide)) dgs_nil)))))) (s_one (s_ret (d_call hr (CF.call h_curves_of_levels) l_curves_of_levels (by rfl) (da_cons (d_times (d_tup (da_cons (d_var 2) da_nil)) (d_plus (d_len (by rfl) T.b_len (d_b (d_var 5))) d_int)) (da_cons (d_var 4) (da_cons (d_var 5) (da_cons (d_var 1) da_nil))))))))
abbrev s_greatest_worth : Stmt := top 24
theorem sc_greatest_worth : FnScope ["dam", "worths"] ["dam", "worths"] (defScope s_greatest_worth) := ⟨rfl, rfl, rfl, by decide +kernel, rfl, by decide +kernel, by decide +kernel⟩
theorem ok_greatest_worth {c_worth_on_curve c_level_curves : List PyData → Option PyData} (T : Txt K mg) {f : Addr} {fd : FuncData} {cdv : Value} (D : DF K "greatest_worth" "greatest_worth" s_greatest_worth f fd cdv) (h_worth_on_curve : CF P w K mg base Ts 2 "worth_on_curve" 2 c_worth_on_curve) (h_level_curves : CF P w K mg base Ts 5 "level_curves" 2 c_level_curves) : FnOk P w K mg base CX0 6 f fd ["dam", "worths"] (spD K Ts 2 (runD 2 (F_greatest_worth c_worth_on_curve c_level_curves))) := by
  refine D.ok sc_greatest_worth fun A outer s H E hr => ?_
  have l_worth_on_curve : 2 ≤ 5 := by decide
  have l_level_curves : 5 ≤ 5 := by decide
  exact (s_one (s_ret (d_call hr (CF.call h_worth_on_curve) l_worth_on_curve (by rfl) (da_cons (b_ix (d_b (d_call hr (CF.call h_level_curves) l_level_curves (by rfl) (da_cons (d_var 0) (da_cons (d_var 1) da_nil)))) d_int) (da_cons (b_ix (d_b (d_var 0)) d_int) da_nil)))))
abbrev s_best_hold : Stmt := top 25
theorem sc_best_hold : FnScope ["curve", "pairs", "water", "held", "left", "_", "units", "is_held", "taken"] ["curve", "pairs", "water"] (defScope s_best_hold) := ⟨rfl, rfl, rfl, by decide +kernel, rfl, by decide +kernel, by decide +kernel⟩
theorem ok_best_hold {c_uses_of_water : List PyData → Option PyData} (T : Txt K mg) {f : Addr} {fd : FuncData} {cdv : Value} (D : DF K "best_hold" "best_hold" s_best_hold f fd cdv) (h_uses_of_water : CF P w K mg base Ts 2 "uses_of_water" 3 c_uses_of_water) : FnOk P w K mg base CX0 3 f fd ["curve", "pairs", "water"] (spD K Ts 3 (runD 9 (F_best_hold c_uses_of_water))) := by
  refine D.ok sc_best_hold fun A outer s H E hr => ?_
  have l_uses_of_water : 2 ≤ 2 := by decide
  exact (s_cons (s_set (i := 3) sc_best_hold.nd rfl (by first | exact Or.inl rfl | exact Or.inr rfl) (b_ix (d_b (d_var 0)) d_int)) (s_cons (s_set (i := 4) sc_best_hold.nd rfl (by first | exact Or.inl rfl | exact Or.inr rfl) (d_sub (d_var 2) (d_var 3))) (s_cons (s_for (vs := [5, 6, 7]) PassesOwn.never rfl (di_seq (d_call hr (CF.call h_uses_of_water) l_uses_of_water (by rfl) (da_cons (d_var 0) (da_cons (d_var 1) (da_cons (d_var 2) da_nil))))) (dg_tup rfl (dgs_cons (dg_name 5 sc_best_hold.nd rfl (by first | exact Or.inl rfl | exact Or.inr rfl) (by decide)) (dgs_cons (dg_name 6 sc_best_hold.nd rfl (by first | exact Or.inl rfl | exact Or.inr rfl) (by decide)) (dgs_cons (dg_name 7 sc_best_hold.nd rfl (by first | exact Or.inl rfl | exact Or.inr rfl) (by decide)) dgs_nil)))) (s_cons (s_set (i := 8) sc_best_hold.nd rfl (by first | exact Or.inl rfl | exact Or.inr rfl) (d_min2 rfl (by rfl) T.b_min (by decide +kernel) (d_var 4) (d_var 6))) (s_cons (s_aug (i := 4) sc_best_hold.nd rfl (by first | exact Or.inl rfl | exact Or.inr rfl) (d_var 8) ip_sub) (s_one (s_if (dt_val (d_var 7)) (s_one (s_aug (i := 3) sc_best_hold.nd rfl (by first | exact Or.inl rfl | exact Or.inr rfl) (d_var 8) ip_add)) s_nil))))) (s_one (s_ret (d_var 3))))))
abbrev s_best_levels : Stmt := top 26
theorem sc_best_levels : FnScope ["start", "inflows", "worths", "curves", "held", "behind", "inflow", "pairs", "curve"] ["start", "inflows", "worths", "curves"] (defScope s_best_levels) := ⟨rfl, rfl, rfl, by decide +kernel, rfl, by decide +kernel, by decide +kernel⟩
theorem ok_best_levels {c_best_hold : List PyData → Option PyData} (T : Txt K mg) {f : Addr} {fd : FuncData} {cdv : Value} (D : DF K "best_levels" "best_levels" s_best_levels f fd cdv) (h_best_hold : CF P w K mg base Ts 3 "best_hold" 3 c_best_hold) : FnOk P w K mg base CX0 4 f fd ["start", "inflows", "worths", "curves"] (spD K Ts 4 (runD 9 (F_best_levels c_best_hold))) := by
  refine D.ok sc_best_levels fun A outer s H E hr => ?_
  have l_best_hold : 3 ≤ 3 := by decide
  exact (s_cons (s_set (i := 4) sc_best_levels.nd rfl (by first | exact Or.inl rfl | exact Or.inr rfl) (d_var 0)) (s_cons (s_own (i := 5) sc_best_levels.nd rfl (by first | exact Or.inl rfl | exact Or.inr rfl) (n_lst da_nil)) (s_cons (s_for (vs := [6, 7, 8]) PassesOwn.never rfl (di_zip3 (by rfl) T.b_zip (d_var 1) (d_var 2) (b_cut (d_b (d_var 3)) (dp_some d_int) dp_none)) (dg_tup rfl (dgs_cons (dg_name 6 sc_best_levels.nd rfl (by first | exact Or.inl rfl | exact Or.inr rfl) (by decide)) (dgs_cons (dg_name 7 sc_best_levels.nd rfl (by first | exact Or.inl rfl | exact Or.inr rfl) (by decide)) (dgs_cons (dg_name 8 sc_best_levels.nd rfl (by first | exact Or.inl rfl | exact Or.inr rfl) (by decide)) dgs_nil)))) (s_cons (s_set (i := 4) sc_best_levels.nd rfl (by first | exact Or.inl rfl | exact Or.inr rfl) (d_call hr (CF.call h_best_hold) l_best_hold (by rfl) (da_cons (d_var 8) (da_cons (d_var 7) (da_cons (d_plus (d_var 4) (d_var 6)) da_nil))))) (s_one (s_app (i := 5) (ha := (d_var 4)))))) (s_rel 5 (s_one (s_ret (d_var 5)))))))
abbrev s_releases_between : Stmt := top 27
theorem sc_releases_between : FnScope ["start", "inflows", "behind", "held", "inflow", "kept"] ["start", "inflows", "behind"] (defScope s_releases_between) := ⟨rfl, rfl, rfl, by decide +kernel, rfl, by decide +kernel, by decide +kernel⟩
theorem ok_releases_between (T : Txt K mg) {f : Addr} {fd : FuncData} {cdv : Value} (D : DF K "releases_between" "releases_between" s_releases_between f fd cdv) : FnOk P w K mg base CX0 1 f fd ["start", "inflows", "behind"] (spD K Ts 3 (runD 6 (F_releases_between))) := by
  refine D.ok sc_releases_between fun A outer s H E hr => ?_
  exact (s_one (s_ret (d_lc (own := [("held", 3), ("inflow", 4), ("kept", 5)]) rfl sc_releases_between.nd (di_zip3 (by rfl) T.b_zip (d_plus (d_lst (da_cons (d_var 0) da_nil)) (d_var 2)) (d_var 1) (d_var 2)) (blkOk_by (own := [("held", 3), ("inflow", 4), ("kept", 5)]) (N := ["start", "inflows", "behind", "held", "inflow", "kept"]) (sc := defScope s_releases_between) (by decide +kernel)) (fun _ _ _ _ _ => (dg_tup rfl (dgs_cons (dg_name 3 sc_releases_between.nd rfl (by first | exact Or.inl rfl | exact Or.inr rfl) (by decide)) (dgs_cons (dg_name 4 sc_releases_between.nd rfl (by first | exact Or.inl rfl | exact Or.inr rfl) (by decide)) (dgs_cons (dg_name 5 sc_releases_between.nd rfl (by first | exact Or.inl rfl | exact Or.inr rfl) (by decide)) dgs_nil))))) (fun _ _ _ _ _ => dts_nil) (fun _ _ _ _ _ => (d_sub (d_plus (d_var 3) (d_var 4)) (d_var 5))))))
abbrev s_best_releases : Stmt := top 28
theorem sc_best_releases : FnScope ["dam", "worths", "_", "start", "inflows", "behind"] ["dam", "worths"] (defScope s_best_releases) := ⟨rfl, rfl, rfl, by decide +kernel, rfl, by decide +kernel, by decide +kernel⟩
theorem ok_best_releases {c_best_levels c_level_curves c_releases_between : List PyData → Option PyData} (T : Txt K mg) {f : Addr} {fd : FuncData} {cdv : Value} (D : DF K "best_releases" "best_releases" s_best_releases f fd cdv) (h_best_levels : CF P w K mg base Ts 4 "best_levels" 4 c_best_levels) (h_level_curves : CF P w K mg base Ts 5 "level_curves" 2 c_level_curves) (h_releases_between : CF P w K mg base Ts 1 "releases_between" 3 c_releases_between) : FnOk P w K mg base CX0 6 f fd ["dam", "worths"] (spD K Ts 2 (runD 6 (F_best_releases c_best_levels c_level_curves c_releases_between))) := by
  refine D.ok sc_best_releases fun A outer s H E hr => ?_
  have l_best_levels : 4 ≤ 5 := by decide
  have l_level_curves : 5 ≤ 5 := by decide
  have l_releases_between : 1 ≤ 5 := by decide
  exact (s_cons (s_bind (vs := [2, 3, 2, 4]) (d_var 0) (dg_tup rfl (dgs_cons (dg_name 2 sc_best_releases.nd rfl (by first | exact Or.inl rfl | exact Or.inr rfl) (by decide)) (dgs_cons (dg_name 3 sc_best_releases.nd rfl (by first | exact Or.inl rfl | exact Or.inr rfl) (by decide)) (dgs_cons (dg_name 2 sc_best_releases.nd rfl (by first | exact Or.inl rfl | exact Or.inr rfl) (by decide)) (dgs_cons (dg_name 4 sc_best_releases.nd rfl (by first | exact Or.inl rfl | exact Or.inr rfl) (by decide)) dgs_nil)))))) (s_cons (s_set (i := 5) sc_best_releases.nd rfl (by first | exact Or.inl rfl | exact Or.inr rfl) (d_call hr (CF.call h_best_levels) l_best_levels (by rfl) (da_cons (d_var 3) (da_cons (d_var 4) (da_cons (d_var 1) (da_cons (d_call hr (CF.call h_level_curves) l_level_curves (by rfl) (da_cons (d_var 0) (da_cons (d_var 1) da_nil))) da_nil)))))) (s_one (s_ret (d_call hr (CF.call h_releases_between) l_releases_between (by rfl) (da_cons (d_var 3) (da_cons (d_var 4) (da_cons (d_var 5) da_nil))))))))
abbrev s_is_share : Stmt := top 34
theorem sc_is_share : FnScope ["value"] ["value"] (defScope s_is_share) := ⟨rfl, rfl, rfl, by decide +kernel, rfl, by decide +kernel, by decide +kernel⟩
theorem ok_is_share {c_is_ratio : List PyData → Option PyData} (T : Txt K mg) {f : Addr} {fd : FuncData} {cdv : Value} (D : DF K "is_share" "is_share" s_is_share f fd cdv) (h_is_ratio : CF P w K mg base Ts 2 "is_ratio" 1 c_is_ratio) : FnOk P w K mg base CX0 3 f fd ["value"] (spD K Ts 1 (runD 1 (F_is_share c_is_ratio))) := by
  refine D.ok sc_is_share fun A outer s H E hr => ?_
  have l_is_ratio : 2 ≤ 2 := by decide
  exact (s_one (s_ret (d_and (d_call hr (CF.call h_is_ratio) l_is_ratio (by rfl) (da_cons (d_var 0) da_nil)) (d_one (d_ltlele d_int (b_ix (d_b (d_var 0)) d_int) (b_ix (d_b (d_var 0)) d_int) (d_globE (by rfl) T.k_MOST_OF_SHARE))))))
abbrev s_is_house : Stmt := top 35
theorem sc_is_house : FnScope ["value", "capacity", "up", "down", "share"] ["value"] (defScope s_is_house) := ⟨rfl, rfl, rfl, by decide +kernel, rfl, by decide +kernel, by decide +kernel⟩
theorem ok_is_house {c_is_between c_is_row_between c_is_share : List PyData → Option PyData} (T : Txt K mg) {f : Addr} {fd : FuncData} {cdv : Value} (D : DF K "is_house" "is_house" s_is_house f fd cdv) (h_is_between : CF P w K mg base Ts 2 "is_between" 3 c_is_between) (h_is_row_between : CF P w K mg base Ts 4 "is_row_between" 3 c_is_row_between) (h_is_share : CF P w K mg base Ts 3 "is_share" 1 c_is_share) : FnOk P w K mg base CX0 5 f fd ["value"] (spD K Ts 1 (runD 5 (F_is_house c_is_between c_is_row_between c_is_share))) := by
  refine D.ok sc_is_house fun A outer s H E hr => ?_
  have l_is_between : 2 ≤ 4 := by decide
  have l_is_row_between : 4 ≤ 4 := by decide
  have l_is_share : 3 ≤ 4 := by decide
  exact (s_cons (s_if (dt_not (dt_w (dw_and (dt_val (d_isi isi_tuple (by rfl) T.b_isinstance (by decide +kernel) (by rfl) T.b_tuple (by decide +kernel) (d_var 0))) (dw_and1 (dt_eq hr (d_len (by rfl) T.b_len (d_b (d_var 0))) d_int))))) (s_one (s_ret d_bl)) s_nil) (s_cons (s_bind (vs := [1, 2, 3, 4]) (d_var 0) (dg_tup rfl (dgs_cons (dg_name 1 sc_is_house.nd rfl (by first | exact Or.inl rfl | exact Or.inr rfl) (by decide)) (dgs_cons (dg_name 2 sc_is_house.nd rfl (by first | exact Or.inl rfl | exact Or.inr rfl) (by decide)) (dgs_cons (dg_name 3 sc_is_house.nd rfl (by first | exact Or.inl rfl | exact Or.inr rfl) (by decide)) (dgs_cons (dg_name 4 sc_is_house.nd rfl (by first | exact Or.inl rfl | exact Or.inr rfl) (by decide)) dgs_nil)))))) (s_one (s_ret (d_and (d_call hr (CF.call h_is_between) l_is_between (by rfl) (da_cons (d_var 1) (da_cons d_int (da_cons (d_globE (by rfl) T.k_MOST_WATER) da_nil)))) (d_and (d_call hr (CF.call h_is_row_between) l_is_row_between (by rfl) (da_cons (d_tup (da_cons (d_var 2) (da_cons (d_var 3) da_nil))) (da_cons d_int (da_cons (d_globE (by rfl) T.k_MOST_WATER) da_nil)))) (d_one (d_call hr (CF.call h_is_share) l_is_share (by rfl) (da_cons (d_var 4) da_nil)))))))))
abbrev s_check_house_and_prices : Stmt := top 36
theorem sc_check_house_and_prices : FnScope ["house", "prices"] ["house", "prices"] (defScope s_check_house_and_prices) := ⟨rfl, rfl, rfl, by decide +kernel, rfl, by decide +kernel, by decide +kernel⟩
theorem ok_check_house_and_prices {c_is_house c_is_row_between : List PyData → Option PyData} (T : Txt K mg) {f : Addr} {fd : FuncData} {cdv : Value} (D : DF K "check_house_and_prices" "check_house_and_prices" s_check_house_and_prices f fd cdv) (h_is_house : CF P w K mg base Ts 5 "is_house" 1 c_is_house) (h_is_row_between : CF P w K mg base Ts 4 "is_row_between" 3 c_is_row_between) : FnOk P w K mg base CX0 6 f fd ["house", "prices"] (spD K Ts 2 (runD 2 (F_check_house_and_prices c_is_house c_is_row_between))) := by
  refine D.ok sc_check_house_and_prices fun A outer s H E hr => ?_
  have l_is_house : 5 ≤ 5 := by decide
  have l_is_row_between : 4 ≤ 5 := by decide
  exact (s_cons (s_if (dt_not (dt_val (d_call hr (CF.call h_is_house) l_is_house (by rfl) (da_cons (d_var 0) da_nil)))) (s_one s_never) s_nil) (s_one (s_if (dt_not (dt_w (dw_and (dt_val (d_call hr (CF.call h_is_row_between) l_is_row_between (by rfl) (da_cons (d_var 1) (da_cons d_int (da_cons (d_globE (by rfl) T.k_MOST_PRICE) da_nil))))) (dw_and1 (dt_lele d_int (d_len (by rfl) T.b_len (d_b (d_var 1))) (d_globE (by rfl) T.k_MOST_PRICES)))))) (s_one s_never) s_nil)))
abbrev s_like_dam : Stmt := top 37
theorem sc_like_dam : FnScope ["house", "prices", "capacity", "up", "down", "top", "bottom", "dam", "price"] ["house", "prices"] (defScope s_like_dam) := ⟨rfl, rfl, rfl, by decide +kernel, rfl, by decide +kernel, by decide +kernel⟩
theorem ok_like_dam (T : Txt K mg) {f : Addr} {fd : FuncData} {cdv : Value} (D : DF K "like_dam" "like_dam" s_like_dam f fd cdv) : FnOk P w K mg base CX0 1 f fd ["house", "prices"] (spD K Ts 2 (runD 9 (F_like_dam))) := by
  refine D.ok sc_like_dam fun A outer s H E hr => ?_
  exact (s_cons (s_bind (vs := [2, 3, 4, 5, 6]) (d_var 0) (dg_tupF rfl (dgf_cons (dg_name 2 sc_like_dam.nd rfl (by first | exact Or.inl rfl | exact Or.inr rfl) (by decide)) (dgf_cons (dg_name 3 sc_like_dam.nd rfl (by first | exact Or.inl rfl | exact Or.inr rfl) (by decide)) (dgf_cons (dg_name 4 sc_like_dam.nd rfl (by first | exact Or.inl rfl | exact Or.inr rfl) (by decide)) (dgf_cons (dg_tup rfl (dgs_cons (dg_name 5 sc_like_dam.nd rfl (by first | exact Or.inl rfl | exact Or.inr rfl) (by decide)) (dgs_cons (dg_name 6 sc_like_dam.nd rfl (by first | exact Or.inl rfl | exact Or.inr rfl) (by decide)) dgs_nil))) dgf_nil)))))) (s_cons (s_set (i := 7) sc_like_dam.nd rfl (by first | exact Or.inl rfl | exact Or.inr rfl) (d_tup (da_cons (d_var 2) (da_cons d_int (da_cons d_int (da_cons (d_times (d_tup (da_cons (d_var 3) da_nil)) (d_len (by rfl) T.b_len (d_b (d_var 1)))) da_nil)))))) (s_one (s_ret (d_tup (da_cons (d_var 7) (da_cons (d_tuple (by rfl) T.b_tuple (by decide +kernel) (d_b (d_lc (own := [("price", 8)]) rfl sc_like_dam.nd (di_seq (d_var 1)) (blkOk_by (own := [("price", 8)]) (N := ["house", "prices", "capacity", "up", "down", "top", "bottom", "dam", "price"]) (sc := defScope s_like_dam) (by decide +kernel)) (fun _ _ _ _ _ => (dg_name 8 sc_like_dam.nd rfl (by first | exact Or.inl rfl | exact Or.inr rfl) (by decide))) (fun _ _ _ _ _ => dts_nil) (fun _ _ _ _ _ => (d_tup (da_cons (d_tup (da_cons (d_var 3) (da_cons (d_times (d_var 8) (d_var 6)) da_nil))) (da_cons (d_tup (da_cons (d_var 4) (da_cons (d_times (d_var 8) (d_var 5)) da_nil))) da_nil))))))) da_nil)))))))
abbrev s_found_profit : Stmt := top 38
theorem sc_found_profit : FnScope ["house", "prices", "_", "up", "bottom", "dam", "worths"] ["house", "prices"] (defScope s_found_profit) := ⟨rfl, rfl, rfl, by decide +kernel, rfl, by decide +kernel, by decide +kernel⟩
theorem ok_found_profit {c_like_dam c_ratio c_greatest_worth : List PyData → Option PyData} (T : Txt K mg) {f : Addr} {fd : FuncData} {cdv : Value} (D : DF K "found_profit" "found_profit" s_found_profit f fd cdv) (h_like_dam : CF P w K mg base Ts 1 "like_dam" 2 c_like_dam) (h_ratio : CF P w K mg base Ts 1 "ratio" 2 c_ratio) (h_greatest_worth : CF P w K mg base Ts 6 "greatest_worth" 2 c_greatest_worth) : FnOk P w K mg base CX0 7 f fd ["house", "prices"] (spD K Ts 2 (runD 7 (F_found_profit c_like_dam c_ratio c_greatest_worth))) := by
  refine D.ok sc_found_profit fun A outer s H E hr => ?_
  have l_like_dam : 1 ≤ 6 := by decide
  have l_ratio : 1 ≤ 6 := by decide
  have l_greatest_worth : 6 ≤ 6 := by decide
  exact (s_cons (s_bind (vs := [2, 3, 2, 2, 4]) (d_var 0) (dg_tupF rfl (dgf_cons (dg_name 2 sc_found_profit.nd rfl (by first | exact Or.inl rfl | exact Or.inr rfl) (by decide)) (dgf_cons (dg_name 3 sc_found_profit.nd rfl (by first | exact Or.inl rfl | exact Or.inr rfl) (by decide)) (dgf_cons (dg_name 2 sc_found_profit.nd rfl (by first | exact Or.inl rfl | exact Or.inr rfl) (by decide)) (dgf_cons (dg_tup rfl (dgs_cons (dg_name 2 sc_found_profit.nd rfl (by first | exact Or.inl rfl | exact Or.inr rfl) (by decide)) (dgs_cons (dg_name 4 sc_found_profit.nd rfl (by first | exact Or.inl rfl | exact Or.inr rfl) (by decide)) dgs_nil))) dgf_nil)))))) (s_cons (s_bind (vs := [5, 6]) (d_call hr (CF.call h_like_dam) l_like_dam (by rfl) (da_cons (d_var 0) (da_cons (d_var 1) da_nil))) (dg_tup rfl (dgs_cons (dg_name 5 sc_found_profit.nd rfl (by first | exact Or.inl rfl | exact Or.inr rfl) (by decide)) (dgs_cons (dg_name 6 sc_found_profit.nd rfl (by first | exact Or.inl rfl | exact Or.inr rfl) (by decide)) dgs_nil)))) (s_one (s_ret (d_call hr (CF.call h_ratio) l_ratio (by rfl) (da_cons (d_sub (d_call hr (CF.call h_greatest_worth) l_greatest_worth (by rfl) (da_cons (d_var 5) (da_cons (d_var 6) da_nil))) (d_times (d_times (d_var 3) (d_var 4)) (d_sum rfl (by rfl) T.b_sum (by decide +kernel) (d_b (d_var 1))))) (da_cons (d_var 4) da_nil)))))))
abbrev s_pump_profit : Stmt := top 39
theorem sc_pump_profit : FnScope ["house", "prices"] ["house", "prices"] (defScope s_pump_profit) := ⟨rfl, rfl, rfl, by decide +kernel, rfl, by decide +kernel, by decide +kernel⟩
theorem ok_pump_profit {c_check_house_and_prices c_found_profit : List PyData → Option PyData} (T : Txt K mg) {f : Addr} {fd : FuncData} {cdv : Value} (D : DF K "pump_profit" "pump_profit" s_pump_profit f fd cdv) (h_check_house_and_prices : CF P w K mg base Ts 6 "check_house_and_prices" 2 c_check_house_and_prices) (h_found_profit : CF P w K mg base Ts 7 "found_profit" 2 c_found_profit) : FnOk P w K mg base CX0 8 f fd ["house", "prices"] (spD K Ts 2 (runD 2 (F_pump_profit c_check_house_and_prices c_found_profit))) := by
  refine D.ok sc_pump_profit fun A outer s H E hr => ?_
  have l_check_house_and_prices : 6 ≤ 7 := by decide
  have l_found_profit : 7 ≤ 7 := by decide
  exact (s_cons (s_expr (d_call hr (CF.call h_check_house_and_prices) l_check_house_and_prices (by rfl) (da_cons (d_var 0) (da_cons (d_var 1) da_nil)))) (s_one (s_ret (d_call hr (CF.call h_found_profit) l_found_profit (by rfl) (da_cons (d_var 0) (da_cons (d_var 1) da_nil))))))
abbrev s_pump_plan : Stmt := top 40
theorem sc_pump_plan : FnScope ["house", "prices", "dam", "worths", "pumped", "let_down", "release", "saved"] ["house", "prices"] (defScope s_pump_plan) := ⟨rfl, rfl, rfl, by decide +kernel, rfl, by decide +kernel, by decide +kernel⟩
theorem ok_pump_plan {c_check_house_and_prices c_like_dam c_best_releases : List PyData → Option PyData} (T : Txt K mg) {f : Addr} {fd : FuncData} {cdv : Value} (D : DF K "pump_plan" "pump_plan" s_pump_plan f fd cdv) (h_check_house_and_prices : CF P w K mg base Ts 6 "check_house_and_prices" 2 c_check_house_and_prices) (h_like_dam : CF P w K mg base Ts 1 "like_dam" 2 c_like_dam) (h_best_releases : CF P w K mg base Ts 6 "best_releases" 2 c_best_releases) : FnOk P w K mg base CX0 7 f fd ["house", "prices"] (spD K Ts 2 (runD 8 (F_pump_plan c_check_house_and_prices c_like_dam c_best_releases))) := by
  refine D.ok sc_pump_plan fun A outer s H E hr => ?_
  have l_check_house_and_prices : 6 ≤ 6 := by decide
  have l_like_dam : 1 ≤ 6 := by decide
  have l_best_releases : 6 ≤ 6 := by decide
  exact (s_cons (s_expr (d_call hr (CF.call h_check_house_and_prices) l_check_house_and_prices (by rfl) (da_cons (d_var 0) (da_cons (d_var 1) da_nil)))) (s_cons (s_bind (vs := [2, 3]) (d_call hr (CF.call h_like_dam) l_like_dam (by rfl) (da_cons (d_var 0) (da_cons (d_var 1) da_nil))) (dg_tup rfl (dgs_cons (dg_name 2 sc_pump_plan.nd rfl (by first | exact Or.inl rfl | exact Or.inr rfl) (by decide)) (dgs_cons (dg_name 3 sc_pump_plan.nd rfl (by first | exact Or.inl rfl | exact Or.inr rfl) (by decide)) dgs_nil)))) (s_cons (s_own (i := 4) sc_pump_plan.nd rfl (by first | exact Or.inl rfl | exact Or.inr rfl) (n_lst da_nil)) (s_cons (s_own (i := 5) sc_pump_plan.nd rfl (by first | exact Or.inl rfl | exact Or.inr rfl) (n_lst da_nil)) (s_cons (s_for (vs := [6]) PassesOwn.never rfl (di_seq (d_call hr (CF.call h_best_releases) l_best_releases (by rfl) (da_cons (d_var 2) (da_cons (d_var 3) da_nil)))) (dg_name 6 sc_pump_plan.nd rfl (by first | exact Or.inl rfl | exact Or.inr rfl) (by decide)) (s_cons (s_set (i := 7) sc_pump_plan.nd rfl (by first | exact Or.inl rfl | exact Or.inr rfl) (d_min2 rfl (by rfl) T.b_min (by decide +kernel) (b_ix (d_b (d_var 0)) d_int) (d_var 6))) (s_cons (s_app (i := 4) (ha := (d_tup (da_cons (d_sub (b_ix (d_b (d_var 0)) d_int) (d_var 7)) (da_cons d_int da_nil))))) (s_one (s_app (i := 5) (ha := (d_tup (da_cons (d_sub (d_var 6) (d_var 7)) (da_cons d_int da_nil))))))))) (s_one (s_ret (d_tup (da_cons (d_tuple (by rfl) T.b_tuple (by decide +kernel) (b_own 4)) (da_cons (d_tuple (by rfl) T.b_tuple (by decide +kernel) (b_own 5)) da_nil))))))))))
abbrev s_is_pumping : Stmt := top 41
theorem sc_is_pumping : FnScope ["house", "months", "value", "capacity", "up", "down", "_", "held", "pumped", "let_down", "row"] ["house", "months", "value"] (defScope s_is_pumping) := ⟨rfl, rfl, rfl, by decide +kernel, rfl, by decide +kernel, by decide +kernel⟩
theorem ok_is_pumping {c_is_row_of_ratios c_minus c_plus c_is_less : List PyData → Option PyData} (T : Txt K mg) {f : Addr} {fd : FuncData} {c Pt : Addr} (TB : LamX.TabB base mg c Pt) (hP : Pt ∈ Ts.gs) (D : DF K "is_pumping" "is_pumping" s_is_pumping f fd (.ref c)) (h_is_row_of_ratios : CF P w K mg base Ts 4 "is_row_of_ratios" 2 c_is_row_of_ratios) (h_minus : CF P w K mg base Ts 2 "minus" 2 c_minus) (h_plus : CF P w K mg base Ts 2 "plus" 2 c_plus) (h_is_less : CF P w K mg base Ts 1 "is_less" 2 c_is_less) : FnOk P w K mg base CX0 6 f fd ["house", "months", "value"] (spD K Ts 3 (runD 11 (F_is_pumping c_is_row_of_ratios c_minus c_plus c_is_less))) := by
  refine D.ok sc_is_pumping fun A outer s H E hr => ?_
  have l_is_row_of_ratios : 4 ≤ 5 := by decide
  have l_is_row_of_ratiosg : 4 ≤ 4 := by decide
  have l_minus : 2 ≤ 5 := by decide
  have l_minusg : 2 ≤ 4 := by decide
  have l_plus : 2 ≤ 5 := by decide
  have l_plusg : 2 ≤ 4 := by decide
  have l_is_less : 1 ≤ 5 := by decide
  have l_is_lessg : 1 ≤ 4 := by decide
  have l_gen : 4 + 1 ≤ 5 := by decide
  exact (s_cons (s_if (dt_not (dt_w (dw_and (dt_val (d_isi isi_tuple (by rfl) T.b_isinstance (by decide +kernel) (by rfl) T.b_tuple (by decide +kernel) (d_var 2))) (dw_and (dt_eq hr (d_len (by rfl) T.b_len (d_b (d_var 2))) d_int) (dw_and1 (dt_val (d_all (own := [("row", 10)]) hr (by rfl) T.b_all (by decide +kernel) TB hP rfl rfl sc_is_pumping.nd (di_seq (d_var 2)) (blkOk_by (own := [("row", 10)]) (N := ["house", "months", "value", "capacity", "up", "down", "_", "held", "pumped", "let_down", "row"]) (sc := defScope s_is_pumping) (by decide +kernel)) (GA.genK_by (by decide +kernel)) (fun _ _ _ _ _ _ _ => (dg_name 10 sc_is_pumping.nd rfl (by first | exact Or.inl rfl | exact Or.inr rfl) (by decide))) (fun _ _ _ _ _ _ _ => (d_call (room_gen (hr.mono l_gen) _) (CF.call h_is_row_of_ratios) l_is_row_of_ratiosg (by rfl) (da_cons (d_var 10) (da_cons (d_var 1) da_nil))))))))))) (s_one (s_ret d_bl)) s_nil) (s_cons (s_bind (vs := [3, 4, 5, 6]) (d_var 0) (dg_tup rfl (dgs_cons (dg_name 3 sc_is_pumping.nd rfl (by first | exact Or.inl rfl | exact Or.inr rfl) (by decide)) (dgs_cons (dg_name 4 sc_is_pumping.nd rfl (by first | exact Or.inl rfl | exact Or.inr rfl) (by decide)) (dgs_cons (dg_name 5 sc_is_pumping.nd rfl (by first | exact Or.inl rfl | exact Or.inr rfl) (by decide)) (dgs_cons (dg_name 6 sc_is_pumping.nd rfl (by first | exact Or.inl rfl | exact Or.inr rfl) (by decide)) dgs_nil)))))) (s_cons (s_set (i := 7) sc_is_pumping.nd rfl (by first | exact Or.inl rfl | exact Or.inr rfl) (d_tup (da_cons d_int (da_cons d_int da_nil)))) (s_cons (s_for (vs := [8, 9]) PassesOwn.never rfl (di_zip (by rfl) T.b_zip (b_ix (d_b (d_var 2)) d_int) (b_ix (d_b (d_var 2)) d_int)) (dg_tup rfl (dgs_cons (dg_name 8 sc_is_pumping.nd rfl (by first | exact Or.inl rfl | exact Or.inr rfl) (by decide)) (dgs_cons (dg_name 9 sc_is_pumping.nd rfl (by first | exact Or.inl rfl | exact Or.inr rfl) (by decide)) dgs_nil))) (s_cons (s_set (i := 7) sc_is_pumping.nd rfl (by first | exact Or.inl rfl | exact Or.inr rfl) (d_call hr (CF.call h_minus) l_minus (by rfl) (da_cons (d_call hr (CF.call h_plus) l_plus (by rfl) (da_cons (d_var 7) (da_cons (d_var 8) da_nil))) (da_cons (d_var 9) da_nil)))) (s_cons (s_if (dt_w (dw_or (dt_val (d_call hr (CF.call h_is_less) l_is_less (by rfl) (da_cons (d_tup (da_cons (d_var 4) (da_cons d_int da_nil))) (da_cons (d_var 8) da_nil)))) (dw_or1 (dt_val (d_call hr (CF.call h_is_less) l_is_less (by rfl) (da_cons (d_tup (da_cons (d_var 5) (da_cons d_int da_nil))) (da_cons (d_var 9) da_nil))))))) (s_one (s_ret d_bl)) s_nil) (s_one (s_if (dt_w (dw_or (dt_val (d_call hr (CF.call h_is_less) l_is_less (by rfl) (da_cons (d_var 7) (da_cons (d_tup (da_cons d_int (da_cons d_int da_nil))) da_nil)))) (dw_or1 (dt_val (d_call hr (CF.call h_is_less) l_is_less (by rfl) (da_cons (d_tup (da_cons (d_var 3) (da_cons d_int da_nil))) (da_cons (d_var 7) da_nil))))))) (s_one (s_ret d_bl)) s_nil))))) (s_one (s_ret d_bl))))))
abbrev s_profit_of : Stmt := top 42
theorem sc_profit_of : FnScope ["house", "prices", "pumping", "profit", "price", "pumped", "let_down", "brought"] ["house", "prices", "pumping"] (defScope s_profit_of) := ⟨rfl, rfl, rfl, by decide +kernel, rfl, by decide +kernel, by decide +kernel⟩
theorem ok_profit_of {c_times c_plus c_minus : List PyData → Option PyData} (T : Txt K mg) {f : Addr} {fd : FuncData} {cdv : Value} (D : DF K "profit_of" "profit_of" s_profit_of f fd cdv) (h_times : CF P w K mg base Ts 2 "times" 2 c_times) (h_plus : CF P w K mg base Ts 2 "plus" 2 c_plus) (h_minus : CF P w K mg base Ts 2 "minus" 2 c_minus) : FnOk P w K mg base CX0 3 f fd ["house", "prices", "pumping"] (spD K Ts 3 (runD 8 (F_profit_of c_times c_plus c_minus))) := by
  refine D.ok sc_profit_of fun A outer s H E hr => ?_
  have l_times : 2 ≤ 2 := by decide
  have l_plus : 2 ≤ 2 := by decide
  have l_minus : 2 ≤ 2 := by decide
  exact (s_cons (s_set (i := 3) sc_profit_of.nd rfl (by first | exact Or.inl rfl | exact Or.inr rfl) (d_tup (da_cons d_int (da_cons d_int da_nil)))) (s_cons (s_for (vs := [4, 5, 6]) PassesOwn.never rfl (di_zip3 (by rfl) T.b_zip (d_var 1) (b_ix (d_b (d_var 2)) d_int) (b_ix (d_b (d_var 2)) d_int)) (dg_tup rfl (dgs_cons (dg_name 4 sc_profit_of.nd rfl (by first | exact Or.inl rfl | exact Or.inr rfl) (by decide)) (dgs_cons (dg_name 5 sc_profit_of.nd rfl (by first | exact Or.inl rfl | exact Or.inr rfl) (by decide)) (dgs_cons (dg_name 6 sc_profit_of.nd rfl (by first | exact Or.inl rfl | exact Or.inr rfl) (by decide)) dgs_nil)))) (s_cons (s_set (i := 7) sc_profit_of.nd rfl (by first | exact Or.inl rfl | exact Or.inr rfl) (d_call hr (CF.call h_times) l_times (by rfl) (da_cons (d_var 6) (da_cons (d_call hr (CF.call h_times) l_times (by rfl) (da_cons (d_tup (da_cons (d_var 4) (da_cons d_int da_nil))) (da_cons (b_ix (d_b (d_var 0)) d_int) da_nil))) da_nil)))) (s_one (s_set (i := 3) sc_profit_of.nd rfl (by first | exact Or.inl rfl | exact Or.inr rfl) (d_call hr (CF.call h_plus) l_plus (by rfl) (da_cons (d_var 3) (da_cons (d_call hr (CF.call h_minus) l_minus (by rfl) (da_cons (d_var 7) (da_cons (d_call hr (CF.call h_times) l_times (by rfl) (da_cons (d_var 5) (da_cons (d_tup (da_cons (d_var 4) (da_cons d_int da_nil))) da_nil))) da_nil))) da_nil))))))) (s_one (s_ret (d_var 3)))))
abbrev s_shows_pumping : Stmt := top 43
theorem sc_shows_pumping : FnScope ["house", "prices", "value", "profit"] ["house", "prices", "value"] (defScope s_shows_pumping) := ⟨rfl, rfl, rfl, by decide +kernel, rfl, by decide +kernel, by decide +kernel⟩
theorem ok_shows_pumping {c_pump_profit c_is_pumping c_profit_of : List PyData → Option PyData} (T : Txt K mg) {f : Addr} {fd : FuncData} {cdv : Value} (D : DF K "shows_pumping" "shows_pumping" s_shows_pumping f fd cdv) (h_pump_profit : CF P w K mg base Ts 8 "pump_profit" 2 c_pump_profit) (h_is_pumping : CF P w K mg base Ts 6 "is_pumping" 3 c_is_pumping) (h_profit_of : CF P w K mg base Ts 3 "profit_of" 3 c_profit_of) : FnOk P w K mg base CX0 9 f fd ["house", "prices", "value"] (spD K Ts 3 (runD 4 (F_shows_pumping c_pump_profit c_is_pumping c_profit_of))) := by
  refine D.ok sc_shows_pumping fun A outer s H E hr => ?_
  have l_pump_profit : 8 ≤ 8 := by decide
  have l_is_pumping : 6 ≤ 8 := by decide
  have l_profit_of : 3 ≤ 8 := by decide
  exact (s_cons (s_set (i := 3) sc_shows_pumping.nd rfl (by first | exact Or.inl rfl | exact Or.inr rfl) (d_call hr (CF.call h_pump_profit) l_pump_profit (by rfl) (da_cons (d_var 0) (da_cons (d_var 1) da_nil)))) (s_one (s_ret (d_and (d_call hr (CF.call h_is_pumping) l_is_pumping (by rfl) (da_cons (d_var 0) (da_cons (d_len (by rfl) T.b_len (d_b (d_var 1))) (da_cons (d_var 2) da_nil)))) (d_one (d_eq hr (d_call hr (CF.call h_profit_of) l_profit_of (by rfl) (da_cons (d_var 0) (da_cons (d_var 1) (da_cons (d_var 2) da_nil)))) (d_var 3)))))))
abbrev s__law_ratio : Stmt := top 48
theorem sc__law_ratio : FnScope ["top", "bottom", "one", "other"] ["top", "bottom"] (defScope s__law_ratio) := ⟨rfl, rfl, rfl, by decide +kernel, rfl, by decide +kernel, by decide +kernel⟩
theorem ok__law_ratio (w0 : En → Nat) (T : Txt K mg) {f : Addr} {fd : FuncData} {cdv : Value} (D : DF K "_law_ratio" "_law_ratio" s__law_ratio f fd cdv) : FnOk P w K mg base CX0 1 f fd ["top", "bottom"] (spD K Ts 2 (runD 4 (F__law_ratio w0))) := by
  refine D.ok sc__law_ratio fun A outer s H E hr => ?_
  exact (s_cons (s_par (i := 2) (j := 3) rfl sc__law_ratio.nd rfl rfl (by decide) rfl rfl (d_abs (by rfl) T.b_abs (by decide +kernel) (d_var 0)) (d_abs (by rfl) T.b_abs (by decide +kernel) (d_var 1)) (by rfl)) (s_cons (s_while w0 PassesOwn.never (dt_ne hr (d_var 3) d_int) (s_one (s_par (i := 2) (j := 3) rfl sc__law_ratio.nd rfl rfl (by decide) rfl rfl (d_var 3) (d_mod (d_toInt (by rfl) T.b_int (by decide +kernel) (d_var 2)) (d_var 3)) (by rfl)))) (s_one (s_ret (d_if (dt_gt (d_var 1) d_int) (d_tup (da_cons (d_div (d_var 0) (d_var 2)) (da_cons (d_div (d_var 1) (d_var 2)) da_nil))) (d_tup (da_cons (d_sub d_int (d_div (d_var 0) (d_var 2))) (da_cons (d_sub d_int (d_div (d_var 1) (d_var 2))) da_nil))))))))
abbrev s__law_plus : Stmt := top 49
theorem sc__law_plus : FnScope ["one", "other"] ["one", "other"] (defScope s__law_plus) := ⟨rfl, rfl, rfl, by decide +kernel, rfl, by decide +kernel, by decide +kernel⟩
theorem ok__law_plus {c__law_ratio : List PyData → Option PyData} (T : Txt K mg) {f : Addr} {fd : FuncData} {cdv : Value} (D : DF K "_law_plus" "_law_plus" s__law_plus f fd cdv) (h__law_ratio : CF P w K mg base Ts 1 "_law_ratio" 2 c__law_ratio) : FnOk P w K mg base CX0 2 f fd ["one", "other"] (spD K Ts 2 (runD 2 (F__law_plus c__law_ratio))) := by
  refine D.ok sc__law_plus fun A outer s H E hr => ?_
  have l__law_ratio : 1 ≤ 1 := by decide
  exact (s_one (s_ret (d_call hr (CF.call h__law_ratio) l__law_ratio (by rfl) (da_cons (d_plus (d_times (b_ix (d_b (d_var 0)) d_int) (b_ix (d_b (d_var 1)) d_int)) (d_times (b_ix (d_b (d_var 1)) d_int) (b_ix (d_b (d_var 0)) d_int))) (da_cons (d_times (b_ix (d_b (d_var 0)) d_int) (b_ix (d_b (d_var 1)) d_int)) da_nil)))))
abbrev s__law_sum : Stmt := top 51
theorem sc__law_sum : FnScope ["some", "found", "one"] ["some"] (defScope s__law_sum) := ⟨rfl, rfl, rfl, by decide +kernel, rfl, by decide +kernel, by decide +kernel⟩
theorem ok__law_sum {c__law_plus : List PyData → Option PyData} (T : Txt K mg) {f : Addr} {fd : FuncData} {cdv : Value} (D : DF K "_law_sum" "_law_sum" s__law_sum f fd cdv) (h__law_plus : CF P w K mg base Ts 2 "_law_plus" 2 c__law_plus) : FnOk P w K mg base CX0 3 f fd ["some"] (spD K Ts 1 (runD 3 (F__law_sum c__law_plus))) := by
  refine D.ok sc__law_sum fun A outer s H E hr => ?_
  have l__law_plus : 2 ≤ 2 := by decide
  exact (s_cons (s_set (i := 1) sc__law_sum.nd rfl (by first | exact Or.inl rfl | exact Or.inr rfl) (d_tup (da_cons d_int (da_cons d_int da_nil)))) (s_cons (s_for (vs := [2]) PassesOwn.never rfl (di_seq (d_var 0)) (dg_name 2 sc__law_sum.nd rfl (by first | exact Or.inl rfl | exact Or.inr rfl) (by decide)) (s_one (s_set (i := 1) sc__law_sum.nd rfl (by first | exact Or.inl rfl | exact Or.inr rfl) (d_call hr (CF.call h__law_plus) l__law_plus (by rfl) (da_cons (d_var 1) (da_cons (d_var 2) da_nil)))))) (s_one (s_ret (d_var 1)))))
abbrev s__law_less : Stmt := top 52
theorem sc__law_less : FnScope ["one", "other"] ["one", "other"] (defScope s__law_less) := ⟨rfl, rfl, rfl, by decide +kernel, rfl, by decide +kernel, by decide +kernel⟩
theorem ok__law_less (T : Txt K mg) {f : Addr} {fd : FuncData} {cdv : Value} (D : DF K "_law_less" "_law_less" s__law_less f fd cdv) : FnOk P w K mg base CX0 1 f fd ["one", "other"] (spD K Ts 2 (runD 2 (F__law_less))) := by
  refine D.ok sc__law_less fun A outer s H E hr => ?_
  exact (s_one (s_ret (d_lt (d_times (b_ix (d_b (d_var 0)) d_int) (b_ix (d_b (d_var 1)) d_int)) (d_times (b_ix (d_b (d_var 1)) d_int) (b_ix (d_b (d_var 0)) d_int)))))
end
section
variable {P : Program} {w : World} {K : PySem.W.Frag} {mg : Str → Option Value} {base : Heap} {Ts : TsT}
abbrev s_taken : Stmt := top 45
theorem sc_taken : FnScope ["row", "many", "found", "cell"] ["row", "many"] (defScope s_taken) := ⟨rfl, rfl, rfl, by decide +kernel, rfl, by decide +kernel, by decide +kernel⟩
theorem ok_taken0 (T : Txt K mg) {f : Addr} {fd : FuncData} {cdv : Value} (D : DF K "_law_taken" "_law_taken" s_taken f fd cdv) : FnOk P w K mg base CX0 1 f fd ["row", "many"] (spW K Ts 1 (runZ 4 F_taken)) := by
  refine D.okZ sc_taken rfl (by decide) fun A outer s H E hr => ?_
  exact z_cons (z_if (dt_gt (b_ix (b_own 0) d_int) d_int) (z_cons (z_set (i := 2) sc_taken.nd rfl (by first | exact Or.inl rfl | exact Or.inr rfl) (by decide) (d_mod (d_toInt (by rfl) T.b_int (by decide +kernel) (b_ix (b_own 0) d_int)) (d_var 1))) (z_cons (z_row (c := 3) rfl (by first | exact Or.inl rfl | exact Or.inr (Or.inl rfl) | exact Or.inr (Or.inr rfl)) (d_div (b_ix (b_own 0) d_int) (d_var 1))) (z_one (z_ret (d_var 2))))) z_nil)
    (z_cons (z_row (c := 1) rfl (by first | exact Or.inl rfl | exact Or.inr (Or.inl rfl) | exact Or.inr (Or.inr rfl)) (d_plus (b_ix (b_own 0) d_int) d_int))
    (z_cons (z_if (dt_gt (b_ix (b_own 0) d_int) (d_len (by rfl) T.b_len (d_b (b_ix (b_own 0) d_int)))) (z_cons (z_row (c := 2) rfl (by first | exact Or.inl rfl | exact Or.inr (Or.inl rfl) | exact Or.inr (Or.inr rfl)) (d_mod (d_toInt (by rfl) T.b_int (by decide +kernel) (d_plus (d_mul (b_ix (b_own 0) d_int) d_int) d_int)) d_int)) (z_one (z_ret (d_mod (d_toInt (by rfl) T.b_int (by decide +kernel) (d_div (b_ix (b_own 0) d_int) d_int)) (d_var 1))))) z_nil)
    (z_cons (z_set (i := 3) sc_taken.nd rfl (by first | exact Or.inl rfl | exact Or.inr rfl) (by decide) (b_ix (d_b (b_ix (b_own 0) d_int)) (d_sub (b_ix (b_own 0) d_int) d_int)))
    (z_cons (z_row (c := 2) rfl (by first | exact Or.inl rfl | exact Or.inr (Or.inl rfl) | exact Or.inr (Or.inr rfl)) (d_mod (d_toInt (by rfl) T.b_int (by decide +kernel) (d_plus (d_plus (d_mul (b_ix (b_own 0) d_int) d_int) (d_var 3)) d_int)) d_int))
    (z_cons (z_if (dt_ge (d_var 3) (d_pow d_int d_int)) (z_one (z_row (c := 3) rfl (by first | exact Or.inl rfl | exact Or.inr (Or.inl rfl) | exact Or.inr (Or.inr rfl)) (d_div (d_var 3) (d_var 1)))) z_nil)
    (z_one (z_ret (d_mod (d_toInt (by rfl) T.b_int (by decide +kernel) (d_var 3)) (d_var 1)))))))))
theorem ok_taken (T : Txt K mg) {f : Addr} {fd : FuncData} {cdv : Value} (D : DF K "_law_taken" "_law_taken" s_taken f fd cdv) : FnOk P w K mg base CX0 1 f fd ["row", "many"] (spW K Ts 1 cTaken) := (ok_taken0 T D).imp (spW.imp taken_ok)
abbrev s_pick : Stmt := top 46
theorem sc_pick : FnScope ["row", "things"] ["row", "things"] (defScope s_pick) := ⟨rfl, rfl, rfl, by decide +kernel, rfl, by decide +kernel, by decide +kernel⟩
theorem ok_pick (T : Txt K mg) {f : Addr} {fd : FuncData} {cdv : Value} (D : DF K "_law_pick" "_law_pick" s_pick f fd cdv) (h_taken : CW P w K mg base Ts 1 "_law_taken" 1 cTaken) : FnOk P w K mg base CX0 2 f fd ["row", "things"] (spW K Ts 1 cPick) := by
  refine FnOk.imp (D.okW sc_pick rfl (by decide) rfl fun A outer s H E hr => ?_) (spW.imp pick_ok)
  exact we_ix (we_pure (d_var 1)) (we_draw hr h_taken (by decide) (by rfl) rfl (by first | exact Or.inl rfl | exact Or.inr (Or.inl rfl) | exact Or.inr (Or.inr rfl)) (wa_cons (we_pure (d_len (by rfl) T.b_len (d_b (d_var 1)))) wa_nil))
end
section
variable {P : Program} {w : World} {K : PySem.W.Frag} {mg : Str → Option Value} {base : Heap} {Ts : TsT}
abbrev s__law_house : Stmt := top 54
theorem sc__law_house : FnScope ["row", "share", "house", "k"] ["row"] (defScope s__law_house) := ⟨rfl, rfl, rfl, by decide +kernel, rfl, by decide +kernel, by decide +kernel⟩
theorem ok0__law_house {c__law_ratio : List PyData → Option PyData} (T : Txt K mg) {f : Addr} {fd : FuncData} {cdv : Value} (D : DF K "_law_house" "_law_house" s__law_house f fd cdv) (h__law_ratio : CF P w K mg base Ts 1 "_law_ratio" 2 c__law_ratio) (h__law_pick : CW P w K mg base Ts 2 "_law_pick" 1 cPick) (h__law_taken : CW P w K mg base Ts 1 "_law_taken" 1 cTaken) : FnOk P w K mg base CX0 3 f fd ["row"] (spW K Ts 0 (runV 4 (F__law_house c__law_ratio))) := by
  refine D.okV sc__law_house rfl (by decide) fun A outer s H E hr => ?_
  have l__law_ratio : 1 ≤ 2 := by decide
  have l__law_pick : 2 ≤ 2 := by decide
  have l__law_taken : 1 ≤ 2 := by decide
  exact (v_cons (v_set (i := 1) sc__law_house.nd rfl (by first | exact Or.inl rfl | exact Or.inr rfl) (by decide) (we_draw hr h__law_pick l__law_pick (by rfl) rfl (by first | exact Or.inl rfl | exact Or.inr (Or.inl rfl) | exact Or.inr (Or.inr rfl)) (wa_cons (we_lst (wa_cons (we_pure (d_tup (da_cons d_int (da_cons d_int da_nil)))) (wa_cons (we_pure (d_tup (da_cons d_int (da_cons d_int da_nil)))) (wa_cons (we_pure (d_tup (da_cons d_int (da_cons d_int da_nil)))) (wa_cons (we_call hr (CF.call h__law_ratio) l__law_ratio (by rfl) (wa_cons (we_plus (we_pure d_int) (we_draw hr h__law_taken l__law_taken (by rfl) rfl (by first | exact Or.inl rfl | exact Or.inr (Or.inl rfl) | exact Or.inr (Or.inr rfl)) (wa_cons (we_pure d_int) wa_nil))) (wa_cons (we_pure d_int) wa_nil))) wa_nil))))) wa_nil))) (v_cons (v_set (i := 2) sc__law_house.nd rfl (by first | exact Or.inl rfl | exact Or.inr rfl) (by decide) (we_tup (wa_cons (we_draw hr h__law_pick l__law_pick (by rfl) rfl (by first | exact Or.inl rfl | exact Or.inr (Or.inl rfl) | exact Or.inr (Or.inr rfl)) (wa_cons (we_lst (wa_cons (we_pure d_int) (wa_cons (we_pure d_int) (wa_cons (we_pure d_int) (wa_cons (we_draw hr h__law_taken l__law_taken (by rfl) rfl (by first | exact Or.inl rfl | exact Or.inr (Or.inl rfl) | exact Or.inr (Or.inr rfl)) (wa_cons (we_pure d_int) wa_nil)) wa_nil))))) wa_nil)) (wa_cons (we_plus (we_pure d_int) (we_draw hr h__law_taken l__law_taken (by rfl) rfl (by first | exact Or.inl rfl | exact Or.inr (Or.inl rfl) | exact Or.inr (Or.inr rfl)) (wa_cons (we_pure d_int) wa_nil))) (wa_cons (we_plus (we_pure d_int) (we_draw hr h__law_taken l__law_taken (by rfl) rfl (by first | exact Or.inl rfl | exact Or.inr (Or.inl rfl) | exact Or.inr (Or.inr rfl)) (wa_cons (we_pure d_int) wa_nil))) (wa_cons (we_pure (d_var 1)) wa_nil)))))) (v_one (v_ret (we_tup (wa_cons (we_pure (d_var 2)) (wa_cons (we_tuple (by rfl) T.b_tuple (by decide +kernel) (we_lc (own := [("k", 3)]) rfl sc__law_house.nd (wi_range1 (by rfl) T.b_range (we_plus (we_pure d_int) (we_draw hr h__law_taken l__law_taken (by rfl) rfl (by first | exact Or.inl rfl | exact Or.inr (Or.inl rfl) | exact Or.inr (Or.inr rfl)) (wa_cons (we_pure d_int) wa_nil)))) (blkOk_by (own := [("k", 3)]) (N := ["row", "share", "house", "k"]) (sc := defScope s__law_house) (by decide +kernel)) (by decide) (bOk_name (by decide)) bName_out (fun _ _ _ _ _ => (dg_name 3 sc__law_house.nd rfl (by first | exact Or.inl rfl | exact Or.inr rfl) (by decide))) (fun _ _ _ _ _ => wts_nil) (fun _ _ _ _ _ => (we_draw hr h__law_pick l__law_pick (by rfl) rfl (by first | exact Or.inl rfl | exact Or.inr (Or.inl rfl) | exact Or.inr (Or.inr rfl)) (wa_cons (we_lst (wa_cons (we_pure d_int) (wa_cons (we_pure d_int) (wa_cons (we_pure d_int) (wa_cons (we_draw hr h__law_taken l__law_taken (by rfl) rfl (by first | exact Or.inl rfl | exact Or.inr (Or.inl rfl) | exact Or.inr (Or.inr rfl)) (wa_cons (we_pure d_int) wa_nil)) wa_nil))))) wa_nil))) (mn_draw mc_pick (mna_cons (mn_lst (mna_cons mn_p (mna_cons mn_p (mna_cons mn_p (mna_cons (mn_draw mc_taken (mna_cons mn_p mna_nil)) mna_nil))))) mna_nil)) mnt_yes (mni_range (mn_2 mn_p (mn_draw mc_taken (mna_cons mn_p mna_nil)))))) wa_nil)))))))
theorem ok_house (T : Txt K mg) {f : Addr} {fd : FuncData} {cdv : Value} (D : DF K "_law_house" "_law_house" s__law_house f fd cdv) (h__law_ratio : CF P w K mg base Ts 1 "_law_ratio" 2 S__law_ratio) (h__law_pick : CW P w K mg base Ts 2 "_law_pick" 1 cPick) (h__law_taken : CW P w K mg base Ts 1 "_law_taken" 1 cTaken) : FnOk P w K mg base CX0 3 f fd ["row"] (spW K Ts 0 cHouse) := FnOk.imp (ok0__law_house T D h__law_ratio h__law_pick h__law_taken) (spW.imp house_ok)
end
section
variable {P : Program} {w : World} {K : PySem.W.Frag} {mg : Str → Option Value} {base : Heap} {Ts : TsT}
abbrev s_law : Stmt := top 59
theorem sc_law : FnScope ["script", "row", "house", "prices", "most", "capacity", "up", "down", "share", "some", "other", "more", "plan", "same"] ["script"] (defScope s_law) := ⟨rfl, rfl, rfl, by decide +kernel, rfl, by decide +kernel, by decide +kernel⟩
theorem ok_law {c_pump_profit c__law_less c_pump_plan c_shows_pumping c__law_sum : List PyData → Option PyData} (T : Txt K mg) {f : Addr} {fd : FuncData} {cdv : Value} (D : DF K "law" "law" s_law f fd cdv) (h_pump_profit : CF P w K mg base Ts 8 "pump_profit" 2 c_pump_profit) (h__law_less : CF P w K mg base Ts 1 "_law_less" 2 c__law_less) (h_pump_plan : CF P w K mg base Ts 7 "pump_plan" 2 c_pump_plan) (h_shows_pumping : CF P w K mg base Ts 9 "shows_pumping" 3 c_shows_pumping) (h__law_sum : CF P w K mg base Ts 3 "_law_sum" 1 c__law_sum) (h__law_house : CW P w K mg base Ts 3 "_law_house" 0 cHouse) (h__law_taken : CW P w K mg base Ts 1 "_law_taken" 1 cTaken)
    (hF : ∀ ns : List Int, ns.length ≤ 63 → ∃ rw, RowOk rw ∧ F_row (lawEn 14 ns) = some (.list rw) ∧ ∀ en', (∃ rw', en' = (lawEn 14 ns).set 1 (.own rw')) → F_law c_pump_profit c__law_less c_pump_plan c_shows_pumping c__law_sum en' fun r => r = .rt (.bool true)) : FnOk P w K mg base CX0 10 f fd ["script"] (spLaw K Ts) := by
  refine D.okVL (ρ := 1) sc_law (by decide) rfl (by decide) (fun A outer s H E hr => ?_) (fun A outer s H E hr => ?_) hF
  · exact s_own (i := 1) sc_law.nd rfl (by first | exact Or.inl rfl | exact Or.inr rfl) (n_lst (da_cons (d_var 0) (da_cons d_int (da_cons d_int (da_cons d_int da_nil)))))
  · have l_pump_profit : 8 ≤ 9 := by decide
    have l__law_less : 1 ≤ 9 := by decide
    have l_pump_plan : 7 ≤ 9 := by decide
    have l_shows_pumping : 9 ≤ 9 := by decide
    have l__law_sum : 3 ≤ 9 := by decide
    have l__law_house : 3 ≤ 9 := by decide
    have l__law_taken : 1 ≤ 9 := by decide
    exact (v_cons (v_bind (vs := [2, 3]) (we_draw hr h__law_house l__law_house (by rfl) rfl (by first | exact Or.inl rfl | exact Or.inr (Or.inl rfl) | exact Or.inr (Or.inr rfl)) wa_nil) (dg_tup rfl (dgs_cons (dg_name 2 sc_law.nd rfl (by first | exact Or.inl rfl | exact Or.inr rfl) (by decide)) (dgs_cons (dg_name 3 sc_law.nd rfl (by first | exact Or.inl rfl | exact Or.inr rfl) (by decide)) dgs_nil))) (bOk_tup (by decide)) (by decide)) (v_cons (v_set (i := 4) sc_law.nd rfl (by first | exact Or.inl rfl | exact Or.inr rfl) (by decide) (we_pure (d_call hr (CF.call h_pump_profit) l_pump_profit (by rfl) (da_cons (d_var 2) (da_cons (d_var 3) da_nil))))) (v_cons (v_bind (vs := [5, 6, 7, 8]) (we_pure (d_var 2)) (dg_tup rfl (dgs_cons (dg_name 5 sc_law.nd rfl (by first | exact Or.inl rfl | exact Or.inr rfl) (by decide)) (dgs_cons (dg_name 6 sc_law.nd rfl (by first | exact Or.inl rfl | exact Or.inr rfl) (by decide)) (dgs_cons (dg_name 7 sc_law.nd rfl (by first | exact Or.inl rfl | exact Or.inr rfl) (by decide)) (dgs_cons (dg_name 8 sc_law.nd rfl (by first | exact Or.inl rfl | exact Or.inr rfl) (by decide)) dgs_nil))))) (bOk_tup (by decide)) (by decide)) (v_cons (v_set (i := 9) sc_law.nd rfl (by first | exact Or.inl rfl | exact Or.inr rfl) (by decide) (we_pure (d_lst (da_cons (d_tup (da_cons (d_min2 rfl (by rfl) T.b_min (by decide +kernel) d_int (d_plus (d_var 5) d_int)) (da_cons (d_var 6) (da_cons (d_var 7) (da_cons (d_var 8) da_nil))))) (da_cons (d_tup (da_cons (d_var 5) (da_cons (d_plus (d_var 6) d_int) (da_cons (d_var 7) (da_cons (d_var 8) da_nil))))) (da_cons (d_tup (da_cons (d_var 5) (da_cons (d_var 6) (da_cons (d_plus (d_var 7) d_int) (da_cons (d_var 8) da_nil))))) (da_cons (d_tup (da_cons (d_var 5) (da_cons (d_var 6) (da_cons (d_var 7) (da_cons (d_tup (da_cons d_int (da_cons d_int da_nil))) da_nil))))) da_nil))))))) (v_cons (v_for (vs := [10]) PassesOwn.never rfl (wi_pure (di_seq (d_var 9))) (dg_name 10 sc_law.nd rfl (by first | exact Or.inl rfl | exact Or.inr rfl) (by decide)) (bOk_name (by decide)) (by decide) (v_one (v_if (wt_pure (dt_val (d_call hr (CF.call h__law_less) l__law_less (by rfl) (da_cons (d_call hr (CF.call h_pump_profit) l_pump_profit (by rfl) (da_cons (d_var 10) (da_cons (d_var 3) da_nil))) (da_cons (d_var 4) da_nil))))) (v_one (v_ret (we_pure d_bl))) v_nil))) (v_cons (v_if (wt_pure (dt_ne hr (d_call hr (CF.call h_pump_profit) l_pump_profit (by rfl) (da_cons (d_tup (da_cons d_int (da_cons (d_var 6) (da_cons (d_var 7) (da_cons (d_var 8) da_nil))))) (da_cons (d_var 3) da_nil))) (d_tup (da_cons d_int (da_cons d_int da_nil))))) (v_one (v_ret (we_pure d_bl))) v_nil) (v_cons (v_if (wt_and (wt_pure (dt_lt (d_len (by rfl) T.b_len (d_b (d_var 3))) d_int)) (wt_val (we_call hr (CF.call h__law_less) l__law_less (by rfl) (wa_cons (we_call hr (CF.call h_pump_profit) l_pump_profit (by rfl) (wa_cons (we_pure (d_var 2)) (wa_cons (we_plus (we_pure (d_var 3)) (we_tup (wa_cons (we_draw hr h__law_taken l__law_taken (by rfl) rfl (by first | exact Or.inl rfl | exact Or.inr (Or.inl rfl) | exact Or.inr (Or.inr rfl)) (wa_cons (we_pure d_int) wa_nil)) wa_nil))) wa_nil))) (wa_cons (we_pure (d_var 4)) wa_nil))))) (v_one (v_ret (we_pure d_bl))) v_nil) (v_end (s_cons (s_set (i := 11) sc_law.nd rfl (by first | exact Or.inl rfl | exact Or.inr rfl) (d_plus (b_cut (d_b (d_var 3)) dp_none (dp_some (d_neg d_int))) (d_tup (da_cons (d_min2 rfl (by rfl) T.b_min (by decide +kernel) d_int (d_plus (b_ix (d_b (d_var 3)) (d_neg d_int)) d_int)) da_nil)))) (s_cons (s_if (dt_val (d_call hr (CF.call h__law_less) l__law_less (by rfl) (da_cons (d_call hr (CF.call h_pump_profit) l_pump_profit (by rfl) (da_cons (d_var 2) (da_cons (d_var 11) da_nil))) (da_cons (d_var 4) da_nil)))) (s_one (s_ret d_bl)) s_nil) (s_cons (s_set (i := 12) sc_law.nd rfl (by first | exact Or.inl rfl | exact Or.inr rfl) (d_call hr (CF.call h_pump_plan) l_pump_plan (by rfl) (da_cons (d_var 2) (da_cons (d_var 3) da_nil)))) (s_cons (s_if (dt_w (dw_or (dt_notB (d_call hr (CF.call h_shows_pumping) l_shows_pumping (by rfl) (da_cons (d_var 2) (da_cons (d_var 3) (da_cons (d_var 12) da_nil)))) d_bl) (dw_or1 (dt_val (d_call hr (CF.call h__law_less) l__law_less (by rfl) (da_cons (d_call hr (CF.call h__law_sum) l__law_sum (by rfl) (da_cons (d_list (by rfl) T.b_list (by decide +kernel) (d_b (b_ix (d_b (d_var 12)) d_int))) da_nil)) (da_cons (d_call hr (CF.call h__law_sum) l__law_sum (by rfl) (da_cons (d_list (by rfl) T.b_list (by decide +kernel) (d_b (b_ix (d_b (d_var 12)) d_int))) da_nil)) da_nil))))))) (s_one (s_ret d_bl)) s_nil) (s_cons (s_set (i := 13) sc_law.nd rfl (by first | exact Or.inl rfl | exact Or.inr rfl) (d_times (d_tup (da_cons (b_ix (d_b (d_var 3)) d_int) da_nil)) (d_len (by rfl) T.b_len (d_b (d_var 3))))) (s_one (s_ret (d_and (d_eq hr (d_call hr (CF.call h_pump_profit) l_pump_profit (by rfl) (da_cons (d_var 2) (da_cons (d_var 13) da_nil))) (d_tup (da_cons d_int (da_cons d_int da_nil)))) (d_one (d_not (d_call hr (CF.call h__law_less) l__law_less (by rfl) (da_cons (d_var 4) (da_cons (d_tup (da_cons d_int (da_cons d_int da_nil))) da_nil)))))))))))))))))))))
end
end L94
namespace Ty
open PySem PySem.Spec PyProof.Rows L2 DN
abbrev St : Type := List (Int × Int)
def clp (y : Rat) (u : Int) : Rat := if y ≤ 0 then 0 else if (u : Rat) ≤ y then (u : Rat) else y
def stV : St → Rat → Rat
  | [], _ => 0
  | s :: r, y => (s.1 : Rat) * clp y s.2 + stV r (y - (s.2 : Rat))
def ovP (t : Rat) (p : Int) : Rat := if t < (p : Rat) then (p : Rat) - t else 0
def stC (t : Rat) : St → Rat
  | [] => 0
  | s :: r => (s.2 : Rat) * ovP t s.1 + stC t r
def stN : St → Int
  | [] => 0
  | s :: r => s.2 + stN r
def Un (S : St) : Prop := ∀ s ∈ S, 0 ≤ s.2
def Dn (S : St) : Prop := S.Pairwise fun a b => b.1 ≤ a.1
def Pz (S : St) : Prop := ∀ s ∈ S, 0 ≤ s.1
theorem Un.tl {s : Int × Int} {r : St} (h : Un (s :: r)) : Un r := fun x hx => h x (List.mem_cons_of_mem _ hx)
theorem Pz.tl {s : Int × Int} {r : St} (h : Pz (s :: r)) : Pz r := fun x hx => h x (List.mem_cons_of_mem _ hx)
theorem c0 {u : Int} (h : 0 ≤ u) : (0 : Rat) ≤ (u : Rat) := Rat.intCast_nonneg.mpr h
theorem stN_nonneg : ∀ {S : St}, Un S → 0 ≤ stN S
  | [], _ => Int.le_refl _
  | s :: r, h => by
    have a := h s List.mem_cons_self
    have b := stN_nonneg h.tl
    show 0 ≤ s.2 + stN r
    omega
theorem stV_nonpos : ∀ {S : St} {y : Rat}, Un S → y ≤ 0 → stV S y = 0
  | [], _, _, _ => rfl
  | s :: r, y, h, hy => by
    have a := c0 (h s List.mem_cons_self)
    show (s.1 : Rat) * clp y s.2 + stV r (y - (s.2 : Rat)) = 0
    rw [stV_nonpos h.tl (by grind)]
    unfold clp
    rw [if_pos hy]
    grind
theorem ovP_ge (t : Rat) (p : Int) : (p : Rat) - t ≤ ovP t p ∧ 0 ≤ ovP t p := by
  unfold ovP
  split <;> constructor <;> grind
theorem stV_le {t : Rat} (ht : 0 ≤ t) : ∀ {S : St} {y : Rat}, Un S → 0 ≤ y → stV S y ≤ stC t S + t * y
  | [], y, _, hy => by
    show (0 : Rat) ≤ 0 + t * y
    have := Rat.mul_nonneg ht hy
    grind
  | s :: r, y, h, hy => by
    have a := c0 (h s List.mem_cons_self)
    obtain ⟨o1, o2⟩ := ovP_ge t s.1
    show (s.1 : Rat) * clp y s.2 + stV r (y - (s.2 : Rat)) ≤ (s.2 : Rat) * ovP t s.1 + stC t r + t * y
    have rest0 : 0 ≤ stC t r := by
      have : ∀ {r : St}, Un r → 0 ≤ stC t r := by
        intro r
        induction r with
        | nil => intro _; exact Rat.le_refl
        | cons z r ih =>
          intro hr
          have := ih hr.tl
          have e := Rat.mul_nonneg (c0 (hr z List.mem_cons_self)) (ovP_ge t z.1).2
          show 0 ≤ (z.2 : Rat) * ovP t z.1 + stC t r
          grind
      exact this h.tl
    unfold clp
    by_cases z : y ≤ 0
    · have y0 : y = 0 := Rat.le_antisymm z hy
      rw [if_pos z, stV_nonpos h.tl (by grind)]
      have := Rat.mul_nonneg a o2
      subst y0
      grind
    · rw [if_neg z]
      by_cases w : (s.2 : Rat) ≤ y
      · rw [if_pos w]
        have i := stV_le ht h.tl (y := y - (s.2 : Rat)) (by grind)
        have m := Rat.mul_le_mul_of_nonneg_left o1 a
        grind
      · rw [if_neg w, stV_nonpos h.tl (by grind)]
        have m1 := Rat.mul_le_mul_of_nonneg_left o1 hy
        have m2 := Rat.mul_le_mul_of_nonneg_right (show y ≤ (s.2 : Rat) by grind) o2
        grind
theorem stC_low {t : Rat} : ∀ {S : St}, (∀ s ∈ S, (s.1 : Rat) ≤ t) → stC t S = 0
  | [], _ => rfl
  | s :: r, h => by
    show (s.2 : Rat) * ovP t s.1 + stC t r = 0
    rw [stC_low fun x hx => h x (List.mem_cons_of_mem _ hx)]
    have := h s List.mem_cons_self
    unfold ovP
    rw [if_neg (by grind)]
    grind
theorem stV_at : ∀ {S : St} {y : Rat}, S ≠ [] → Un S → Dn S → 0 ≤ y → y ≤ (stN S : Rat) → ∃ s ∈ S, stC (s.1 : Rat) S + (s.1 : Rat) * y = stV S y
  | [], _, h, _, _, _, _ => absurd rfl h
  | s :: r, y, _, hu, hd, h0, h1 => by
    have a := c0 (hu s List.mem_cons_self)
    have dn := List.pairwise_cons.mp hd
    by_cases w : y ≤ (s.2 : Rat)
    · refine ⟨s, List.mem_cons_self, ?_⟩
      show (s.2 : Rat) * ovP (s.1 : Rat) s.1 + stC (s.1 : Rat) r + (s.1 : Rat) * y = (s.1 : Rat) * clp y s.2 + stV r (y - (s.2 : Rat))
      rw [stC_low fun x hx => Rat.intCast_le_intCast.mpr (dn.1 x hx), stV_nonpos hu.tl (by grind)]
      have o : ovP (s.1 : Rat) s.1 = 0 := by unfold ovP; rw [if_neg Rat.lt_irrefl]
      rw [o]
      unfold clp
      by_cases z : y ≤ 0
      · have y0 : y = 0 := Rat.le_antisymm z h0
        rw [if_pos z, y0]
        grind
      · rw [if_neg z]
        by_cases v : (s.2 : Rat) ≤ y
        · rw [if_pos v]
          have : y = (s.2 : Rat) := Rat.le_antisymm w v
          grind
        · rw [if_neg v]
          grind
    · have hN : (stN (s :: r) : Rat) = (s.2 : Rat) + (stN r : Rat) := by
        show ((s.2 + stN r : Int) : Rat) = _
        rw [Rat.intCast_add]
      rw [hN] at h1
      have hr : r ≠ [] := by
        rintro rfl
        have z : (stN ([] : St) : Rat) = 0 := rfl
        rw [z] at h1
        grind
      obtain ⟨q, q1, q2⟩ := stV_at (S := r) (y := y - (s.2 : Rat)) hr hu.tl dn.2 (by grind) (by grind)
      refine ⟨q, List.mem_cons_of_mem _ q1, ?_⟩
      have le : (q.1 : Rat) ≤ (s.1 : Rat) := Rat.intCast_le_intCast.mpr (dn.1 q q1)
      show (s.2 : Rat) * ovP (q.1 : Rat) s.1 + stC (q.1 : Rat) r + (q.1 : Rat) * y = (s.1 : Rat) * clp y s.2 + stV r (y - (s.2 : Rat))
      rw [← q2]
      have o : ovP (q.1 : Rat) s.1 = (s.1 : Rat) - (q.1 : Rat) := by
        unfold ovP
        split <;> grind
      rw [o]
      unfold clp
      rw [if_neg (by grind), if_pos (by grind)]
      grind
theorem stV_ex {S : St} {y : Rat} (hu : Un S) (hd : Dn S) (hp : Pz S) (h0 : 0 ≤ y) (h1 : y ≤ (stN S : Rat)) : ∃ t, 0 ≤ t ∧ stC t S + t * y = stV S y := by
  by_cases e : S = []
  · subst e
    have z : (stN ([] : St) : Rat) = 0 := rfl
    rw [z] at h1
    have : y = 0 := Rat.le_antisymm h1 h0
    subst this
    exact ⟨0, Rat.le_refl, by show (0 : Rat) + 0 * 0 = 0; grind⟩
  · obtain ⟨s, s1, s2⟩ := stV_at e hu hd h0 h1
    exact ⟨_, c0 (hp s s1), s2⟩
theorem stC_perm {t : Rat} {S T : St} (h : S.Perm T) : stC t S = stC t T := by
  induction h with
  | nil => rfl
  | cons x _ ih => show _ + stC t _ = _ + stC t _; rw [ih]
  | swap x y l => show (y.2 : Rat) * ovP t y.1 + ((x.2 : Rat) * ovP t x.1 + stC t l) = (x.2 : Rat) * ovP t x.1 + ((y.2 : Rat) * ovP t y.1 + stC t l); grind
  | trans _ _ h1 h2 => exact h1.trans h2
theorem stN_perm {S T : St} (h : S.Perm T) : stN S = stN T := by
  induction h with
  | nil => rfl
  | cons x _ ih => show _ + stN _ = _ + stN _; rw [ih]
  | swap x y l => show y.2 + (x.2 + stN l) = x.2 + (y.2 + stN l); omega
  | trans _ _ h1 h2 => exact h1.trans h2
theorem stC_app (t : Rat) : ∀ S T : St, stC t (S ++ T) = stC t S + stC t T
  | [], T => by show stC t T = 0 + stC t T; grind
  | s :: r, T => by
    show (s.2 : Rat) * ovP t s.1 + stC t (r ++ T) = (s.2 : Rat) * ovP t s.1 + stC t r + stC t T
    rw [stC_app t r T]
    grind
theorem stN_app : ∀ S T : St, stN (S ++ T) = stN S + stN T
  | [], T => by show stN T = 0 + stN T; omega
  | s :: r, T => by
    show s.2 + stN (r ++ T) = s.2 + stN r + stN T
    rw [stN_app r T]
    omega
theorem stV_free {n : Int} : ∀ {S : St} {y : Rat}, stV (S ++ [(0, n)]) y = stV S y
  | [], y => by
    show ((0 : Int) : Rat) * clp y n + 0 = 0
    have : ((0 : Int) : Rat) = 0 := rfl
    rw [this]
    grind
  | s :: r, y => by
    show (s.1 : Rat) * clp y s.2 + stV (r ++ [(0, n)]) _ = (s.1 : Rat) * clp y s.2 + stV r _
    rw [stV_free]
def prt : St → Int → Int → St
  | [], _, _ => []
  | s :: r, f, b => (if 0 < min2 s.2 b - max2 0 f then [(s.1, min2 s.2 b - max2 0 f)] else []) ++ prt r (f - s.2) (b - s.2)
theorem prt_nil : ∀ {S : St} {f b : Int}, Un S → b ≤ 0 → prt S f b = []
  | [], _, _, _, _ => rfl
  | s :: r, f, b, h, hb => by
    have a := h s List.mem_cons_self
    have m1 : min2 s.2 b ≤ b := by show (if b < s.2 then b else s.2) ≤ b; split <;> omega
    have m2 : 0 ≤ max2 0 f := by show 0 ≤ (if f > 0 then f else 0); split <;> omega
    show (if 0 < min2 s.2 b - max2 0 f then [(s.1, min2 s.2 b - max2 0 f)] else []) ++ prt r (f - s.2) (b - s.2) = []
    rw [if_neg (by omega), prt_nil h.tl (by omega)]
    rfl
theorem prt_mem : ∀ {S : St} {f b : Int} {q : Int × Int}, q ∈ prt S f b → 0 < q.2 ∧ ∃ s ∈ S, s.1 = q.1
  | [], _, _, _, h => nomatch h
  | s :: r, f, b, q, h => by
    rcases List.mem_append.mp h with z | z
    · by_cases c : 0 < min2 s.2 b - max2 0 f
      · rw [if_pos c] at z
        rw [List.mem_singleton.mp z]
        exact ⟨c, s, List.mem_cons_self, rfl⟩
      · rw [if_neg c] at z
        exact nomatch z
    · obtain ⟨a, w, w1, w2⟩ := prt_mem z
      exact ⟨a, w, List.mem_cons_of_mem _ w1, w2⟩
theorem prt_un {S : St} {f b : Int} : Un (prt S f b) := fun q hq => Int.le_of_lt (prt_mem hq).1
theorem prt_pz {S : St} {f b : Int} (h : Pz S) : Pz (prt S f b) := fun q hq => by
  obtain ⟨_, s, s1, s2⟩ := prt_mem hq
  rw [← s2]
  exact h s s1
theorem prt_dn : ∀ {S : St} {f b : Int}, Dn S → Dn (prt S f b)
  | [], _, _, _ => .nil
  | s :: r, f, b, h => by
    have dn := List.pairwise_cons.mp h
    have i := prt_dn (f := f - s.2) (b := b - s.2) dn.2
    show Dn ((if 0 < min2 s.2 b - max2 0 f then [(s.1, min2 s.2 b - max2 0 f)] else []) ++ prt r (f - s.2) (b - s.2))
    split
    · refine List.pairwise_cons.mpr ⟨fun q hq => ?_, i⟩
      obtain ⟨_, w, w1, w2⟩ := prt_mem hq
      rw [← w2]
      exact dn.1 w w1
    · exact i
theorem prt_len : ∀ {S : St} {f b : Int}, (prt S f b).length ≤ S.length
  | [], _, _ => Nat.le_refl _
  | s :: r, f, b => by
    have i := prt_len (S := r) (f := f - s.2) (b := b - s.2)
    show ((if 0 < min2 s.2 b - max2 0 f then [(s.1, min2 s.2 b - max2 0 f)] else []) ++ prt r (f - s.2) (b - s.2)).length ≤ r.length + 1
    rw [List.length_append]
    split
    · rw [List.length_singleton]; omega
    · rw [List.length_nil]; omega
theorem clp_mid {y : Rat} {u : Int} (h0 : 0 ≤ y) (h1 : y ≤ (u : Rat)) : clp y u = y := by
  unfold clp
  by_cases z : y ≤ 0
  · rw [if_pos z]
    exact Rat.le_antisymm h0 z
  · rw [if_neg z]
    by_cases v : (u : Rat) ≤ y
    · rw [if_pos v]
      exact Rat.le_antisymm v h1
    · rw [if_neg v]
theorem clp_hi {y : Rat} {u : Int} (h0 : 0 ≤ u) (h1 : (u : Rat) ≤ y) : clp y u = (u : Rat) := by
  have a := c0 h0
  unfold clp
  by_cases z : y ≤ 0
  · rw [if_pos z]
    grind
  · rw [if_neg z, if_pos h1]
theorem stV_zero {S : St} (h : Un S) : stV S 0 = 0 := stV_nonpos h Rat.le_refl
theorem stV_cons (s : Int × Int) (r : St) (y : Rat) : stV (s :: r) y = (s.1 : Rat) * clp y s.2 + stV r (y - (s.2 : Rat)) := rfl
theorem stV_prt : ∀ {S : St} {f b : Int} {t : Rat}, Un S → f ≤ b → 0 ≤ b → 0 ≤ t → (max2 0 f : Rat) + t ≤ (b : Rat) → stV (prt S f b) t = stV S ((max2 0 f : Rat) + t) - stV S (max2 0 f : Rat)
  | [], f, b, t, _, _, _, _, _ => by show (0 : Rat) = 0 - 0; grind
  | s :: r, f, b, t, hu, hfb, hb, ht, htb => by
    have hu0 := hu s List.mem_cons_self
    have ur := c0 hu0
    have zc : ((0 : Int) : Rat) = 0 := rfl
    show stV ((if 0 < min2 s.2 b - max2 0 f then [(s.1, min2 s.2 b - max2 0 f)] else []) ++ prt r (f - s.2) (b - s.2)) t = _
    have ih := fun (t' : Rat) (h1 : 0 ≤ t') (h2 : 0 ≤ b - s.2) (h3 : (max2 0 (f - s.2) : Rat) + t' ≤ ((b - s.2 : Int) : Rat)) => stV_prt (S := r) (f := f - s.2) (b := b - s.2) (t := t') hu.tl (by omega) h2 h1 h3
    have cb : ((b - s.2 : Int) : Rat) = (b : Rat) - (s.2 : Rat) := Rat.intCast_sub b s.2
    by_cases cf : f ≤ 0
    · have eF : max2 0 f = 0 := by show (if f > 0 then f else 0) = 0; rw [if_neg (by omega)]
      have eG : max2 0 (f - s.2) = 0 := by show (if f - s.2 > 0 then f - s.2 else 0) = 0; rw [if_neg (by omega)]
      rw [eF] at htb ⊢
      rw [eG] at ih
      rw [zc] at htb ih ⊢
      rw [stV_zero hu, Int.sub_zero]
      have e0 : (0 : Rat) + t = t := by grind
      rw [e0] at htb ⊢
      by_cases cu : s.2 ≤ b
      · have em : min2 s.2 b = s.2 := by show (if b < s.2 then b else s.2) = s.2; rw [if_neg (by omega)]
        rw [em]
        by_cases pu : 0 < s.2
        · rw [if_pos pu]
          show stV ((s.1, s.2) :: prt r (f - s.2) (b - s.2)) t = stV (s :: r) t - 0
          rw [stV_cons, stV_cons]
          by_cases ct : t ≤ (s.2 : Rat)
          · rw [stV_nonpos prt_un (by show t - (s.2 : Rat) ≤ 0; grind), stV_nonpos hu.tl (by grind)]
            grind
          · have := ih (t - (s.2 : Rat)) (by grind) (by omega) (by rw [cb]; grind)
            show (s.1 : Rat) * clp t s.2 + stV (prt r (f - s.2) (b - s.2)) (t - (s.2 : Rat)) = _
            rw [this, stV_zero hu.tl]
            have : (0 : Rat) + (t - (s.2 : Rat)) = t - (s.2 : Rat) := by grind
            rw [this]
            grind
        · have u0 : s.2 = 0 := by omega
          rw [if_neg pu, List.nil_append, stV_cons]
          have := ih t ht (by omega) (by rw [cb, u0, zc]; grind)
          rw [this, stV_zero hu.tl]
          have h1 : clp t s.2 = (s.2 : Rat) := clp_hi hu0 (by rw [u0, zc]; exact ht)
          rw [h1, u0, zc]
          have : (0 : Rat) + t = t := by grind
          have h2 : t - 0 = t := by grind
          rw [this, h2]
          grind
      · have em : min2 s.2 b = b := by show (if b < s.2 then b else s.2) = b; rw [if_pos (by omega)]
        have cu' : (b : Rat) ≤ (s.2 : Rat) := Rat.intCast_le_intCast.mpr (by omega)
        rw [em, prt_nil hu.tl (by omega), List.append_nil, stV_cons, stV_nonpos hu.tl (by grind), clp_mid ht (by grind)]
        by_cases pb : 0 < b
        · rw [if_pos pb, stV_cons]
          show (s.1 : Rat) * clp t b + 0 = _
          rw [clp_mid ht htb]
          grind
        · have b0 : b = 0 := by omega
          rw [if_neg pb]
          rw [b0, zc] at htb
          have : t = 0 := Rat.le_antisymm htb ht
          subst this
          show (0 : Rat) = _
          grind
    · have eF : max2 0 f = f := by show (if f > 0 then f else 0) = f; rw [if_pos (by omega)]
      rw [eF] at htb ⊢
      have fr : (0 : Rat) ≤ (f : Rat) := c0 (by omega)
      by_cases cu : s.2 ≤ f
      · have eG : max2 0 (f - s.2) = f - s.2 := by
          show (if f - s.2 > 0 then f - s.2 else 0) = f - s.2
          split <;> omega
        have em : min2 s.2 b = s.2 := by show (if b < s.2 then b else s.2) = s.2; rw [if_neg (by omega)]
        have cfr : ((f - s.2 : Int) : Rat) = (f : Rat) - (s.2 : Rat) := Rat.intCast_sub f s.2
        have cur : (s.2 : Rat) ≤ (f : Rat) := Rat.intCast_le_intCast.mpr cu
        rw [eG, cfr] at ih
        rw [em, if_neg (by omega), List.nil_append, ih t ht (by omega) (by rw [cb]; grind), stV_cons, stV_cons, clp_hi hu0 (by grind), clp_hi hu0 cur]
        have e1 : (f : Rat) - (s.2 : Rat) + t = (f : Rat) + t - (s.2 : Rat) := by grind
        rw [e1]
        grind
      · have eG : max2 0 (f - s.2) = 0 := by show (if f - s.2 > 0 then f - s.2 else 0) = 0; rw [if_neg (by omega)]
        have cur : (f : Rat) ≤ (s.2 : Rat) := Rat.intCast_le_intCast.mpr (by omega)
        rw [eG, zc] at ih
        have sf : stV (s :: r) (f : Rat) = (s.1 : Rat) * (f : Rat) := by
          rw [stV_cons, clp_mid fr cur, stV_nonpos hu.tl (by grind)]
          grind
        rw [sf]
        by_cases ub : s.2 ≤ b
        · have em : min2 s.2 b = s.2 := by show (if b < s.2 then b else s.2) = s.2; rw [if_neg (by omega)]
          have cuf : ((s.2 - f : Int) : Rat) = (s.2 : Rat) - (f : Rat) := Rat.intCast_sub s.2 f
          rw [em, if_pos (by omega)]
          show stV ((s.1, s.2 - f) :: prt r (f - s.2) (b - s.2)) t = _
          rw [stV_cons, stV_cons]
          show (s.1 : Rat) * clp t (s.2 - f) + stV (prt r (f - s.2) (b - s.2)) (t - ((s.2 - f : Int) : Rat)) = _
          by_cases ct : t ≤ (s.2 : Rat) - (f : Rat)
          · rw [clp_mid ht (by rw [cuf]; exact ct), stV_nonpos prt_un (by rw [cuf]; grind), stV_nonpos hu.tl (by grind), clp_mid (by grind) (by grind)]
            grind
          · rw [clp_hi (by omega) (by rw [cuf]; grind), cuf, ih (t - ((s.2 : Rat) - (f : Rat))) (by grind) (by omega) (by rw [cb]; grind), stV_zero hu.tl, clp_hi hu0 (by grind)]
            have e1 : (0 : Rat) + (t - ((s.2 : Rat) - (f : Rat))) = (f : Rat) + t - (s.2 : Rat) := by grind
            rw [e1]
            grind
        · have em : min2 s.2 b = b := by show (if b < s.2 then b else s.2) = b; rw [if_pos (by omega)]
          have cbr : (b : Rat) ≤ (s.2 : Rat) := Rat.intCast_le_intCast.mpr (by omega)
          have cbf : ((b - f : Int) : Rat) = (b : Rat) - (f : Rat) := Rat.intCast_sub b f
          rw [em, prt_nil hu.tl (by omega), List.append_nil, stV_cons, stV_nonpos hu.tl (by grind), clp_mid (y := (f : Rat) + t) (by grind) (by grind)]
          by_cases pb : 0 < b - f
          · rw [if_pos pb, stV_cons]
            show (s.1 : Rat) * clp t (b - f) + 0 = _
            rw [clp_mid ht (by rw [cbf]; grind)]
            grind
          · have b0 : b = f := by omega
            rw [if_neg pb]
            rw [b0] at htb
            have : t = 0 := by grind
            subst this
            show (0 : Rat) = _
            grind
theorem stN_prt : ∀ {S : St} {f b : Int}, Un S → 0 ≤ f → f ≤ b → b ≤ stN S → stN (prt S f b) = b - f := by
  have gen : ∀ {S : St} {f b : Int}, Un S → f ≤ b → stN (prt S f b) = max2 0 (min2 (stN S) b - max2 0 f) := by
    intro S
    induction S with
    | nil =>
      intro f b _ hfb
      show (0 : Int) = max2 0 (min2 0 b - max2 0 f)
      unfold max2 min2
      repeat' split
      all_goals omega
    | cons s r ih =>
      intro f b hu hfb
      have a := hu s List.mem_cons_self
      have n := stN_nonneg hu.tl
      have i := ih (f := f - s.2) (b := b - s.2) hu.tl (by omega)
      show stN ((if 0 < min2 s.2 b - max2 0 f then [(s.1, min2 s.2 b - max2 0 f)] else []) ++ prt r (f - s.2) (b - s.2)) = max2 0 (min2 (s.2 + stN r) b - max2 0 f)
      rw [stN_app, i]
      have e : stN (if 0 < min2 s.2 b - max2 0 f then [(s.1, min2 s.2 b - max2 0 f)] else []) = max2 0 (min2 s.2 b - max2 0 f) := by
        by_cases c : 0 < min2 s.2 b - max2 0 f
        · rw [if_pos c]
          show min2 s.2 b - max2 0 f + 0 = (if min2 s.2 b - max2 0 f > 0 then min2 s.2 b - max2 0 f else 0)
          rw [if_pos (by omega)]
          omega
        · rw [if_neg c]
          show (0 : Int) = (if min2 s.2 b - max2 0 f > 0 then min2 s.2 b - max2 0 f else 0)
          rw [if_neg (by omega)]
      rw [e]
      generalize stN r = N at *
      generalize s.2 = u at *
      unfold max2 min2
      repeat' split
      all_goals omega
  intro S f b hu h0 hfb hb
  rw [gen hu hfb]
  unfold max2 min2
  repeat' split
  all_goals omega
def tot : St → Int
  | [] => 0
  | s :: r => s.1 * s.2 + tot r
theorem stV_tot : ∀ {S : St}, Un S → stV S (stN S : Rat) = (tot S : Rat)
  | [], _ => rfl
  | s :: r, h => by
    have a := h s List.mem_cons_self
    have n := stN_nonneg h.tl
    have e : (stN (s :: r) : Rat) = (s.2 : Rat) + (stN r : Rat) := by
      show ((s.2 + stN r : Int) : Rat) = _
      rw [Rat.intCast_add]
    rw [stV_cons, e, clp_hi a (by have := c0 n; grind)]
    have e2 : (s.2 : Rat) + (stN r : Rat) - (s.2 : Rat) = (stN r : Rat) := by grind
    rw [e2, stV_tot h.tl]
    show _ = ((s.1 * s.2 + tot r : Int) : Rat)
    rw [Rat.intCast_add, Rat.intCast_mul]
theorem tot_prt {S : St} {b : Int} (hu : Un S) (h0 : 0 ≤ b) (hb : b ≤ stN S) : (tot (prt S 0 b) : Rat) = stV S (b : Rat) := by
  have zc : ((0 : Int) : Rat) = 0 := rfl
  have m0 : max2 0 0 = 0 := rfl
  rw [← stV_tot prt_un, stN_prt hu (Int.le_refl 0) h0 hb, Int.sub_zero, stV_prt hu h0 h0 (c0 h0) (by rw [m0, zc]; grind), m0, zc, stV_zero hu]
  have : (0 : Rat) + (b : Rat) = (b : Rat) := by grind
  rw [this]
  grind
section
variable {α β γ σ : Type}
theorem compO_all {B : α → Option β} {g : α → β} : ∀ l : List α, (∀ x ∈ l, B x = some (g x)) → compO (fun _ => some true) B l = some (l.map g)
  | [], _ => rfl
  | x :: r, h => by
    rw [compO_cons, Option.bind_some, h x List.mem_cons_self]
    show ((compO (fun _ => some true) B r).bind fun ys => some (g x :: ys)) = _
    rw [compO_all r fun y hy => h y (List.mem_cons_of_mem _ hy)]
    rfl
theorem compL_all {B : α → Option β} {g : α → β} {l : List α} (hl : l.length ≤ 1000000) (h : ∀ x ∈ l, B x = some (g x)) : compL (fun _ => some true) B l = some (l.map g) := by
  unfold compL
  rw [if_pos hl, compO_all l h]
theorem allO_true {B : α → Option Bool} : ∀ l : List α, (∀ x ∈ l, B x = some true) → allO true B l = some true
  | [], _ => rfl
  | x :: r, h => by
    rw [allO_cons, h x List.mem_cons_self, Option.bind_some, if_pos rfl]
    exact allO_true r fun y hy => h y (List.mem_cons_of_mem _ hy)
end
theorem between_ok {i lo hi : Int} : N_is_between i lo hi = some (decide (lo ≤ i) && decide (i ≤ hi)) := by
  unfold N_is_between N_is_whole
  rfl
theorem row_ok {l : List Int} {lo hi : Int} (h : ∀ x ∈ l, lo ≤ x ∧ x ≤ hi) : N_is_row_between l lo hi = some true := by
  unfold N_is_row_between
  rw [andO_t, allO_true l fun x hx => by rw [between_ok, decide_eq_true (h x hx).1, decide_eq_true (h x hx).2]; rfl]
theorem DamIn.len {m : Int} {d : DamT} (h : DamIn m d) (hm : m ≤ 12) : d.2.2.2.length ≤ 12 := by
  have := h.l1
  omega
theorem neg_sz {n : Nat} {q : Q2} (h : Sz n q) : Sz n (0 - q.1, q.2) ∧ val (0 - q.1, q.2) = - val q := by
  refine ⟨⟨h.pos, by show (0 - q.1).natAbs < _; have := h.top; omega, h.bot, ?_⟩, ?_⟩
  · show Nat.gcd (0 - q.1).natAbs q.2.natAbs = 1
    have : (0 - q.1).natAbs = q.1.natAbs := by omega
    rw [this]
    exact h.low
  · unfold val
    show ((0 - q.1 : Int) : Rat) / (q.2 : Rat) = _
    rw [Rat.intCast_sub]
    have : ((0 : Int) : Rat) = 0 := rfl
    rw [this]
    grind
theorem foldO_cons {α σ : Type} (Bd : α → σ → Option σ) (x : α) (r : List α) (s : σ) : foldO Bd (x :: r) s = (Bd x s).bind (foldO Bd r) := rfl
structure Is (n : Nat) (p : Q2) (v : Rat) : Prop where
  sz : Sz n p
  eq : val p = v
theorem Is.uniq {n m : Nat} {p q : Q2} {v : Rat} (a : Is n p v) (b : Is m q v) : p = q := val_inj a.sz b.sz (a.eq.trans b.eq.symm)
theorem Is.mono {n m : Nat} {p : Q2} {v : Rat} (a : Is n p v) (h : n ≤ m) : Is m p v := ⟨a.sz.mono h, a.eq⟩
theorem is_int {i : Int} {n : Nat} (h : i.natAbs < 2 ^ n) (hn : 0 < n) : Is n (i, 1) (i : Rat) := ⟨sz_int h hn, val_int i⟩
theorem is_neg {n : Nat} {p : Q2} {v : Rat} (a : Is n p v) : Is n (0 - p.1, p.2) (-v) := ⟨(neg_sz a.sz).1, by rw [(neg_sz a.sz).2, a.eq]⟩
section
variable {n m : Nat} {p q : Q2} {a b : Rat}
theorem lplus (hp : Is n p a) (hq : Is m q b) (h : n + m + 1 ≤ 8990) : ∃ r, N__law_plus p q = some r ∧ Is (n + m + 1) r (a + b) := by
  obtain ⟨r, h1, h2, h3⟩ := law_plus_ok hp.sz hq.sz h
  exact ⟨r, h1, h3, by rw [h2, hp.eq, hq.eq]⟩
theorem lless (hp : Is n p a) (hq : Is m q b) (h : n + m ≤ 900000) : N__law_less p q = some (decide (a < b)) := by rw [law_less_ok hp.sz hq.sz h, hp.eq, hq.eq]
theorem pless (hp : Is n p a) (hq : Is m q b) (h : n + m ≤ 900000) : N_is_less p q = some (decide (a < b)) := by rw [is_less_ok hp.sz hq.sz h, hp.eq, hq.eq]
theorem pplus (hp : Is n p a) (hq : Is m q b) (h : n + m + 1 ≤ 8990) : ∃ r, N_plus p q = some r ∧ Is (n + m + 1) r (a + b) := by
  obtain ⟨h1, h2, h3⟩ := cross_bits hp.sz hq.sz
  refine ⟨rt (p.1 * q.2 + q.1 * p.2) (p.2 * q.2), ?_, rt_sz h3 h1 (pow_up h2 (by omega)), by rw [rt_val h3, plus_val hp.sz.pos hq.sz.pos, hp.eq, hq.eq]⟩
  unfold N_plus
  rw [mul_ok hp.sz.top hq.sz.bot (by omega), mul_ok hq.sz.top hp.sz.bot (by omega), mul_ok hp.sz.bot hq.sz.bot (by omega)]
  exact ratio_ok h3 h2 (by omega)
theorem pminus (hp : Is n p a) (hq : Is m q b) (h : n + m + 1 ≤ 8990) : ∃ r, N_minus p q = some r ∧ Is (n + m + 1) r (a - b) := by
  have hq' := is_neg hq
  obtain ⟨h1, h2, h3⟩ := cross_bits hp.sz hq'.sz
  have e : p.1 * q.2 + (0 - q.1) * p.2 = p.1 * q.2 - q.1 * p.2 := by rw [Int.zero_sub, Int.neg_mul]; omega
  have hv := plus_val hp.sz.pos hq'.sz.pos
  show ∃ r, N_minus p q = some r ∧ _
  rw [hp.eq, hq'.eq] at hv
  simp only at hv h1 h2 h3
  rw [e] at hv h1
  refine ⟨rt (p.1 * q.2 - q.1 * p.2) (p.2 * q.2), ?_, rt_sz h3 h1 (pow_up h2 (by omega)), by rw [rt_val h3, hv]; grind⟩
  unfold N_minus
  rw [mul_ok hp.sz.top hq.sz.bot (by omega), mul_ok hq.sz.top hp.sz.bot (by omega), mul_ok hp.sz.bot hq.sz.bot (by omega)]
  exact ratio_ok h3 h2 (by omega)
theorem ptimes (hp : Is n p a) (hq : Is m q b) (h : n + m ≤ 8990) : ∃ r, N_times p q = some r ∧ Is (n + m) r (a * b) := by
  have h1 := mul_bits hp.sz.top hq.sz.top
  have h2 := mul_bits hp.sz.bot hq.sz.bot
  have h3 : 0 < p.2 * q.2 := Int.mul_pos hp.sz.pos hq.sz.pos
  refine ⟨rt (p.1 * q.1) (p.2 * q.2), ?_, rt_sz h3 h1 h2, ?_⟩
  · unfold N_times
    rw [mul_ok hp.sz.top hq.sz.top (by omega), mul_ok hp.sz.bot hq.sz.bot (by omega)]
    exact ratio_ok h3 h2 (by omega)
  · rw [rt_val h3, ← hp.eq, ← hq.eq]
    have a := cast_ne hp.sz.pos
    have b := cast_ne hq.sz.pos
    unfold val
    rw [Rat.intCast_mul, Rat.intCast_mul]
    grind
theorem is_ratio_ok (hp : Sz n p) : N_is_ratio p = some true := by
  unfold N_is_ratio
  show (andO (N_is_whole p.1) (andO (N_is_whole p.2) (some ((decide ((0 : Int) < p.2)) && (decide (((Nat.gcd (p.1).natAbs (p.2).natAbs : Nat) : Int) = (1 : Int))))))) = _
  rw [decide_eq_true hp.pos, decide_eq_true (by have := hp.low; omega)]
  rfl
end
def G (s : Rat) : Rat → List Rat → Rat
  | v, [] => v
  | v, z :: r => G s (v * s + z) r
def Dy (k : Nat) (v : Rat) : Prop := ∃ i : Int, v * ((4 ^ k : Int) : Rat) = (i : Rat)
theorem Dy.int (k : Nat) (i : Int) : Dy k (i : Rat) := ⟨i * 4 ^ k, by rw [Rat.intCast_mul]⟩
theorem Dy.add {k : Nat} {a b : Rat} (ha : Dy k a) (hb : Dy k b) : Dy k (a + b) := by
  obtain ⟨i, hi⟩ := ha
  obtain ⟨j, hj⟩ := hb
  exact ⟨i + j, by rw [Rat.add_mul, hi, hj, Rat.intCast_add]⟩
theorem Dy.neg {k : Nat} {a : Rat} (ha : Dy k a) : Dy k (-a) := by
  obtain ⟨i, hi⟩ := ha
  exact ⟨-i, by rw [Rat.neg_mul, hi, Rat.intCast_neg]⟩
theorem Dy.sub {k : Nat} {a b : Rat} (ha : Dy k a) (hb : Dy k b) : Dy k (a - b) := by
  rw [Rat.sub_eq_add_neg]; exact ha.add hb.neg
theorem Dy.up {k : Nat} {a : Rat} (ha : Dy k a) : Dy (k + 1) a := by
  obtain ⟨i, hi⟩ := ha
  exact ⟨i * 4, by rw [Int.pow_succ, Rat.intCast_mul, ← Rat.mul_assoc, hi, Rat.intCast_mul]⟩
def IsL (n : Nat) : List Q2 → List Rat → Prop
  | [], [] => True
  | q :: qs, v :: vs => Is n q v ∧ IsL n qs vs
  | _, _ => False
theorem IsL.len {n : Nat} : ∀ {qs : List Q2} {vs : List Rat}, IsL n qs vs → qs.length = vs.length
  | [], [], _ => rfl
  | q :: qs, v :: vs, h => by rw [List.length_cons, List.length_cons, IsL.len h.2]
  | [], _ :: _, h => h.elim
  | _ :: _, [], h => h.elim
theorem IsL.uniq {n m : Nat} : ∀ {qs ps : List Q2} {vs : List Rat}, IsL n qs vs → IsL m ps vs → qs = ps
  | [], [], [], _, _ => rfl
  | _ :: _, _ :: _, _ :: _, h, k => by rw [h.1.uniq k.1, IsL.uniq h.2 k.2]
  | [], _ :: _, [], _, k => k.elim
  | _ :: _, _, [], h, _ => h.elim
  | [], _, _ :: _, h, _ => h.elim
  | _ :: _, [], _ :: _, _, k => k.elim
theorem IsL.get {n : Nat} : ∀ {qs : List Q2} {vs : List Rat} {i : Nat}, IsL n qs vs → (h : i < qs.length) → ∃ v, vs[i]? = some v ∧ Is n qs[i] v
  | q :: qs, v :: vs, 0, h, _ => ⟨v, rfl, h.1⟩
  | q :: qs, v :: vs, i + 1, h, hi => IsL.get (i := i) h.2 (by simpa using hi)
  | [], _, _, _, hi => absurd hi (Nat.not_lt_zero _)
  | _ :: _, [], _, h, _ => h.elim
theorem IsL.mono {n m : Nat} (hm : n ≤ m) : ∀ {qs : List Q2} {vs : List Rat}, IsL n qs vs → IsL m qs vs
  | [], [], _ => trivial
  | _ :: _, _ :: _, h => ⟨h.1.mono hm, IsL.mono hm h.2⟩
  | [], _ :: _, h => h.elim
  | _ :: _, [], h => h.elim
theorem IsL.drop {n : Nat} : ∀ {qs : List Q2} {vs : List Rat} (j : Nat), IsL n qs vs → IsL n (qs.drop j) (vs.drop j)
  | _, _, 0, h => h
  | [], [], _ + 1, _ => trivial
  | _ :: _, _ :: _, j + 1, h => IsL.drop j h.2
  | [], _ :: _, _, h => h.elim
  | _ :: _, [], _, h => h.elim
def Lvl (C : Rat) : Nat → Rat → List Int → List Rat → Prop
  | _, _, [], [] => True
  | k, h, x :: xs, p :: ps => 0 ≤ p ∧ Dy (k + 1) p ∧ 0 ≤ h + (x : Rat) - p ∧ h + (x : Rat) - p ≤ C ∧ Lvl C (k + 1) (h + (x : Rat) - p) xs ps
  | _, _, _, _ => False
def fin : Rat → List Int → List Rat → Rat
  | h, x :: xs, p :: ps => fin (h + (x : Rat) - p) xs ps
  | h, _, _ => h
theorem Lvl.len {C : Rat} : ∀ {xs : List Int} {ps : List Rat} {k : Nat} {h : Rat}, Lvl C k h xs ps → ps.length = xs.length
  | [], [], _, _, _ => rfl
  | _ :: _, _ :: _, _, _, h => by rw [List.length_cons, List.length_cons, Lvl.len h.2.2.2.2]
  | [], _ :: _, _, _, h => h.elim
  | _ :: _, [], _, _, h => h.elim
theorem atI_last {α : Type} (l : List α) (x : α) : atI (l ++ [x]) (-(1 : Int)) = some x := by
  unfold atI ixN
  simp
  rw [if_pos (by omega)]
  show (l ++ [x])[(-1 + ((l.length : Int) + 1)).toNat]? = some x
  rw [show (-1 + ((l.length : Int) + 1)).toNat = l.length by omega]
  simp
theorem isL_mem {n : Nat} : ∀ {qs : List Q2} {vs : List Rat}, IsL n qs vs → ∀ q ∈ qs, ∃ v ∈ vs, Is n q v
  | q :: qs, v :: vs, h, p, hp => by
    rcases List.mem_cons.mp hp with e | e
    · exact ⟨v, List.mem_cons_self, by rw [e]; exact h.1⟩
    · obtain ⟨v', h1, h2⟩ := isL_mem h.2 p e
      exact ⟨v', List.mem_cons_of_mem _ h1, h2⟩
  | [], _, _, _, hp => nomatch hp
  | _ :: _, [], h, _, _ => h.elim
abbrev Cur : Type := Int × Int × List (Int × Int)
def swp (P : St) : St := P.map fun s => (s.2, s.1)
structure POk (P : St) : Prop where
  un : Un (swp P)
  dn : Dn (swp P)
  pz : Pz (swp P)
def usesU (c : Cur) (P : St) (w : Int) : List (Int × Int × Bool) := ((c.2.2.map fun s => (s.1, s.2, true)) ++ (P.map fun s => (s.2, s.1, false)) ++ [((0 : Int), w + 1, false)]).mergeSort leU3
def plain (U : List (Int × Int × Bool)) : St := U.map fun u => (u.1, u.2.1)
def usesM (c : Cur) (P : St) (w : Int) : St := plain (usesU c P w)
theorem usesU_perm (c : Cur) (P : St) (w : Int) : (usesU c P w).Perm ((c.2.2.map fun s => (s.1, s.2, true)) ++ (P.map fun s => (s.2, s.1, false)) ++ [((0 : Int), w + 1, false)]) := List.mergeSort_perm _ _
theorem usesU_dn (c : Cur) (P : St) (w : Int) : (usesU c P w).Pairwise fun a b => b.1 ≤ a.1 := by
  have h := List.pairwise_mergeSort (le := leU3) (fun a b c h1 h2 => by unfold leU3 at *; rw [decide_eq_true_iff] at *; omega) (fun a b => by unfold leU3; rw [Bool.or_eq_true, decide_eq_true_iff, decide_eq_true_iff]; omega) ((c.2.2.map fun s => (s.1, s.2, true)) ++ (P.map fun s => (s.2, s.1, false)) ++ [((0 : Int), w + 1, false)])
  exact h.imp fun {a b} z => by
    unfold leU3 at z
    have := of_decide_eq_true z
    omega
theorem usesM_perm (c : Cur) (P : St) (w : Int) : (usesM c P w).Perm (c.2.2 ++ swp P ++ [((0 : Int), w + 1)]) := by
  have h := (usesU_perm c P w).map fun u : Int × Int × Bool => (u.1, u.2.1)
  rw [List.map_append, List.map_append, List.map_map, List.map_map] at h
  have e : (c.2.2.map ((fun u : Int × Int × Bool => (u.1, u.2.1)) ∘ fun s : Int × Int => (s.1, s.2, true))) = c.2.2 := by
    have : ((fun u : Int × Int × Bool => (u.1, u.2.1)) ∘ fun s : Int × Int => (s.1, s.2, true)) = id := rfl
    rw [this, List.map_id]
  rw [e] at h
  exact h
theorem usesM_dn (c : Cur) (P : St) (w : Int) : Dn (usesM c P w) := List.pairwise_map.mpr (usesU_dn c P w)
structure Cv (C : Int) (c : Cur) : Prop where
  lo : 0 ≤ c.1
  hi : c.1 ≤ C
  un : Un c.2.2
  dn : Dn c.2.2
  pz : Pz c.2.2
  sz : stN c.2.2 = C - c.1
section
variable {C : Int} {c : Cur} {P : St} {w x : Int}
theorem usesM_un (h : Cv C c) (hP : POk P) (hw : 0 ≤ w + 1) : Un (usesM c P w) := fun s hs => by
  rcases List.mem_append.mp ((usesM_perm c P w).mem_iff.mp hs) with z | z
  · rcases List.mem_append.mp z with y | y
    · exact h.un s y
    · exact hP.un s y
  · rw [List.mem_singleton.mp z]; exact hw
theorem usesM_pz (h : Cv C c) (hP : POk P) : Pz (usesM c P w) := fun s hs => by
  rcases List.mem_append.mp ((usesM_perm c P w).mem_iff.mp hs) with z | z
  · rcases List.mem_append.mp z with y | y
    · exact h.pz s y
    · exact hP.pz s y
  · rw [List.mem_singleton.mp z]; exact Int.le_refl _
theorem usesM_N (h : Cv C c) : stN (usesM c P w) = (C - c.1) + stN (swp P) + (w + 1) := by
  rw [stN_perm (usesM_perm c P w), stN_app, stN_app, h.sz]
  show C - c.1 + stN (swp P) + (w + 1 + 0) = _
  omega
theorem usesM_C (t : Rat) (ht : 0 ≤ t) : stC t (usesM c P w) = stC t c.2.2 + stC t (swp P) := by
  rw [stC_perm (usesM_perm c P w), stC_app, stC_app]
  have : stC t [((0 : Int), w + 1)] = 0 := stC_low fun s hs => by
    rw [List.mem_singleton.mp hs]
    exact ht
  rw [this]
  grind
def lowC (c : Cur) (x : Int) : Int := max2 0 (c.1 - x)
def nxt (C : Int) (c : Cur) (x : Int) (P : St) : Cur := (lowC c x, c.2.1 + tot (prt (usesM c P (C + x)) 0 (lowC c x + x - c.1)), prt (usesM c P (C + x)) (lowC c x + x - c.1) (lowC c x + x - c.1 + C - lowC c x))
theorem lowC_eq (c : Cur) (x : Int) : lowC c x = if c.1 - x > 0 then c.1 - x else 0 := rfl
end
def cv (C E : Int) : List Int → List St → Cur
  | x :: xs, P :: ws => nxt C (cv C E xs ws) x P
  | _, _ => (E, 0, [(0, C - E)])
def wR : List St → List Rat → Rat
  | P :: ws, q :: qs => stV (swp P) q + wR ws qs
  | _, _ => 0
section
variable {C D : Int} {c : Cur} {P : St} {x : Int}
theorem nxt_okL (h : Cv C c) (hP : POk P) (hx : 0 ≤ x) (hD : 0 ≤ D) (hl : c.1 ≤ D + x) : Cv D (nxt D c x P) := by
  have a := h.lo
  have b := h.hi
  have n := stN_nonneg hP.un
  have un := usesM_un (w := D + x) h hP (by omega)
  have e := usesM_N (P := P) (w := D + x) h
  have l := lowC_eq c x
  have lb : 0 ≤ lowC c x ∧ c.1 - x ≤ lowC c x ∧ lowC c x ≤ D := by rw [l]; split <;> omega
  refine ⟨lb.1, lb.2.2, prt_un, prt_dn (usesM_dn _ _ _), prt_pz (usesM_pz h hP), ?_⟩
  show stN (prt (usesM c P (D + x)) (lowC c x + x - c.1) (lowC c x + x - c.1 + D - lowC c x)) = D - lowC c x
  rw [stN_prt un (by omega) (by omega) (by omega)]
  omega
theorem nxt_VL (h : Cv C c) (hP : POk P) (hx : 0 ≤ x) (hD : 0 ≤ D) (hl : c.1 ≤ D + x) {g : Rat} (g0 : (lowC c x : Rat) ≤ g) (g1 : g ≤ (D : Rat)) :
    (c.2.1 : Rat) + stV (usesM c P (D + x)) (g + (x : Rat) - (c.1 : Rat)) = ((nxt D c x P).2.1 : Rat) + stV (nxt D c x P).2.2 (g - ((nxt D c x P).1 : Rat)) := by
  have a := h.lo
  have b := h.hi
  have n := stN_nonneg hP.un
  have un := usesM_un (w := D + x) h hP (by omega)
  have e := usesM_N (P := P) (w := D + x) h
  have l := lowC_eq c x
  have lb : 0 ≤ lowC c x ∧ c.1 - x ≤ lowC c x ∧ lowC c x ≤ D := by rw [l]; split <;> omega
  have t1 := tot_prt (b := lowC c x + x - c.1) un (by omega) (by omega)
  have mx : max2 0 (lowC c x + x - c.1) = lowC c x + x - c.1 := by
    show (if lowC c x + x - c.1 > 0 then lowC c x + x - c.1 else 0) = _
    split <;> omega
  have ce : ((lowC c x + x - c.1 : Int) : Rat) = (lowC c x : Rat) + (x : Rat) - (c.1 : Rat) := by rw [Rat.intCast_sub, Rat.intCast_add]
  have cf : ((lowC c x + x - c.1 + D - lowC c x : Int) : Rat) = (x : Rat) - (c.1 : Rat) + (D : Rat) := by
    rw [show lowC c x + x - c.1 + D - lowC c x = x - c.1 + D by omega, Rat.intCast_add, Rat.intCast_sub]
  have t2 := stV_prt (S := usesM c P (D + x)) (f := lowC c x + x - c.1) (b := lowC c x + x - c.1 + D - lowC c x) (t := g - (lowC c x : Rat)) un (by omega) (by omega) (by grind) (by rw [mx, ce, cf]; grind)
  rw [mx, ce] at t2
  rw [ce] at t1
  show (c.2.1 : Rat) + stV (usesM c P (D + x)) (g + (x : Rat) - (c.1 : Rat)) = ((c.2.1 + tot (prt (usesM c P (D + x)) 0 (lowC c x + x - c.1)) : Int) : Rat) + stV (prt (usesM c P (D + x)) (lowC c x + x - c.1) (lowC c x + x - c.1 + D - lowC c x)) (g - (lowC c x : Rat))
  rw [Rat.intCast_add, t1, t2]
  have e3 : (lowC c x : Rat) + (x : Rat) - (c.1 : Rat) + (g - (lowC c x : Rat)) = g + (x : Rat) - (c.1 : Rat) := by grind
  rw [e3]
  grind
end
def capA (Z : Int) : List Int → Int
  | c :: _ => c
  | [] => Z
def TailL (Z : Int) (E : Rat) : Rat → List Int → List Int → List Rat → Prop
  | h, _ :: cs, x :: xs, q :: qs => 0 ≤ q ∧ 0 ≤ h + (x : Rat) - q ∧ h + (x : Rat) - q ≤ (capA Z cs : Rat) ∧ TailL Z E (h + (x : Rat) - q) cs xs qs
  | h, [], [], [] => E ≤ h
  | _, _, _, _ => False
def cvL (Z E : Int) : List Int → List Int → List St → Cur
  | c :: cs, x :: xs, P :: ws => nxt c (cvL Z E cs xs ws) x P
  | _, _, _ => (E, 0, [(0, Z - E)])
theorem cvL_up {Z E : Int} (hE : 0 ≤ E ∧ E ≤ Z) : ∀ (cs xs : List Int) (ws : List St) (qs : List Rat) (g : Rat), cs.length = xs.length → xs.length = ws.length → (∀ c ∈ cs, 0 ≤ c) → (∀ x ∈ xs, 0 ≤ x) → (∀ P ∈ ws, POk P) → 0 ≤ g → g ≤ (capA Z cs : Rat) → TailL Z (E : Rat) g cs xs qs →
    Cv (capA Z cs) (cvL Z E cs xs ws) ∧ ((cvL Z E cs xs ws).1 : Rat) ≤ g ∧ wR ws qs ≤ ((cvL Z E cs xs ws).2.1 : Rat) + stV (cvL Z E cs xs ws).2.2 (g - ((cvL Z E cs xs ws).1 : Rat))
  | [], [], [], [], g, _, _, _, _, _, g0, g1, ht => by
    refine ⟨⟨hE.1, hE.2, fun s hs => by rw [List.mem_singleton.mp hs]; show 0 ≤ Z - E; omega, List.pairwise_singleton _ _, fun s hs => by rw [List.mem_singleton.mp hs]; exact Int.le_refl _, by show Z - E + 0 = Z - E; omega⟩, ht, ?_⟩
    show (0 : Rat) ≤ ((0 : Int) : Rat) + (((0 : Int) : Rat) * clp (g - (E : Rat)) (Z - E) + 0)
    have z : ((0 : Int) : Rat) = 0 := rfl
    rw [z]
    grind
  | D :: cs, x :: xs, P :: ws, q :: qs, g, hl, hl2, hc, hx, hw, g0, g1, ⟨t1, t2, t3, t4⟩ => by
    have x0 := hx x List.mem_cons_self
    have x0r := c0 x0
    have D0 := hc D List.mem_cons_self
    have hP := hw P List.mem_cons_self
    obtain ⟨k, i1, i2⟩ := cvL_up hE cs xs ws qs (g + (x : Rat) - q) (by simpa using hl) (by simpa using hl2) (fun y hy => hc y (List.mem_cons_of_mem _ hy)) (fun y hy => hx y (List.mem_cons_of_mem _ hy)) (fun y hy => hw y (List.mem_cons_of_mem _ hy)) t2 t3 t4
    show Cv D (nxt D (cvL Z E cs xs ws) x P) ∧ ((nxt D (cvL Z E cs xs ws) x P).1 : Rat) ≤ g ∧ _ ≤ ((nxt D (cvL Z E cs xs ws) x P).2.1 : Rat) + stV (nxt D (cvL Z E cs xs ws) x P).2.2 (g - ((nxt D (cvL Z E cs xs ws) x P).1 : Rat))
    have g1' : g ≤ (D : Rat) := g1
    generalize cvL Z E cs xs ws = c at *
    generalize capA Z cs = C at *
    have ll := lowC_eq c x
    have fe : c.1 ≤ D + x := by
      have : (c.1 : Rat) ≤ ((D + x : Int) : Rat) := by
        rw [Rat.intCast_add]
        grind
      exact Rat.intCast_le_intCast.mp this
    have lg : (lowC c x : Rat) ≤ g := by
      rw [ll]
      split
      · rw [Rat.intCast_sub]; grind
      · exact g0
    refine ⟨nxt_okL k hP x0 D0 fe, lg, ?_⟩
    rw [← nxt_VL k hP x0 D0 fe lg g1']
    have un := usesM_un (w := D + x) k hP (by omega)
    have klo := c0 k.lo
    obtain ⟨t, u1, u2⟩ := stV_ex (y := g + (x : Rat) - (c.1 : Rat)) un (usesM_dn c P (D + x)) (usesM_pz k hP) (by grind) (by
      rw [usesM_N k]
      have n := c0 (stN_nonneg hP.un)
      have hiR : (c.1 : Rat) ≤ (C : Rat) := Rat.intCast_le_intCast.mpr k.hi
      rw [show C - c.1 + stN (swp P) + (D + x + 1) = D + stN (swp P) + x + (C - c.1 + 1) by omega, Rat.intCast_add, Rat.intCast_add, Rat.intCast_add, Rat.intCast_add, Rat.intCast_sub]
      have o : ((1 : Int) : Rat) = 1 := rfl
      rw [o]
      grind)
    rw [← u2, usesM_C t u1]
    have s1 := stV_le u1 hP.un t1
    have s2 := stV_le u1 k.un (y := g + (x : Rat) - q - (c.1 : Rat)) (by grind)
    show stV (swp P) q + wR ws qs ≤ _
    grind
  | [], _ :: _, _, _, _, h, _, _, _, _, _, _, _ => by simp at h
  | _ :: _, [], _, _, _, h, _, _, _, _, _, _, _ => by simp at h
  | [], [], _ :: _, _, _, _, h, _, _, _, _, _, _ => by simp at h
  | _ :: _, _ :: _, [], _, _, _, h, _, _, _, _, _, _ => by simp at h
  | [], [], [], _ :: _, _, _, _, _, _, _, _, _, h => h.elim
  | _ :: _, _ :: _, _ :: _, [], _, _, _, _, _, _, _, _, h => h.elim
abbrev Us : Type := List (Int × Int × Bool)
def gam (b : Bool) : Us → Int → Int
  | [], _ => 0
  | u :: r, y => (if u.2.2 = b then min2 y u.2.1 else 0) + gam b r (y - min2 y u.2.1)
def gva (b : Bool) : Us → Int → Int
  | [], _ => 0
  | u :: r, y => (if u.2.2 = b then u.1 * min2 y u.2.1 else 0) + gva b r (y - min2 y u.2.1)
def kd (b : Bool) (U : Us) : St := plain (U.filter fun u => decide (u.2.2 = b))
theorem min_in {y u : Int} (hy : 0 ≤ y) (hu : 0 ≤ u) : 0 ≤ min2 y u ∧ min2 y u ≤ y ∧ min2 y u ≤ u := by
  show 0 ≤ (if u < y then u else y) ∧ (if u < y then u else y) ≤ y ∧ (if u < y then u else y) ≤ u
  split <;> omega
def UnU (U : Us) : Prop := ∀ u ∈ U, 0 ≤ u.2.1
theorem UnU.tl {u : Int × Int × Bool} {r : Us} (h : UnU (u :: r)) : UnU r := fun x hx => h x (List.mem_cons_of_mem _ hx)
theorem kd_cons (b : Bool) (u : Int × Int × Bool) (r : Us) : kd b (u :: r) = (if u.2.2 = b then (u.1, u.2.1) :: kd b r else kd b r) := by
  unfold kd
  rw [List.filter_cons]
  by_cases z : u.2.2 = b
  · rw [if_pos z, decide_eq_true z, if_pos rfl]
    rfl
  · rw [if_neg z, decide_eq_false z, if_neg (by decide)]
theorem gam_in {b : Bool} : ∀ {U : Us} {y : Int}, UnU U → 0 ≤ y → 0 ≤ gam b U y ∧ gam b U y ≤ stN (kd b U) ∧ gam b U y ≤ y
  | [], y, _, hy => ⟨Int.le_refl _, Int.le_refl _, hy⟩
  | u :: r, y, h, hy => by
    have a := h u List.mem_cons_self
    obtain ⟨m1, m2, m3⟩ := min_in hy a
    obtain ⟨i1, i2, i3⟩ := gam_in (b := b) h.tl (y := y - min2 y u.2.1) (by omega)
    show 0 ≤ (if u.2.2 = b then min2 y u.2.1 else 0) + gam b r (y - min2 y u.2.1) ∧ (if u.2.2 = b then min2 y u.2.1 else 0) + gam b r (y - min2 y u.2.1) ≤ _ ∧ (if u.2.2 = b then min2 y u.2.1 else 0) + gam b r (y - min2 y u.2.1) ≤ y
    rw [kd_cons]
    split
    · show _ ∧ min2 y u.2.1 + gam b r (y - min2 y u.2.1) ≤ u.2.1 + stN (kd b r) ∧ _
      omega
    · omega
theorem gam_sum : ∀ {U : Us} {y : Int}, UnU U → 0 ≤ y → y ≤ stN (plain U) → gam true U y + gam false U y = y
  | [], y, _, hy, hn => by
    have : stN (plain []) = 0 := rfl
    show (0 : Int) + 0 = y
    omega
  | u :: r, y, h, hy, hn => by
    have a := h u List.mem_cons_self
    obtain ⟨m1, m2, m3⟩ := min_in hy a
    have e : stN (plain (u :: r)) = u.2.1 + stN (plain r) := rfl
    have n : 0 ≤ stN (plain r) := stN_nonneg fun s hs => by
      obtain ⟨z, hz, rfl⟩ := List.mem_map.mp hs
      exact h.tl z hz
    have mm : min2 y u.2.1 = u.2.1 ∨ min2 y u.2.1 = y := by
      show (if u.2.1 < y then u.2.1 else y) = u.2.1 ∨ (if u.2.1 < y then u.2.1 else y) = y
      split
      · exact .inl rfl
      · exact .inr rfl
    have i := gam_sum h.tl (y := y - min2 y u.2.1) (by omega) (by omega)
    show (if u.2.2 = true then min2 y u.2.1 else 0) + gam true r (y - min2 y u.2.1) + ((if u.2.2 = false then min2 y u.2.1 else 0) + gam false r (y - min2 y u.2.1)) = y
    cases u.2.2
    · rw [if_neg (by decide), if_pos rfl]; omega
    · rw [if_pos rfl, if_neg (by decide)]; omega
theorem gva_sum : ∀ {U : Us} {y : Int}, UnU U → 0 ≤ y → (gva true U y : Rat) + (gva false U y : Rat) = stV (plain U) (y : Rat)
  | [], y, _, hy => by
    show ((0 : Int) : Rat) + ((0 : Int) : Rat) = 0
    have z : ((0 : Int) : Rat) = 0 := rfl
    rw [z]
    grind
  | u :: r, y, h, hy => by
    have a := h u List.mem_cons_self
    obtain ⟨m1, m2, m3⟩ := min_in hy a
    have hyr := c0 hy
    have i := gva_sum h.tl (y := y - min2 y u.2.1) (by omega)
    have unr : Un (plain r) := fun s hs => by
      obtain ⟨z, hz, rfl⟩ := List.mem_map.mp hs
      exact h.tl z hz
    have key : stV (plain (u :: r)) (y : Rat) = (u.1 : Rat) * (min2 y u.2.1 : Rat) + stV (plain r) ((y - min2 y u.2.1 : Int) : Rat) := by
      show (u.1 : Rat) * clp (y : Rat) u.2.1 + stV (plain r) ((y : Rat) - (u.2.1 : Rat)) = _
      by_cases c : u.2.1 < y
      · have em : min2 y u.2.1 = u.2.1 := by show (if u.2.1 < y then u.2.1 else y) = _; rw [if_pos c]
        rw [em, clp_hi a (Rat.intCast_le_intCast.mpr (by omega)), Rat.intCast_sub]
      · have em : min2 y u.2.1 = y := by show (if u.2.1 < y then u.2.1 else y) = _; rw [if_neg c]
        have cr : (y : Rat) ≤ (u.2.1 : Rat) := Rat.intCast_le_intCast.mpr (by omega)
        rw [em, clp_mid hyr cr, stV_nonpos unr (by grind), Int.sub_self]
        have z : ((0 : Int) : Rat) = 0 := rfl
        rw [z, stV_zero unr]
    rw [key, ← i]
    show (((if u.2.2 = true then u.1 * min2 y u.2.1 else 0) + gva true r (y - min2 y u.2.1) : Int) : Rat) + (((if u.2.2 = false then u.1 * min2 y u.2.1 else 0) + gva false r (y - min2 y u.2.1) : Int) : Rat) = _
    have z : ((0 : Int) : Rat) = 0 := rfl
    rw [Rat.intCast_add, Rat.intCast_add]
    cases u.2.2
    · rw [if_neg (by decide), if_pos rfl, Rat.intCast_mul, z]; grind
    · rw [if_pos rfl, if_neg (by decide), Rat.intCast_mul, z]; grind
theorem gva_le {b : Bool} {t : Rat} (ht : 0 ≤ t) : ∀ {U : Us} {y : Int}, UnU U → 0 ≤ y → (gva b U y : Rat) ≤ stC t (kd b U) + t * (gam b U y : Rat)
  | [], y, _, _ => by
    show ((0 : Int) : Rat) ≤ 0 + t * ((0 : Int) : Rat)
    have z : ((0 : Int) : Rat) = 0 := rfl
    rw [z]
    grind
  | u :: r, y, h, hy => by
    have a := h u List.mem_cons_self
    obtain ⟨m1, m2, m3⟩ := min_in hy a
    have i := gva_le (b := b) ht h.tl (y := y - min2 y u.2.1) (by omega)
    show (((if u.2.2 = b then u.1 * min2 y u.2.1 else 0) + gva b r (y - min2 y u.2.1) : Int) : Rat) ≤ stC t (kd b (u :: r)) + t * (((if u.2.2 = b then min2 y u.2.1 else 0) + gam b r (y - min2 y u.2.1) : Int) : Rat)
    rw [kd_cons, Rat.intCast_add, Rat.intCast_add]
    by_cases z : u.2.2 = b
    · rw [if_pos z, if_pos z, if_pos z, Rat.intCast_mul]
      show _ ≤ (u.2.1 : Rat) * ovP t u.1 + stC t (kd b r) + _
      obtain ⟨o1, o2⟩ := ovP_ge t u.1
      have k1 := Rat.mul_le_mul_of_nonneg_left o1 (c0 m1)
      have k2 := Rat.mul_le_mul_of_nonneg_right (Rat.intCast_le_intCast.mpr m3) o2
      grind
    · rw [if_neg z, if_neg z, if_neg z]
      have z0 : ((0 : Int) : Rat) = 0 := rfl
      rw [z0]
      grind
section
variable {C : Int} {c : Cur} {P : St} {w : Int}
theorem kd_perm {b : Bool} {U V : Us} (h : U.Perm V) : (kd b U).Perm (kd b V) := (h.filter _).map _
theorem kd_app (b : Bool) (U V : Us) : kd b (U ++ V) = kd b U ++ kd b V := by
  unfold kd plain
  rw [List.filter_append, List.map_append]
theorem kd_mark (b k : Bool) (S : St) : kd b (S.map fun s => (s.1, s.2, k)) = if k = b then S else [] := by
  induction S with
  | nil => split <;> rfl
  | cons s S ih =>
    rw [List.map_cons, kd_cons, ih]
    by_cases z : k = b
    · rw [if_pos z, if_pos z, if_pos z]
    · rw [if_neg z, if_neg z, if_neg z]
theorem swp_mark (P : St) (k : Bool) : (P.map fun s => (s.2, s.1, k)) = (swp P).map fun s => (s.1, s.2, k) := by
  unfold swp
  rw [List.map_map]
  rfl
theorem uses_held : (kd true (usesU c P w)).Perm c.2.2 := by
  have h := kd_perm (b := true) (usesU_perm c P w)
  rw [kd_app, kd_app, kd_mark, swp_mark, kd_mark, if_pos rfl, if_neg (by decide), List.append_nil] at h
  have e : kd true [((0 : Int), w + 1, false)] = [] := rfl
  rw [e, List.append_nil] at h
  exact h
theorem uses_sold : (kd false (usesU c P w)).Perm (swp P ++ [((0 : Int), w + 1)]) := by
  have h := kd_perm (b := false) (usesU_perm c P w)
  rw [kd_app, kd_app, kd_mark, swp_mark, kd_mark, if_neg (by decide), if_pos rfl, List.nil_append] at h
  exact h
theorem usesU_un (h : Cv C c) (hP : POk P) (hw : 0 ≤ w + 1) : UnU (usesU c P w) := fun u hu => usesM_un h hP hw (u.1, u.2.1) (List.mem_map_of_mem (f := fun u : Int × Int × Bool => (u.1, u.2.1)) hu)
def hold (c : Cur) (P : St) (w : Int) : Int := c.1 + gam true (usesU c P w) (w - c.1)
theorem free_dn (hP : POk P) (n : Int) : Dn (swp P ++ [((0 : Int), n)]) := List.pairwise_append.mpr ⟨hP.dn, List.pairwise_singleton _ _, fun a ha b hb => by rw [List.mem_singleton.mp hb]; exact hP.pz a ha⟩
end
def bl (C E : Int) : Int → List Int → List St → List Int
  | g, x :: xs, P :: ws => hold (cv C E xs ws) P (g + x) :: bl C E (hold (cv C E xs ws) P (g + x)) xs ws
  | _, _, _ => []
def rel : Int → List Int → List Int → List Int
  | g, x :: xs, h :: hs => (g + x - h) :: rel h xs hs
  | _, _, _ => []
section
variable {C : Int} {c : Cur} {P : St} {w : Int}
theorem hold_okL {W : Int} (h : Cv C c) (hP : POk P) (h0 : c.1 ≤ w) (h1 : w ≤ W) : c.1 ≤ hold c P w ∧ hold c P w ≤ C ∧ hold c P w ≤ w ∧
    stV (usesM c P W) ((w : Rat) - (c.1 : Rat)) ≤ stV (swp P) ((w : Rat) - (hold c P w : Rat)) + stV c.2.2 ((hold c P w : Rat) - (c.1 : Rat)) := by
  have lo := h.lo
  have hi := h.hi
  have un := usesU_un (w := w) h hP (by omega)
  have y0 : 0 ≤ w - c.1 := by omega
  obtain ⟨a1, a2, a3⟩ := gam_in (b := true) un y0
  obtain ⟨b1, b2, b3⟩ := gam_in (b := false) un y0
  have nP := stN_nonneg hP.un
  have N := usesM_N (P := P) (w := w) h
  have N2 := usesM_N (P := P) (w := W) h
  have sm := gam_sum un y0 (by show w - c.1 ≤ stN (usesM c P w); omega)
  have vs := gva_sum un y0
  have eN : stN (kd true (usesU c P w)) = C - c.1 := by rw [stN_perm uses_held, h.sz]
  rw [eN] at a2
  have eh : hold c P w = c.1 + gam true (usesU c P w) (w - c.1) := rfl
  refine ⟨by omega, by omega, by omega, ?_⟩
  have ch : (hold c P w : Rat) = (c.1 : Rat) + (gam true (usesU c P w) (w - c.1) : Rat) := by rw [eh, Rat.intCast_add]
  have cw : ((w - c.1 : Int) : Rat) = (w : Rat) - (c.1 : Rat) := Rat.intCast_sub w c.1
  have cs : (w : Rat) - (hold c P w : Rat) = (gam false (usesU c P w) (w - c.1) : Rat) := by
    have : (gam true (usesU c P w) (w - c.1) : Rat) + (gam false (usesU c P w) (w - c.1) : Rat) = (w : Rat) - (c.1 : Rat) := by rw [← Rat.intCast_add, sm, cw]
    rw [ch]
    grind
  have chh : (hold c P w : Rat) - (c.1 : Rat) = (gam true (usesU c P w) (w - c.1) : Rat) := by rw [ch]; grind
  rw [cs, chh]
  have v1 : (gva true (usesU c P w) (w - c.1) : Rat) ≤ stV c.2.2 (gam true (usesU c P w) (w - c.1) : Rat) := by
    obtain ⟨t, t0, t1⟩ := stV_ex h.un h.dn h.pz (c0 a1) (by rw [h.sz]; exact Rat.intCast_le_intCast.mpr a2)
    have := gva_le (b := true) t0 un y0
    rw [stC_perm uses_held] at this
    grind
  have v2 : (gva false (usesU c P w) (w - c.1) : Rat) ≤ stV (swp P) (gam false (usesU c P w) (w - c.1) : Rat) := by
    rw [← stV_free (n := w + 1)]
    have unf : Un (swp P ++ [((0 : Int), w + 1)]) := fun s hs => by
      rcases List.mem_append.mp hs with z | z
      · exact hP.un s z
      · rw [List.mem_singleton.mp z]; show 0 ≤ w + 1; omega
    have pzf : Pz (swp P ++ [((0 : Int), w + 1)]) := fun s hs => by
      rcases List.mem_append.mp hs with z | z
      · exact hP.pz s z
      · rw [List.mem_singleton.mp z]; exact Int.le_refl _
    obtain ⟨t, t0, t1⟩ := stV_ex unf (free_dn hP _) pzf (c0 b1) (by
      rw [← stN_perm uses_sold]
      exact Rat.intCast_le_intCast.mpr b2)
    have := gva_le (b := false) t0 un y0
    rw [stC_perm uses_sold] at this
    grind
  have v3 : stV (usesM c P W) ((w : Rat) - (c.1 : Rat)) ≤ stV (usesM c P w) ((w : Rat) - (c.1 : Rat)) := by
    rw [← cw]
    obtain ⟨t, t0, t1⟩ := stV_ex (y := ((w - c.1 : Int) : Rat)) (usesM_un (w := w) h hP (by omega)) (usesM_dn c P w) (usesM_pz h hP) (c0 y0) (by rw [N]; exact Rat.intCast_le_intCast.mpr (by omega))
    have := stV_le t0 (usesM_un (w := W) h hP (by omega)) (c0 y0)
    rw [usesM_C t t0] at this t1
    grind
  have v4 : stV (usesM c P w) ((w : Rat) - (c.1 : Rat)) = (gva true (usesU c P w) (w - c.1) : Rat) + (gva false (usesU c P w) (w - c.1) : Rat) := by
    rw [← cw]
    exact vs.symm
  grind
end
def CvL (Z E : Int) : List Int → List Int → List St → Prop
  | D :: cs, x :: xs, P :: ws => (cvL Z E cs xs ws).1 ≤ D + x ∧ CvL Z E cs xs ws
  | _, _, _ => True
theorem cvL_ok {Z E : Int} (hE : 0 ≤ E ∧ E ≤ Z) : ∀ (cs xs : List Int) (ws : List St), cs.length = xs.length → xs.length = ws.length → (∀ c ∈ cs, 0 ≤ c) → (∀ x ∈ xs, 0 ≤ x) → (∀ P ∈ ws, POk P) → CvL Z E cs xs ws → Cv (capA Z cs) (cvL Z E cs xs ws)
  | [], [], [], _, _, _, _, _, _ => ⟨hE.1, hE.2, fun s hs => by rw [List.mem_singleton.mp hs]; show 0 ≤ Z - E; omega, List.pairwise_singleton _ _, fun s hs => by rw [List.mem_singleton.mp hs]; exact Int.le_refl _, by show Z - E + 0 = Z - E; omega⟩
  | D :: cs, x :: xs, P :: ws, h1, h2, hc, hx, hw, ⟨f1, f2⟩ => nxt_okL (cvL_ok hE cs xs ws (by simpa using h1) (by simpa using h2) (fun y hy => hc y (List.mem_cons_of_mem _ hy)) (fun y hy => hx y (List.mem_cons_of_mem _ hy)) (fun y hy => hw y (List.mem_cons_of_mem _ hy)) f2) (hw P List.mem_cons_self) (hx x List.mem_cons_self) (hc D List.mem_cons_self) f1
  | [], _ :: _, _, h, _, _, _, _, _ => by simp at h
  | _ :: _, [], _, h, _, _, _, _, _ => by simp at h
  | [], [], _ :: _, _, h, _, _, _, _ => by simp at h
  | _ :: _, _ :: _, [], _, h, _, _, _, _ => by simp at h
theorem cvL_feas {Z E : Int} (hE : 0 ≤ E ∧ E ≤ Z) : ∀ (cs xs : List Int) (ws : List St) (qs : List Rat) (g : Rat), cs.length = xs.length → xs.length = ws.length → (∀ c ∈ cs, 0 ≤ c) → (∀ x ∈ xs, 0 ≤ x) → (∀ P ∈ ws, POk P) → 0 ≤ g → g ≤ (capA Z cs : Rat) → TailL Z (E : Rat) g cs xs qs → CvL Z E cs xs ws
  | [], [], [], _, _, _, _, _, _, _, _, _, _ => trivial
  | D :: cs, x :: xs, P :: ws, q :: qs, g, h1, h2, hc, hx, hw, g0, g1, ⟨t1, t2, t3, t4⟩ => by
    have hc' := fun y hy => hc y (List.mem_cons_of_mem _ hy)
    have hx' := fun y hy => hx y (List.mem_cons_of_mem _ hy)
    have hw' := fun y hy => hw y (List.mem_cons_of_mem _ hy)
    have u := (cvL_up hE cs xs ws qs (g + (x : Rat) - q) (by simpa using h1) (by simpa using h2) hc' hx' hw' t2 t3 t4).2.1
    refine ⟨?_, cvL_feas hE cs xs ws qs (g + (x : Rat) - q) (by simpa using h1) (by simpa using h2) hc' hx' hw' t2 t3 t4⟩
    have g1' : g ≤ (D : Rat) := g1
    have : ((cvL Z E cs xs ws).1 : Rat) ≤ ((D + x : Int) : Rat) := by
      rw [Rat.intCast_add]
      grind
    exact Rat.intCast_le_intCast.mp this
  | [], _ :: _, _, _, _, h, _, _, _, _, _, _, _ => by simp at h
  | _ :: _, [], _, _, _, h, _, _, _, _, _, _, _ => by simp at h
  | [], [], _ :: _, _, _, _, h, _, _, _, _, _, _ => by simp at h
  | _ :: _, _ :: _, [], _, _, _, h, _, _, _, _, _, _ => by simp at h
  | _ :: _, _ :: _, _ :: _, [], _, _, _, _, _, _, _, _, h => h.elim
def blL (Z E : Int) : Int → List Int → List Int → List St → List Int
  | g, _ :: cs, x :: xs, P :: ws => hold (cvL Z E cs xs ws) P (g + x) :: blL Z E (hold (cvL Z E cs xs ws) P (g + x)) cs xs ws
  | _, _, _, _ => []
theorem blL_ok {Z E : Int} (hE : 0 ≤ E ∧ E ≤ Z) : ∀ (cs xs : List Int) (ws : List St) (g : Int), cs.length = xs.length → xs.length = ws.length → (∀ c ∈ cs, 0 ≤ c) → (∀ x ∈ xs, 0 ≤ x) → (∀ P ∈ ws, POk P) → CvL Z E cs xs ws → (cvL Z E cs xs ws).1 ≤ g → g ≤ capA Z cs →
    (blL Z E g cs xs ws).length = xs.length ∧ TailL Z (E : Rat) (g : Rat) cs xs ((rel g xs (blL Z E g cs xs ws)).map fun i : Int => (i : Rat)) ∧ ((cvL Z E cs xs ws).2.1 : Rat) + stV (cvL Z E cs xs ws).2.2 ((g : Rat) - ((cvL Z E cs xs ws).1 : Rat)) ≤ wR ws ((rel g xs (blL Z E g cs xs ws)).map fun i : Int => (i : Rat))
  | [], [], [], g, _, _, _, _, _, _, h0, h1 => by
    refine ⟨rfl, Rat.intCast_le_intCast.mpr h0, ?_⟩
    show ((0 : Int) : Rat) + (((0 : Int) : Rat) * clp ((g : Rat) - (E : Rat)) (Z - E) + 0) ≤ 0
    have z : ((0 : Int) : Rat) = 0 := rfl
    rw [z]
    grind
  | D :: cs, x :: xs, P :: ws, g, hl, hl2, hc, hx, hw, ⟨f1, f2⟩, h0, h1 => by
    have x0 := hx x List.mem_cons_self
    have D0 := hc D List.mem_cons_self
    have hP := hw P List.mem_cons_self
    have hc' := fun y hy => hc y (List.mem_cons_of_mem _ hy)
    have hx' := fun y hy => hx y (List.mem_cons_of_mem _ hy)
    have hw' := fun y hy => hw y (List.mem_cons_of_mem _ hy)
    have la : cs.length = xs.length := by simpa using hl
    have lb : xs.length = ws.length := by simpa using hl2
    have k := cvL_ok hE cs xs ws la lb hc' hx' hw' f2
    have h0' : lowC (cvL Z E cs xs ws) x ≤ g := h0
    have h1' : g ≤ D := h1
    have ll := lowC_eq (cvL Z E cs xs ws) x
    have lw : (cvL Z E cs xs ws).1 ≤ g + x := by
      rw [ll] at h0'
      split at h0' <;> omega
    obtain ⟨o1, o2, o3, o4⟩ := hold_okL (w := g + x) (W := D + x) k hP lw (by omega)
    obtain ⟨i1, i2, i3⟩ := blL_ok hE cs xs ws (hold (cvL Z E cs xs ws) P (g + x)) la lb hc' hx' hw' f2 o1 o2
    have lo := k.lo
    refine ⟨by show (blL Z E _ cs xs ws).length + 1 = _; rw [i1, List.length_cons], ?_, ?_⟩
    · have e : (g : Rat) + (x : Rat) - ((g + x - hold (cvL Z E cs xs ws) P (g + x) : Int) : Rat) = (hold (cvL Z E cs xs ws) P (g + x) : Rat) := by
        rw [Rat.intCast_sub, Rat.intCast_add]
        grind
      show 0 ≤ ((g + x - hold (cvL Z E cs xs ws) P (g + x) : Int) : Rat) ∧ 0 ≤ (g : Rat) + (x : Rat) - ((g + x - hold (cvL Z E cs xs ws) P (g + x) : Int) : Rat) ∧ _ ∧ TailL Z (E : Rat) ((g : Rat) + (x : Rat) - ((g + x - hold (cvL Z E cs xs ws) P (g + x) : Int) : Rat)) cs xs _
      rw [e]
      exact ⟨c0 (by omega), c0 (by omega), Rat.intCast_le_intCast.mpr o2, i2⟩
    · show ((nxt D (cvL Z E cs xs ws) x P).2.1 : Rat) + stV (nxt D (cvL Z E cs xs ws) x P).2.2 ((g : Rat) - ((nxt D (cvL Z E cs xs ws) x P).1 : Rat)) ≤ stV (swp P) ((g + x - hold (cvL Z E cs xs ws) P (g + x) : Int) : Rat) + wR ws _
      rw [← nxt_VL k hP x0 D0 f1 (Rat.intCast_le_intCast.mpr h0') (Rat.intCast_le_intCast.mpr h1')]
      rw [Rat.intCast_add] at o4
      rw [Rat.intCast_sub, Rat.intCast_add]
      grind
  | [], _ :: _, _, _, h, _, _, _, _, _, _, _ => by simp at h
  | _ :: _, [], _, _, h, _, _, _, _, _, _, _ => by simp at h
  | [], [], _ :: _, _, _, h, _, _, _, _, _, _ => by simp at h
  | _ :: _, _ :: _, [], _, _, h, _, _, _, _, _, _ => by simp at h
def Sm (S : St) : Prop := ∀ s ∈ S, s.1.natAbs < 2 ^ 40 ∧ s.2.natAbs < 2 ^ 40
theorem Sm.tl {s : Int × Int} {r : St} (h : Sm (s :: r)) : Sm r := fun x hx => h x (List.mem_cons_of_mem _ hx)
theorem uses_is {c : Cur} {P : St} {w : Int} (hl : c.2.2.length ≤ 1000) (hp : P.length ≤ 1000) : N_uses_of_water c P w = some (usesU c P w) := by
  unfold N_uses_of_water
  rw [compL_all (g := fun s : Int × Int => (s.1, s.2, true)) (by omega) (fun _ _ => rfl), Option.bind_some, compL_all (g := fun s : Int × Int => (s.2, s.1, false)) (by omega) (fun _ _ => rfl), Option.bind_some]
  have e1 : catO (c.2.2.map fun s : Int × Int => (s.1, s.2, true)) (P.map fun s : Int × Int => (s.2, s.1, false)) = some ((c.2.2.map fun s : Int × Int => (s.1, s.2, true)) ++ (P.map fun s : Int × Int => (s.2, s.1, false))) := by
    unfold catO
    rw [if_pos (by rw [List.length_map, List.length_map]; omega)]
  have e2 : catO ((c.2.2.map fun s : Int × Int => (s.1, s.2, true)) ++ (P.map fun s : Int × Int => (s.2, s.1, false))) [((0 : Int), w + 1, false)] = some ((c.2.2.map fun s : Int × Int => (s.1, s.2, true)) ++ (P.map fun s : Int × Int => (s.2, s.1, false)) ++ [((0 : Int), w + 1, false)]) := by
    unfold catO
    rw [if_pos (by rw [List.length_append, List.length_map, List.length_map, List.length_singleton]; omega)]
  rw [e1, Option.bind_some, Option.bind_some, e2, Option.bind_some]
  unfold sortU3
  rw [if_pos (by rw [List.length_append, List.length_append, List.length_map, List.length_map, List.length_singleton]; omega)]
  rfl
theorem usesU_len (c : Cur) (P : St) (w : Int) : (usesU c P w).length = c.2.2.length + P.length + 1 := by
  rw [(usesU_perm c P w).length_eq, List.length_append, List.length_append, List.length_map, List.length_map, List.length_singleton]
theorem usesM_len (c : Cur) (P : St) (w : Int) : (usesM c P w).length = c.2.2.length + P.length + 1 := by
  unfold usesM plain
  rw [List.length_map, usesU_len]
def pB (f b : Int) (i5 : Int × Int) (s3 : Int × St) : Option (Int × St) := ((some ((min2 (s3.1 + i5.2) b) - (max2 s3.1 f))).bind fun taken_6 => ((iteO (some (decide ((0 : Int) < taken_6))) ((appO s3.2 (i5.1, taken_6)).bind fun part_23 => some part_23) (some s3.2)).bind fun s25 => (((some i5.2)).bind fun x27 => (fun place_28 => some (place_28, s25)) (s3.1 + x27))))
theorem part_go {f b : Int} : ∀ (S : St) (pl : Int) (acc : St), acc.length + S.length ≤ 10000 → foldO (pB f b) S (pl, acc) = some (pl + stN S, acc ++ prt S (f - pl) (b - pl))
  | [], pl, acc, _ => by
    show some (pl, acc) = some (pl + 0, acc ++ [])
    rw [Int.add_zero, List.append_nil]
  | s :: r, pl, acc, h => by
    rw [List.length_cons] at h
    have e1 : min2 (pl + s.2) b - max2 pl f = min2 s.2 (b - pl) - max2 0 (f - pl) := by
      show (if b < pl + s.2 then b else pl + s.2) - (if f > pl then f else pl) = (if b - pl < s.2 then b - pl else s.2) - (if f - pl > 0 then f - pl else 0)
      split <;> split <;> split <;> split <;> omega
    have st : ∀ acc' : St, pB f b s (pl, acc) = some (pl + s.2, acc ++ (if 0 < min2 s.2 (b - pl) - max2 0 (f - pl) then [(s.1, min2 s.2 (b - pl) - max2 0 (f - pl))] else [])) := by
      intro _
      unfold pB
      rw [Option.bind_some, e1]
      by_cases z : 0 < min2 s.2 (b - pl) - max2 0 (f - pl)
      · rw [decide_eq_true z, if_pos z]
        have : appO acc (s.1, min2 s.2 (b - pl) - max2 0 (f - pl)) = some (acc ++ [(s.1, min2 s.2 (b - pl) - max2 0 (f - pl))]) := by
          unfold appO
          rw [if_pos (by omega)]
        show ((appO acc (s.1, min2 s.2 (b - pl) - max2 0 (f - pl))).bind fun part_23 => some part_23).bind _ = _
        rw [this]
        rfl
      · rw [decide_eq_false z, if_neg z, List.append_nil]
        rfl
    rw [foldO_cons, st acc, Option.bind_some, part_go r _ _ (by
      rw [List.length_append]
      split
      · rw [List.length_singleton]; omega
      · rw [List.length_nil]; omega)]
    have x1 : f - (pl + s.2) = f - pl - s.2 := by omega
    have x2 : b - (pl + s.2) = b - pl - s.2 := by omega
    rw [x1, x2, List.append_assoc, Int.add_assoc]
    rfl
theorem part_is {S : St} {f b : Int} (h : S.length ≤ 10000) : N_part_of_steps S f b = some (prt S f b) := by
  have e : foldO (pB f b) S ((0 : Int), ([] : St)) = some (0 + stN S, prt S f b) := by
    rw [part_go S 0 [] (by rw [List.length_nil]; omega), Int.sub_zero, Int.sub_zero]
    rfl
  show (foldO (pB f b) S ((0 : Int), ([] : St))).bind _ = _
  rw [e]
  rfl
theorem prt_sm : ∀ {S : St} {f b : Int}, Sm S → Un S → Sm (prt S f b)
  | [], _, _, _, _ => fun s hs => nomatch hs
  | s :: r, f, b, h, hu => fun q hq => by
    rcases List.mem_append.mp hq with z | z
    · by_cases c : 0 < min2 s.2 b - max2 0 f
      · rw [if_pos c] at z
        rw [List.mem_singleton.mp z]
        have a := h s List.mem_cons_self
        refine ⟨a.1, ?_⟩
        have m1 : min2 s.2 b ≤ s.2 := by show (if b < s.2 then b else s.2) ≤ s.2; split <;> omega
        have m2 : 0 ≤ max2 0 f := by show 0 ≤ (if f > 0 then f else 0); split <;> omega
        show (min2 s.2 b - max2 0 f).natAbs < 2 ^ 40
        omega
      · rw [if_neg c] at z
        exact nomatch z
    · exact prt_sm h.tl hu.tl q z
theorem tot_sum : ∀ S : St, tot S = (S.map fun s => s.1 * s.2).sum
  | [] => rfl
  | s :: r => by
    rw [List.map_cons, List.sum_cons, ← tot_sum r]
    rfl
theorem worth_on {c : Cur} {w : Int} (h : Sm c.2.2) (hu : Un c.2.2) (hl : c.2.2.length ≤ 10000) : N_worth_on_curve c w = some (c.2.1 + tot (prt c.2.2 0 (w - c.1))) := by
  have k := prt_sm (f := 0) (b := w - c.1) h hu
  have n := prt_len (S := c.2.2) (f := 0) (b := w - c.1)
  unfold N_worth_on_curve
  rw [Option.bind_some, Option.bind_some, part_is hl, Option.bind_some, compL_all (g := fun s : Int × Int => s.1 * s.2) (by omega) (fun s hs => mul_ok (k s hs).1 (k s hs).2 (by decide)), Option.bind_some, Option.bind_some, tot_sum]
theorem in_month_is {c : Cur} {P : St} {w : Int} (hl : c.2.2.length ≤ 1000) (hp : P.length ≤ 1000) : N_curve_in_month c P w = some (c.1, c.2.1, usesM c P w) := by
  have := usesU_len c P w
  unfold N_curve_in_month
  rw [Option.bind_some, Option.bind_some, Option.bind_some, uses_is hl hp, Option.bind_some, compL_all (g := fun i2 : Int × Int × Bool => (i2.1, i2.2.1)) (by omega) (fun _ _ => rfl), Option.bind_some]
  rfl
theorem nxt_len {C x : Int} {c : Cur} {P : St} : (nxt C c x P).2.2.length ≤ c.2.2.length + P.length + 1 := by
  rw [← usesM_len c P (C + x)]
  exact prt_len
theorem bindE {α β : Type} {o : Option α} {a : α} {f : α → Option β} {r : Option β} (h : o = some a) (h2 : f a = r) : o.bind f = r := by
  rw [h]; exact h2
theorem foldO_app {α σ : Type} (Bd : α → σ → Option σ) : ∀ (l : List α) (x : α) (s : σ), foldO Bd (l ++ [x]) s = (foldO Bd l s).bind (Bd x)
  | [], x, s => by
    show (Bd x s).bind (foldO Bd []) = Bd x s
    cases Bd x s <;> rfl
  | y :: l, x, s => by
    show (Bd y s).bind (foldO Bd (l ++ [x])) = ((Bd y s).bind (foldO Bd l)).bind (Bd x)
    cases Bd y s with
    | none => rfl
    | some t => exact foldO_app Bd l x t
noncomputable def cB (i19 : Int × Int × List (Int × Int)) (s17 : List Cur) : Option (List Cur) := (((atI s17 (-(1 : Int))).bind fun a26 => (some i19.2.2).bind fun a27 => (some (i19.1 + i19.2.1)).bind fun a28 => N_curve_in_month a26 a27 a28).bind fun in_month_20 => ((N_curve_before in_month_20 i19.2.1 i19.1).bind fun x30 => (appO s17 x30).bind fun curves_29 => some curves_29))
theorem rep_one {α : Type} (a : α) (k : Nat) : (List.replicate k [a]).flatten = List.replicate k a := by
  induction k with
  | zero => rfl
  | succ k ih => rw [List.replicate_succ, List.flatten_cons, ih]; rfl
def hB (i8 : Int × Int × Bool) (s6 : Int × Int) : Option (Int × Int) := ((some (min2 s6.1 i8.2.1)).bind fun taken_9 => ((some taken_9).bind fun x14 => (fun left_15 => (iteO (some i8.2.2) (((some taken_9)).bind fun x16 => (fun held_17 => some (left_15, held_17)) (s6.2 + x16)) (some (left_15, s6.2)))) (s6.1 - x14)))
theorem hold_go : ∀ (U : Us) (y g : Int), ∃ y', foldO hB U (y, g) = some (y', g + gam true U y)
  | [], y, g => ⟨y, by show some (y, g) = some (y, g + 0); rw [Int.add_zero]⟩
  | u :: r, y, g => by
    obtain ⟨y', h⟩ := hold_go r (y - min2 y u.2.1) (g + if u.2.2 = true then min2 y u.2.1 else 0)
    refine ⟨y', ?_⟩
    have e : hB u (y, g) = some (y - min2 y u.2.1, g + if u.2.2 = true then min2 y u.2.1 else 0) := by
      unfold hB
      rw [Option.bind_some, Option.bind_some]
      cases u.2.2
      · show some (y - min2 y u.2.1, g) = some (y - min2 y u.2.1, g + if (false : Bool) = true then min2 y u.2.1 else 0)
        rw [if_neg (by decide), Int.add_zero]
      · rfl
    rw [foldO_cons, e, Option.bind_some, h]
    show some (y', _) = some (y', g + ((if u.2.2 = true then min2 y u.2.1 else 0) + gam true r (y - min2 y u.2.1)))
    rw [Int.add_assoc]
theorem hold_is {c : Cur} {P : St} {w : Int} (hl : c.2.2.length ≤ 1000) (hp : P.length ≤ 1000) : N_best_hold c P w = some (hold c P w) := by
  obtain ⟨y', h⟩ := hold_go (usesU c P w) (w - c.1) c.1
  unfold N_best_hold
  rw [Option.bind_some, Option.bind_some, uses_is hl hp, Option.bind_some]
  show (foldO hB (usesU c P w) (w - c.1, c.1)).bind _ = _
  rw [h]
  rfl
noncomputable def lB (i6 : Int × List (Int × Int) × Cur) (s4 : Int × List Int) : Option (Int × List Int) := ((N_best_hold i6.2.2 i6.2.1 (s4.1 + i6.1)).bind fun held_7 => ((appO s4.2 held_7).bind fun behind_10 => some (held_7, behind_10)))
theorem tail_cut {α : Type} : ∀ l : List α, l.length ≤ 1000 → cutT l (some (1 : Int)) none = l.tail
  | [], _ => rfl
  | a :: r, h => by
    unfold cutT
    rw [HT.sIx_none, show (some (1 : Int)) = some ((1 : Nat) : Int) from rfl, HT.sIx_nat, List.length_cons, Nat.min_eq_left (by omega)]
    show ((a :: r).drop 1).take (r.length + 1 - 1) = r
    rw [Nat.add_sub_cancel]
    exact List.take_length
theorem rel_map : ∀ (xs hs : List Int) (g : Int), hs.length = xs.length → ((zip3 ([g] ++ hs) xs hs).map fun i6 : Int × Int × Int => i6.1 + i6.2.1 - i6.2.2) = rel g xs hs
  | [], [], g, _ => rfl
  | x :: xs, h :: hs, g, hl => by
    show (g + x - h) :: ((zip3 ([h] ++ hs) xs hs).map fun i6 : Int × Int × Int => i6.1 + i6.2.1 - i6.2.2) = (g + x - h) :: rel h xs hs
    rw [rel_map xs hs h (by simpa using hl)]
  | [], _ :: _, _, h => by simp at h
  | _ :: _, [], _, h => by simp at h
theorem rel_is {g : Int} {xs hs : List Int} (hl : hs.length = xs.length) (h : xs.length ≤ 1000) : N_releases_between g xs hs = some (rel g xs hs) := by
  unfold N_releases_between
  have e : catO [g] hs = some ([g] ++ hs) := by
    unfold catO
    rw [if_pos (by rw [List.length_singleton]; omega)]
  rw [e, Option.bind_some, Option.bind_some, Option.bind_some, Option.bind_some, compL_all (g := fun i6 : Int × Int × Int => i6.1 + i6.2.1 - i6.2.2) (by
    unfold zip3
    rw [List.length_zip, List.length_zip]
    omega) (fun _ _ => rfl), rel_map xs hs g hl]
theorem rel_len : ∀ (xs hs : List Int) (g : Int), hs.length = xs.length → (rel g xs hs).length = xs.length
  | [], [], _, _ => rfl
  | x :: xs, h :: hs, g, hl => by
    show (rel h xs hs).length + 1 = _
    rw [rel_len xs hs h (by simpa using hl)]
    rfl
  | [], _ :: _, _, h => by simp at h
  | _ :: _, [], _, h => by simp at h
structure PBk (P : St) : Prop where
  ok : POk P
  sm : Sm (swp P)
  ln : P.length ≤ 3
theorem usesM_smL {c : Cur} {P : St} {w : Int} (h : Sm c.2.2) (hP : PBk P) (h0 : 0 ≤ w) (h1 : w < 2 ^ 39) : Sm (usesM c P w) := fun s hs => by
  rcases List.mem_append.mp ((usesM_perm c P w).mem_iff.mp hs) with z | z
  · rcases List.mem_append.mp z with y | y
    · exact h s y
    · exact hP.sm s y
  · rw [List.mem_singleton.mp z]
    exact ⟨by show (0 : Int).natAbs < 2 ^ 40; decide, by show (w + 1).natAbs < _; omega⟩
theorem before_isL {C D x : Int} {c : Cur} {P : St} (hc : Cv C c) (hs : Sm c.2.2) (hP : PBk P) (hl : c.2.2.length ≤ 900) (h0 : 0 ≤ D + x) (h1 : D + x < 2 ^ 39) :
    N_curve_before (c.1, c.2.1, usesM c P (D + x)) x D = some (nxt D c x P) := by
  have n := usesM_len c P (D + x)
  have p3 := hP.ln
  have sm := usesM_smL (w := D + x) hs hP h0 h1
  have un := usesM_un (w := D + x) hc hP.ok (by omega)
  unfold N_curve_before
  rw [Option.bind_some, Option.bind_some, Option.bind_some, part_is (by show (usesM c P (D + x)).length ≤ _; omega), Option.bind_some, Option.bind_some, worth_on sm un (by show (usesM c P (D + x)).length ≤ _; omega), Option.bind_some, Option.bind_some]
  rfl
theorem nxt_smL {C D x : Int} {c : Cur} {P : St} (hc : Cv C c) (hs : Sm c.2.2) (hP : PBk P) (h0 : 0 ≤ D + x) (h1 : D + x < 2 ^ 39) : Sm (nxt D c x P).2.2 :=
  prt_sm (usesM_smL (w := D + x) hs hP h0 h1) (usesM_un (w := D + x) hc hP.ok (by omega))
def cvsL (Z E : Int) : List Int → List Int → List St → List Cur
  | D :: cs, x :: xs, P :: ws => cvL Z E (D :: cs) (x :: xs) (P :: ws) :: cvsL Z E cs xs ws
  | cs, xs, ws => [cvL Z E cs xs ws]
theorem cvsL_head (Z E : Int) : ∀ (cs xs : List Int) (ws : List St), cs.length = xs.length → xs.length = ws.length → ∃ r, cvsL Z E cs xs ws = cvL Z E cs xs ws :: r
  | _ :: _, _ :: _, _ :: _, _, _ => ⟨_, rfl⟩
  | [], [], [], _, _ => ⟨[], rfl⟩
  | [], _ :: _, _, h, _ => by simp at h
  | _ :: _, [], _, h, _ => by simp at h
  | [], [], _ :: _, _, h => by simp at h
  | _ :: _, _ :: _, [], _, h => by simp at h
theorem cvsL_len (Z E : Int) : ∀ (cs xs : List Int) (ws : List St), cs.length = xs.length → xs.length = ws.length → (cvsL Z E cs xs ws).length = xs.length + 1
  | _ :: cs, x :: xs, P :: ws, h1, h2 => by
    show (cvsL Z E cs xs ws).length + 1 = _
    rw [cvsL_len Z E cs xs ws (by simpa using h1) (by simpa using h2)]
    rfl
  | [], [], [], _, _ => rfl
  | [], _ :: _, _, h, _ => by simp at h
  | _ :: _, [], _, h, _ => by simp at h
  | [], [], _ :: _, _, h => by simp at h
  | _ :: _, _ :: _, [], _, h => by simp at h
structure Parts (Z E : Int) (cs xs : List Int) (ws : List St) : Prop where
  e0 : 0 ≤ E
  e1 : E ≤ Z
  z : Z < 2 ^ 38
  cl : cs.length = xs.length
  wl : xs.length = ws.length
  n12 : xs.length ≤ 12
  c : ∀ c ∈ cs, 0 ≤ c ∧ c < 2 ^ 38
  x : ∀ x ∈ xs, 0 ≤ x ∧ x < 2 ^ 38
  w : ∀ P ∈ ws, PBk P
  f : CvL Z E cs xs ws
theorem Parts.tl {Z E D x : Int} {P : St} {cs xs : List Int} {ws : List St} (h : Parts Z E (D :: cs) (x :: xs) (P :: ws)) : Parts Z E cs xs ws :=
  ⟨h.e0, h.e1, h.z, by simpa using h.cl, by simpa using h.wl, by have := h.n12; simp at this; omega, fun y hy => h.c y (List.mem_cons_of_mem _ hy), fun y hy => h.x y (List.mem_cons_of_mem _ hy), fun y hy => h.w y (List.mem_cons_of_mem _ hy), h.f.2⟩
theorem Parts.cv {Z E : Int} {cs xs : List Int} {ws : List St} (h : Parts Z E cs xs ws) : Cv (capA Z cs) (cvL Z E cs xs ws) := cvL_ok ⟨h.e0, h.e1⟩ cs xs ws h.cl h.wl (fun c hc => (h.c c hc).1) (fun x hx => (h.x x hx).1) (fun P hP => (h.w P hP).ok) h.f
theorem cvL_s {Z E : Int} : ∀ (cs xs : List Int) (ws : List St), Parts Z E cs xs ws → Sm (cvL Z E cs xs ws).2.2 ∧ (cvL Z E cs xs ws).2.2.length ≤ 4 * xs.length + 1
  | [], [], [], h => ⟨fun s hs => by
      rw [List.mem_singleton.mp hs]
      have := h.e0; have := h.e1; have := h.z
      exact ⟨by show (0 : Int).natAbs < 2 ^ 40; decide, by show (Z - E).natAbs < 2 ^ 40; omega⟩, Nat.le_refl _⟩
  | D :: cs, x :: xs, P :: ws, h => by
    obtain ⟨i1, i2⟩ := cvL_s cs xs ws h.tl
    have hP := h.w P List.mem_cons_self
    have hx := h.x x List.mem_cons_self
    have hD := h.c D List.mem_cons_self
    have p3 := hP.ln
    refine ⟨nxt_smL h.tl.cv i1 hP (by omega) (by omega), ?_⟩
    have n := nxt_len (C := D) (x := x) (c := cvL Z E cs xs ws) (P := P)
    show (nxt D (cvL Z E cs xs ws) x P).2.2.length ≤ 4 * (xs.length + 1) + 1
    omega
  | [], _ :: _, _, h => by have := h.cl; simp at this
  | _ :: _, [], _, h => by have := h.cl; simp at this
  | [], [], _ :: _, h => by have := h.wl; simp at this
  | _ :: _, _ :: _, [], h => by have := h.wl; simp at this
theorem curvesL_go {Z E : Int} : ∀ (cs xs : List Int) (ws : List St), Parts Z E cs xs ws →
    foldO cB (List.reverse (zip3 (cs ++ [Z]) xs ws)) [cvL Z E [] [] []] = some (cvsL Z E cs xs ws).reverse
  | [], [], [], _ => rfl
  | D :: cs, x :: xs, P :: ws, h => by
    have hP := h.w P List.mem_cons_self
    have hx := h.x x List.mem_cons_self
    have hD := h.c D List.mem_cons_self
    have ih := curvesL_go cs xs ws h.tl
    obtain ⟨s1, s2⟩ := cvL_s cs xs ws h.tl
    have n12 := h.n12
    rw [List.length_cons] at n12
    have p3 := hP.ln
    obtain ⟨r, hr⟩ := cvsL_head Z E cs xs ws h.tl.cl h.tl.wl
    have nl := cvsL_len Z E cs xs ws h.tl.cl h.tl.wl
    have ez : zip3 ((D :: cs) ++ [Z]) (x :: xs) (P :: ws) = (D, x, P) :: zip3 (cs ++ [Z]) xs ws := rfl
    rw [ez, List.reverse_cons, foldO_app, ih, Option.bind_some]
    have ea : atI (cvsL Z E cs xs ws).reverse (-(1 : Int)) = some (cvL Z E cs xs ws) := by
      rw [hr, List.reverse_cons]
      exact atI_last _ _
    have e2 : N_curve_in_month (cvL Z E cs xs ws) P (D + x) = some ((cvL Z E cs xs ws).1, (cvL Z E cs xs ws).2.1, usesM (cvL Z E cs xs ws) P (D + x)) := in_month_is (by omega) (by omega)
    have e3 := before_isL (D := D) (x := x) h.tl.cv s1 hP (by omega) (by omega) (by omega)
    have e4 : appO (cvsL Z E cs xs ws).reverse (nxt D (cvL Z E cs xs ws) x P) = some ((cvsL Z E cs xs ws).reverse ++ [nxt D (cvL Z E cs xs ws) x P]) := by
      unfold appO
      rw [if_pos (by rw [List.length_reverse]; omega)]
    unfold cB
    rw [ea, Option.bind_some, Option.bind_some, Option.bind_some, e2, Option.bind_some, e3, Option.bind_some, e4, Option.bind_some]
    show _ = some (cvL Z E (D :: cs) (x :: xs) (P :: ws) :: cvsL Z E cs xs ws).reverse
    rw [List.reverse_cons]
    rfl
  | [], _ :: _, _, h => by have := h.cl; simp at this
  | _ :: _, [], _, h => by have := h.cl; simp at this
  | [], [], _ :: _, h => by have := h.wl; simp at this
  | _ :: _, _ :: _, [], h => by have := h.wl; simp at this
theorem levelsL_go {Z E : Int} : ∀ (cs xs : List Int) (ws : List St) (g : Int) (acc : List Int), Parts Z E cs xs ws → acc.length + xs.length ≤ 30 →
    ∃ g', foldO lB (zip3 xs ws (cvsL Z E cs xs ws).tail) (g, acc) = some (g', acc ++ blL Z E g cs xs ws)
  | [], [], [], g, acc, _, _ => ⟨g, by show some (g, acc) = some (g, acc ++ []); rw [List.append_nil]⟩
  | D :: cs, x :: xs, P :: ws, g, acc, h, ha => by
    rw [List.length_cons] at ha
    have p3 := (h.w P List.mem_cons_self).ln
    have s := (cvL_s cs xs ws h.tl).2
    have n12 := h.n12
    rw [List.length_cons] at n12
    obtain ⟨r, hr⟩ := cvsL_head Z E cs xs ws h.tl.cl h.tl.wl
    obtain ⟨g', ih⟩ := levelsL_go cs xs ws (hold (cvL Z E cs xs ws) P (g + x)) (acc ++ [hold (cvL Z E cs xs ws) P (g + x)]) h.tl (by rw [List.length_append, List.length_singleton]; omega)
    refine ⟨g', ?_⟩
    have ez : zip3 (x :: xs) (P :: ws) (cvsL Z E (D :: cs) (x :: xs) (P :: ws)).tail = (x, P, cvL Z E cs xs ws) :: zip3 xs ws (cvsL Z E cs xs ws).tail := by
      show zip3 (x :: xs) (P :: ws) (cvsL Z E cs xs ws) = _
      rw [hr]
      rfl
    have e1 : lB (x, P, cvL Z E cs xs ws) (g, acc) = some (hold (cvL Z E cs xs ws) P (g + x), acc ++ [hold (cvL Z E cs xs ws) P (g + x)]) := by
      have eh := hold_is (c := cvL Z E cs xs ws) (P := P) (w := g + x) (by omega) (by omega)
      unfold lB
      show (N_best_hold (cvL Z E cs xs ws) P (g + x)).bind _ = _
      rw [eh, Option.bind_some]
      show (appO acc _).bind _ = _
      unfold appO
      rw [if_pos (by omega)]
      rfl
    rw [ez, foldO_cons, e1, Option.bind_some, ih, List.append_assoc]
    rfl
  | [], _ :: _, _, _, _, h, _ => by have := h.cl; simp at this
  | _ :: _, [], _, _, _, h, _ => by have := h.cl; simp at this
  | [], [], _ :: _, _, _, h, _ => by have := h.wl; simp at this
  | _ :: _, _ :: _, [], _, _, h, _ => by have := h.wl; simp at this
theorem levelsL_is {Z E g : Int} {cs xs : List Int} {ws : List St} (h : Parts Z E cs xs ws) : N_best_levels g xs ws (cvsL Z E cs xs ws) = some (blL Z E g cs xs ws) := by
  have n12 := h.n12
  have n := cvsL_len Z E cs xs ws h.cl h.wl
  obtain ⟨g', e⟩ := levelsL_go cs xs ws g [] h (by rw [List.length_nil]; omega)
  unfold N_best_levels
  rw [tail_cut _ (by omega)]
  show (foldO lB (zip3 xs ws (cvsL Z E cs xs ws).tail) (g, [])).bind _ = _
  rw [e]
  rfl
section
variable {Z E g : Int} {cs xs : List Int} {ws : List St}
theorem curvesL_is (h : Parts Z E cs xs ws) : N_curves_of_levels (cs ++ [Z]) E xs ws = some (cvsL Z E cs xs ws) := by
  have el : atI (cs ++ [Z]) (-(1 : Int)) = some Z := atI_last _ _
  have g := curvesL_go cs xs ws h
  unfold N_curves_of_levels
  rw [el]
  show (foldO cB (List.reverse (zip3 (cs ++ [Z]) xs ws)) [cvL Z E [] [] []]).bind _ = _
  rw [g, Option.bind_some, List.reverse_reverse]
def gwL (Z E g : Int) (cs xs : List Int) (ws : List St) : Int := (cvL Z E cs xs ws).2.1 + tot (prt (cvL Z E cs xs ws).2.2 0 (g - (cvL Z E cs xs ws).1))
theorem worthL_is (h : Parts Z E cs xs ws) : N_worth_on_curve (cvL Z E cs xs ws) g = some (gwL Z E g cs xs ws) := by
  obtain ⟨a, b⟩ := cvL_s cs xs ws h
  have n := h.n12
  exact worth_on a h.cv.un (by omega)
def bestL (Z E g : Int) (cs xs : List Int) (ws : List St) : List Int := rel g xs (blL Z E g cs xs ws)
structure BestL (Z E g : Int) (cs xs : List Int) (ws : List St) : Prop where
  tail : TailL Z (E : Rat) (g : Rat) cs xs ((bestL Z E g cs xs ws).map fun i : Int => (i : Rat))
  up : ∀ qs, TailL Z (E : Rat) (g : Rat) cs xs qs → wR ws qs ≤ (gwL Z E g cs xs ws : Rat)
  eq : (gwL Z E g cs xs ws : Rat) = wR ws ((bestL Z E g cs xs ws).map fun i : Int => (i : Rat))
theorem bestL_ok (h : Parts Z E cs xs ws) (g0 : 0 ≤ g) (g1 : g ≤ capA Z cs) (lo : (cvL Z E cs xs ws).1 ≤ g) : BestL Z E g cs xs ws := by
  have k := h.cv
  have hE : 0 ≤ E ∧ E ≤ Z := ⟨h.e0, h.e1⟩
  have hc := fun c hc => (h.c c hc).1
  have hx := fun x hx => (h.x x hx).1
  have hw := fun P hP => (h.w P hP).ok
  obtain ⟨_, b2, b3⟩ := blL_ok hE cs xs ws g h.cl h.wl hc hx hw h.f lo g1
  have ge : (gwL Z E g cs xs ws : Rat) = ((cvL Z E cs xs ws).2.1 : Rat) + stV (cvL Z E cs xs ws).2.2 ((g : Rat) - ((cvL Z E cs xs ws).1 : Rat)) := by
    unfold gwL
    rw [Rat.intCast_add, tot_prt k.un (by omega) (by rw [k.sz]; omega), Rat.intCast_sub]
  have up : ∀ qs, TailL Z (E : Rat) (g : Rat) cs xs qs → wR ws qs ≤ (gwL Z E g cs xs ws : Rat) := fun qs hq => by
    rw [ge]
    exact (cvL_up hE cs xs ws qs (g : Rat) h.cl h.wl hc hx hw (c0 g0) (Rat.intCast_le_intCast.mpr g1) hq).2.2
  refine ⟨b2, up, Rat.le_antisymm ?_ (up _ b2)⟩
  rw [ge]
  exact b3
end
def Du (t : Rat) (S : St) (y : Rat) : Prop := stC t S + t * y = stV S y
def upr (S : St) (i : Int) : Int := match prt S i (i + 1) with
  | s :: _ => s.1
  | [] => 0
theorem unit_ok : ∀ {S : St} {i : Int}, Un S → Dn S → 0 ≤ i → i + 1 ≤ stN S → ∃ a u r, prt S i (i + 1) = (a, u) :: r ∧ (∃ s ∈ S, s.1 = a) ∧ Du (a : Rat) S (i : Rat) ∧ Du (a : Rat) S (((i + 1 : Int)) : Rat)
  | [], i, _, _, h0, h1 => by
    have : stN ([] : St) = 0 := rfl
    omega
  | s :: r, i, hu, hd, h0, h1 => by
    have hu0 := hu s List.mem_cons_self
    have dn := List.pairwise_cons.mp hd
    have hN : stN (s :: r) = s.2 + stN r := rfl
    have ci : ((i + 1 : Int) : Rat) = (i : Rat) + 1 := by rw [Rat.intCast_add]; rfl
    have ir : (0 : Rat) ≤ (i : Rat) := c0 h0
    have m0 : max2 0 i = i := by show (if i > 0 then i else 0) = i; split <;> omega
    show ∃ a u r', (if 0 < min2 s.2 (i + 1) - max2 0 i then [(s.1, min2 s.2 (i + 1) - max2 0 i)] else []) ++ prt r (i - s.2) (i + 1 - s.2) = (a, u) :: r' ∧ _
    by_cases c : i < s.2
    · have m1 : min2 s.2 (i + 1) = i + 1 := by show (if i + 1 < s.2 then i + 1 else s.2) = i + 1; split <;> omega
      rw [m0, m1, if_pos (by omega)]
      refine ⟨s.1, i + 1 - i, prt r (i - s.2) (i + 1 - s.2), rfl, ⟨s, List.mem_cons_self, rfl⟩, ?_⟩
      have key : ∀ y : Rat, 0 ≤ y → y ≤ (s.2 : Rat) → Du (s.1 : Rat) (s :: r) y := fun y y0 y1 => by
        show (s.2 : Rat) * ovP (s.1 : Rat) s.1 + stC (s.1 : Rat) r + (s.1 : Rat) * y = (s.1 : Rat) * clp y s.2 + stV r (y - (s.2 : Rat))
        have o : ovP (s.1 : Rat) s.1 = 0 := by unfold ovP; rw [if_neg Rat.lt_irrefl]
        rw [o, stC_low fun x hx => Rat.intCast_le_intCast.mpr (dn.1 x hx), stV_nonpos hu.tl (by grind), clp_mid y0 y1]
        grind
      exact ⟨key _ ir (Rat.intCast_le_intCast.mpr (by omega)), key _ (c0 (by omega)) (Rat.intCast_le_intCast.mpr (by omega))⟩
    · have m1 : min2 s.2 (i + 1) = s.2 := by show (if i + 1 < s.2 then i + 1 else s.2) = s.2; split <;> omega
      rw [m0, m1, if_neg (by omega), List.nil_append]
      have e : i + 1 - s.2 = (i - s.2) + 1 := by omega
      rw [e]
      obtain ⟨a, u, r', p1, ⟨q, q1, q2⟩, p2, p3⟩ := unit_ok (S := r) (i := i - s.2) hu.tl dn.2 (by omega) (by omega)
      refine ⟨a, u, r', p1, ⟨q, List.mem_cons_of_mem _ q1, q2⟩, ?_⟩
      have le : (a : Rat) ≤ (s.1 : Rat) := by rw [← q2]; exact Rat.intCast_le_intCast.mpr (dn.1 q q1)
      have key : ∀ y : Rat, (s.2 : Rat) ≤ y → Du (a : Rat) r (y - (s.2 : Rat)) → Du (a : Rat) (s :: r) y := fun y y0 h => by
        unfold Du at h
        show (s.2 : Rat) * ovP (a : Rat) s.1 + stC (a : Rat) r + (a : Rat) * y = (s.1 : Rat) * clp y s.2 + stV r (y - (s.2 : Rat))
        have o : ovP (a : Rat) s.1 = (s.1 : Rat) - (a : Rat) := by
          unfold ovP
          split <;> grind
        rw [o, clp_hi hu0 y0, ← h]
        grind
      refine ⟨key _ (Rat.intCast_le_intCast.mpr (by omega)) ?_, key _ (Rat.intCast_le_intCast.mpr (by omega)) ?_⟩
      · rw [← Rat.intCast_sub]; exact p2
      · rw [← Rat.intCast_sub, e]; exact p3
theorem upr_ok {S : St} {i : Int} (hu : Un S) (hd : Dn S) (h0 : 0 ≤ i) (h1 : i + 1 ≤ stN S) : (∃ u r, prt S i (i + 1) = (upr S i, u) :: r) ∧ (∃ s ∈ S, s.1 = upr S i) ∧ Du (upr S i : Rat) S (i : Rat) ∧ Du (upr S i : Rat) S (((i + 1 : Int)) : Rat) := by
  obtain ⟨a, u, r, p1, p2, p3, p4⟩ := unit_ok hu hd h0 h1
  have e : upr S i = a := by unfold upr; rw [p1]
  rw [e]
  exact ⟨⟨u, r, p1⟩, p2, p3, p4⟩
theorem ovP_mid {a p b : Rat} {q : Int} (h1 : a ≤ p) (h2 : p ≤ b) : (b - a) * ovP p q ≤ (b - p) * ovP a q + (p - a) * ovP b q := by
  obtain ⟨a1, a2⟩ := ovP_ge a q
  obtain ⟨b1, b2⟩ := ovP_ge b q
  have x1 := Rat.mul_nonneg (show (0 : Rat) ≤ b - p by grind) a2
  have x2 := Rat.mul_nonneg (show (0 : Rat) ≤ p - a by grind) b2
  have x3 := Rat.mul_le_mul_of_nonneg_left a1 (show (0 : Rat) ≤ b - p by grind)
  have x4 := Rat.mul_le_mul_of_nonneg_left b1 (show (0 : Rat) ≤ p - a by grind)
  have o : ovP p q = 0 ∨ ovP p q = (q : Rat) - p := by
    unfold ovP
    split
    · exact .inr rfl
    · exact .inl rfl
  rcases o with o | o
  · rw [o]; grind
  · rw [o]
    have e : (b - a) * ((q : Rat) - p) = (b - p) * ((q : Rat) - a) + (p - a) * ((q : Rat) - b) := by grind
    grind
theorem stC_mid {a p b : Rat} (h1 : a ≤ p) (h2 : p ≤ b) : ∀ {S : St}, Un S → (b - a) * stC p S ≤ (b - p) * stC a S + (p - a) * stC b S
  | [], _ => by
    show (b - a) * 0 ≤ (b - p) * 0 + (p - a) * 0
    grind
  | s :: r, h => by
    have i := stC_mid h1 h2 (S := r) h.tl
    have o := Rat.mul_le_mul_of_nonneg_left (ovP_mid (q := s.1) h1 h2) (c0 (h s List.mem_cons_self))
    show (b - a) * ((s.2 : Rat) * ovP p s.1 + stC p r) ≤ (b - p) * ((s.2 : Rat) * ovP a s.1 + stC a r) + (p - a) * ((s.2 : Rat) * ovP b s.1 + stC b r)
    grind
theorem Du.mid {a p b y : Rat} {S : St} (hu : Un S) (ha : Du a S y) (hb : Du b S y) (h1 : a ≤ p) (h2 : p ≤ b) (p0 : 0 ≤ p) (y0 : 0 ≤ y) : Du p S y := by
  refine Rat.le_antisymm ?_ (stV_le p0 hu y0)
  unfold Du at ha hb
  by_cases c : a = b
  · have : p = a := Rat.le_antisymm (by rw [c]; exact h2) h1
    rw [this, ha]
    exact Rat.le_refl
  · have lt : 0 < b - a := by
      have : a ≤ b := Rat.le_trans h1 h2
      rcases Rat.le_iff_lt_or_eq.mp this with z | z
      · grind
      · exact absurd z c
    have m := stC_mid h1 h2 hu
    have e : (b - a) * (stC p S + p * y) ≤ (b - a) * stV S y := by
      have e1 : (b - a) * (p * y) = (b - p) * (a * y) + (p - a) * (b * y) := by grind
      have e2 : (b - a) * stV S y = (b - p) * (stC a S + a * y) + (p - a) * (stC b S + b * y) := by rw [ha, hb]; grind
      grind
    exact Rat.le_of_mul_le_mul_left e lt
def near (S : St) (l w p : Int) : Int := if w = l then max2 p (upr S (w - l)) else min2 (max2 p (upr S (w - l))) (upr S (w - 1 - l))
theorem Du.up {t y z : Rat} {S : St} (h : Du t S y) (hu : Un S) (t0 : 0 ≤ t) (z0 : 0 ≤ z) : stV S z ≤ stV S y + t * (z - y) := by
  have := stV_le t0 hu z0
  unfold Du at h
  grind
theorem near_ok {S : St} {l w p : Int} (hu : Un S) (hd : Dn S) (hz : Pz S) (p0 : 0 ≤ p) (h0 : l ≤ w) (h1 : w - l + 1 ≤ stN S) :
    0 ≤ near S l w p ∧ Du (near S l w p : Rat) S (((w - l : Int)) : Rat) ∧
    (p < near S l w p → (near S l w p : Rat) ≤ stV S ((w - l + 1 : Int) : Rat) - stV S ((w - l : Int) : Rat)) ∧
    (near S l w p < p → l < w ∧ stV S ((w - l : Int) : Rat) - stV S ((w - 1 - l : Int) : Rat) ≤ (near S l w p : Rat)) := by
  obtain ⟨_, ⟨s, s1, s2⟩, a1, a2⟩ := upr_ok (i := w - l) hu hd (by omega) h1
  have az : 0 ≤ upr S (w - l) := by rw [← s2]; exact hz s s1
  have c1 : ((w - l + 1 : Int) : Rat) = ((w - l : Int) : Rat) + 1 := by rw [Rat.intCast_add]; rfl
  have y0 : (0 : Rat) ≤ ((w - l : Int) : Rat) := c0 (by omega)
  have az' := c0 az
  have sl : stV S ((w - l + 1 : Int) : Rat) - stV S ((w - l : Int) : Rat) = (upr S (w - l) : Rat) := by
    unfold Du at a1 a2
    rw [← a1, ← a2, c1]
    grind
  have mx : max2 p (upr S (w - l)) = if upr S (w - l) > p then upr S (w - l) else p := rfl
  by_cases c : w = l
  · have e : near S l w p = max2 p (upr S (w - l)) := by unfold near; rw [if_pos c]
    have z : ((w - l : Int) : Rat) = 0 := by rw [c, Int.sub_self]; rfl
    rw [e, mx]
    refine ⟨by split <;> omega, ?_, ?_, ?_⟩
    · -- above the slope there is nothing but the axis
      rw [z]
      rw [z] at a1
      have v0 : stV S 0 = 0 := stV_zero hu
      unfold Du at a1 ⊢
      rw [v0] at a1 ⊢
      have low : ∀ t : Rat, (upr S (w - l) : Rat) ≤ t → stC t S + t * 0 = 0 := fun t ht => by
        have k1 : stC t S ≤ stC (upr S (w - l) : Rat) S := by
          have : ∀ {r : St}, Un r → stC t r ≤ stC (upr S (w - l) : Rat) r := by
            intro r
            induction r with
            | nil => intro _; exact Rat.le_refl
            | cons x r ih =>
              intro h
              have i := ih h.tl
              have o : ovP t x.1 ≤ ovP (upr S (w - l) : Rat) x.1 := by
                obtain ⟨o1, o2⟩ := ovP_ge (upr S (w - l) : Rat) x.1
                unfold ovP at o1 o2 ⊢
                split <;> grind
              have m := Rat.mul_le_mul_of_nonneg_left o (c0 (h x List.mem_cons_self))
              show (x.2 : Rat) * ovP t x.1 + stC t r ≤ (x.2 : Rat) * ovP (upr S (w - l) : Rat) x.1 + stC (upr S (w - l) : Rat) r
              grind
          exact this hu
        have k2 := stV_le (t := t) (Rat.le_trans az' ht) hu (y := 0) Rat.le_refl
        rw [v0] at k2
        grind
      exact low _ (by split <;> exact Rat.intCast_le_intCast.mpr (by omega))
    · intro h
      rw [sl]
      split at h
      · rw [if_pos (by assumption)]; exact Rat.le_refl
      · omega
    · intro h
      split at h <;> omega
  · obtain ⟨_, ⟨t, t1, t2⟩, b1, b2⟩ := upr_ok (i := w - 1 - l) hu hd (by omega) (by omega)
    have bz : 0 ≤ upr S (w - 1 - l) := by rw [← t2]; exact hz t t1
    have e2 : w - 1 - l + 1 = w - l := by omega
    rw [e2] at b2
    have c2 : ((w - l : Int) : Rat) = ((w - 1 - l : Int) : Rat) + 1 := by rw [← e2, Rat.intCast_add]; rfl
    have sl2 : stV S ((w - l : Int) : Rat) - stV S ((w - 1 - l : Int) : Rat) = (upr S (w - 1 - l) : Rat) := by
      unfold Du at b1 b2
      rw [← b1, ← b2, c2]
      grind
    have ab : (upr S (w - l) : Rat) ≤ (upr S (w - 1 - l) : Rat) := by
      have k := a1.up hu az' (z := ((w - 1 - l : Int) : Rat)) (c0 (by omega))
      rw [← sl2]
      have : ((w - 1 - l : Int) : Rat) - ((w - l : Int) : Rat) = -1 := by rw [c2]; grind
      rw [this] at k
      grind
    have abi : upr S (w - l) ≤ upr S (w - 1 - l) := Rat.intCast_le_intCast.mp ab
    have e : near S l w p = min2 (max2 p (upr S (w - l))) (upr S (w - 1 - l)) := by unfold near; rw [if_neg c]
    have mn : near S l w p = if upr S (w - 1 - l) < (if upr S (w - l) > p then upr S (w - l) else p) then upr S (w - 1 - l) else (if upr S (w - l) > p then upr S (w - l) else p) := e
    have lo : upr S (w - l) ≤ near S l w p := by rw [mn]; split <;> split <;> omega
    have hi : near S l w p ≤ upr S (w - 1 - l) := by rw [mn]; split <;> split <;> omega
    refine ⟨by omega, a1.mid hu b2 (Rat.intCast_le_intCast.mpr lo) (Rat.intCast_le_intCast.mpr hi) (c0 (by omega)) y0, fun h => ?_, fun h => ⟨by omega, ?_⟩⟩
    · rw [sl]
      refine Rat.intCast_le_intCast.mpr ?_
      rw [mn] at h ⊢
      split at h <;> split at h <;> split <;> omega
    · rw [sl2]
      refine Rat.intCast_le_intCast.mpr ?_
      rw [mn] at h ⊢
      split at h <;> split at h <;> split <;> omega
section
variable {C : Int} {c : Cur} {P : St}
theorem usesM_same {w1 w2 : Int} {y : Rat} (h : Cv C c) (hP : POk P) (h1 : 0 ≤ w1 + 1) (h2 : 0 ≤ w2 + 1) (y0 : 0 ≤ y) (y1 : y ≤ (stN (usesM c P w1) : Rat)) (y2 : y ≤ (stN (usesM c P w2) : Rat)) : stV (usesM c P w1) y = stV (usesM c P w2) y := by
  have half : ∀ {w1 w2 : Int}, 0 ≤ w1 + 1 → 0 ≤ w2 + 1 → y ≤ (stN (usesM c P w1) : Rat) → stV (usesM c P w2) y ≤ stV (usesM c P w1) y := fun {w1 w2} h1 h2 y1 => by
    obtain ⟨t, t0, t1⟩ := stV_ex (usesM_un (w := w1) h hP h1) (usesM_dn c P w1) (usesM_pz h hP) y0 y1
    have := stV_le t0 (usesM_un (w := w2) h hP h2) y0
    rw [usesM_C t t0] at this t1
    grind
  exact Rat.le_antisymm (half h2 h1 y2) (half h1 h2 y1)
end
def Jn (C E : Rat) (p : Int) (h : Rat) : List Int → Prop
  | [] => (p : Rat) * (h - E) = 0
  | q :: _ => (p < q → h = C) ∧ (q < p → h = 0)
def Bd (C E : Rat) : List Int → List St → List Int → Rat
  | x :: xs, P :: ws, p :: ps => (x : Rat) * (p : Rat) + stC (p : Rat) (swp P) + (match ps with
    | [] => -(E * (p : Rat))
    | q :: _ => C * (if p < q then (q : Rat) - (p : Rat) else 0)) + Bd C E xs ws ps
  | _, _, _ => 0
section
variable {C : Int} {c : Cur} {P : St}
theorem hold_duL {w W : Int} {t : Rat} (h : Cv C c) (hP : POk P) (h0 : c.1 ≤ w) (h1 : w ≤ W) (t0 : 0 ≤ t) (d : Du t (usesM c P w) ((w - c.1 : Int) : Rat)) :
    Du t (swp P) ((w : Rat) - (hold c P w : Rat)) ∧ Du t c.2.2 ((hold c P w : Rat) - (c.1 : Rat)) := by
  obtain ⟨o1, o2, o3, o4⟩ := hold_okL h hP h0 h1
  have lo := h.lo
  have hi := h.hi
  have nP := stN_nonneg hP.un
  have N1 := usesM_N (P := P) (w := w) h
  have N2 := usesM_N (P := P) (w := W) h
  have ce : ((w - c.1 : Int) : Rat) = (w : Rat) - (c.1 : Rat) := Rat.intCast_sub w c.1
  have same := usesM_same (w1 := w) (w2 := W) (y := ((w - c.1 : Int) : Rat)) h hP (by omega) (by omega) (c0 (by omega)) (Rat.intCast_le_intCast.mpr (by omega)) (Rat.intCast_le_intCast.mpr (by omega))
  rw [ce] at same d
  rw [← same] at o4
  have g1 := Rat.intCast_le_intCast.mpr o1
  have g3 := Rat.intCast_le_intCast.mpr o3
  have k1 := stV_le (S := swp P) (y := (w : Rat) - (hold c P w : Rat)) t0 hP.un (by grind)
  have k2 := stV_le (S := c.2.2) (y := (hold c P w : Rat) - (c.1 : Rat)) t0 h.un (by grind)
  unfold Du at d ⊢
  rw [usesM_C t t0] at d
  constructor <;> grind
end
def SlL (Z : Int) (E : Rat) : Rat → List Int → List Int → List St → List Rat → List Int → Prop
  | h, _ :: cs, x :: xs, P :: ws, r :: rs, p :: ps => 0 ≤ p ∧ Du (p : Rat) (swp P) r ∧ Jn (capA Z cs : Rat) E p (h + (x : Rat) - r) ps ∧ SlL Z E (h + (x : Rat) - r) cs xs ws rs ps
  | _, [], [], [], [], [] => True
  | _, _, _, _, _, _ => False
def prsL (Z E : Int) : Int → Int → List Int → List Int → List St → List Int
  | g, p, _ :: cs, x :: xs, P :: ws => near (usesM (cvL Z E cs xs ws) P (g + x)) (cvL Z E cs xs ws).1 (g + x) p :: prsL Z E (hold (cvL Z E cs xs ws) P (g + x)) (near (usesM (cvL Z E cs xs ws) P (g + x)) (cvL Z E cs xs ws).1 (g + x) p) cs xs ws
  | _, _, _, _, _ => []
theorem prsL_ok {Z E : Int} (hE : 0 ≤ E ∧ E ≤ Z) : ∀ (cs xs : List Int) (ws : List St) (g p : Int), cs.length = xs.length → xs.length = ws.length → (∀ c ∈ cs, 0 ≤ c) → (∀ x ∈ xs, 0 ≤ x) → (∀ P ∈ ws, POk P) → CvL Z E cs xs ws → (cvL Z E cs xs ws).1 ≤ g → g ≤ capA Z cs → 0 ≤ p →
    (Du (p : Rat) (cvL Z E cs xs ws).2.2 ((g : Rat) - ((cvL Z E cs xs ws).1 : Rat)) → Jn (capA Z cs : Rat) (E : Rat) p (g : Rat) (prsL Z E g p cs xs ws)) ∧ SlL Z (E : Rat) (g : Rat) cs xs ws ((rel g xs (blL Z E g cs xs ws)).map fun i : Int => (i : Rat)) (prsL Z E g p cs xs ws)
  | [], [], [], g, p, _, _, _, _, _, _, h0, h1, hp => by
    refine ⟨fun d => ?_, trivial⟩
    have d' : ((Z - E : Int) : Rat) * ovP (p : Rat) 0 + 0 + (p : Rat) * ((g : Rat) - (E : Rat)) = ((0 : Int) : Rat) * clp ((g : Rat) - (E : Rat)) (Z - E) + 0 := d
    have z : ((0 : Int) : Rat) = 0 := rfl
    have o : ovP (p : Rat) 0 = 0 := by
      unfold ovP
      rw [if_neg (by rw [z]; exact Rat.not_lt.mpr (c0 hp))]
    show (p : Rat) * ((g : Rat) - (E : Rat)) = 0
    rw [o, z] at d'
    grind
  | D :: cs, x :: xs, P :: ws, g, p, hl, hl2, hc, hx, hw, ⟨f1, f2⟩, h0, h1, hp => by
    have D0 := hc D List.mem_cons_self
    have hcs : ∀ y ∈ cs, 0 ≤ y := fun y hy => hc y (List.mem_cons_of_mem _ hy)
    have h1 : g ≤ D := h1
    have x0 := hx x List.mem_cons_self
    have hP := hw P List.mem_cons_self
    have hxs : ∀ y ∈ xs, 0 ≤ y := fun y hy => hx y (List.mem_cons_of_mem _ hy)
    have hws : ∀ y ∈ ws, POk y := fun y hy => hw y (List.mem_cons_of_mem _ hy)
    have la : cs.length = xs.length := by simpa using hl
    have lb : xs.length = ws.length := by simpa using hl2
    have k := cvL_ok hE cs xs ws la lb hcs hxs hws f2
    generalize ec : cvL Z E cs xs ws = c at k f1
    have h0' : lowC c x ≤ g := by rw [← ec]; exact h0
    have ll := lowC_eq c x
    have lo := k.lo
    have hi := k.hi
    have lw : c.1 ≤ g + x := by
      rw [ll] at h0'
      split at h0' <;> omega
    have nP := stN_nonneg hP.un
    have N1 := usesM_N (P := P) (w := g + x) k
    have N2 := usesM_N (P := P) (w := D + x) k
    have un := usesM_un (w := g + x) k hP (by omega)
    obtain ⟨q0, qd, qu, ql⟩ := near_ok (S := usesM c P (g + x)) (l := c.1) (w := g + x) (p := p) un (usesM_dn _ _ _) (usesM_pz k hP) hp lw (by omega)
    generalize eq : near (usesM c P (g + x)) c.1 (g + x) p = q at q0 qd qu ql
    obtain ⟨o1, o2, o3, o4⟩ := hold_okL (w := g + x) (W := D + x) k hP lw (by omega)
    obtain ⟨d1, d2⟩ := hold_duL (w := g + x) (W := D + x) (t := (q : Rat)) k hP lw (by omega) (c0 q0) qd
    have ih := prsL_ok hE cs xs ws (hold c P (g + x)) q la lb hcs hxs hws f2 (by rw [ec]; exact o1) o2 q0
    rw [ec] at ih
    have ep : prsL Z E g p (D :: cs) (x :: xs) (P :: ws) = q :: prsL Z E (hold c P (g + x)) q cs xs ws := by
      show near (usesM (cvL Z E cs xs ws) P (g + x)) (cvL Z E cs xs ws).1 (g + x) p :: prsL Z E (hold (cvL Z E cs xs ws) P (g + x)) (near (usesM (cvL Z E cs xs ws) P (g + x)) (cvL Z E cs xs ws).1 (g + x) p) cs xs ws = _
      rw [ec, eq]
    have er : rel g (x :: xs) (blL Z E g (D :: cs) (x :: xs) (P :: ws)) = (g + x - hold c P (g + x)) :: rel (hold c P (g + x)) xs (blL Z E (hold c P (g + x)) cs xs ws) := by
      show (g + x - hold (cvL Z E cs xs ws) P (g + x)) :: rel (hold (cvL Z E cs xs ws) P (g + x)) xs (blL Z E (hold (cvL Z E cs xs ws) P (g + x)) cs xs ws) = _
      rw [ec]
    rw [ep, er]
    have cg : ((g + x : Int) : Rat) = (g : Rat) + (x : Rat) := Rat.intCast_add g x
    have cgl : ((g + x - c.1 : Int) : Rat) = (g : Rat) + (x : Rat) - (c.1 : Rat) := by rw [Rat.intCast_sub, cg]
    have ch : (g : Rat) + (x : Rat) - ((g + x - hold c P (g + x) : Int) : Rat) = (hold c P (g + x) : Rat) := by
      rw [Rat.intCast_sub, cg]
      grind
    refine ⟨fun d => ?_, q0, ?_, ?_, ?_⟩
    · have same : ∀ y : Rat, 0 ≤ y → y ≤ ((g + x - c.1 + 1 : Int) : Rat) → stV (usesM c P (g + x)) y = stV (usesM c P (D + x)) y := fun y y0 y1 => usesM_same k hP (by omega) (by omega) y0 (Rat.le_trans y1 (Rat.intCast_le_intCast.mpr (by omega))) (Rat.le_trans y1 (Rat.intCast_le_intCast.mpr (by omega)))
      have d' : Du (p : Rat) (nxt D c x P).2.2 ((g : Rat) - (lowC c x : Rat)) := by rw [← ec]; exact d
      have kk := nxt_okL k hP x0 D0 f1
      have V := fun (z : Rat) (a : (lowC c x : Rat) ≤ z) (b : z ≤ (D : Rat)) => nxt_VL k hP x0 D0 f1 a b
      have lg := Rat.intCast_le_intCast.mpr h0'
      have gC := Rat.intCast_le_intCast.mpr h1
      have vg := V (g : Rat) lg gC
      have c1 : ((g + x - c.1 + 1 : Int) : Rat) = (g : Rat) + (x : Rat) - (c.1 : Rat) + 1 := by rw [Rat.intCast_add, cgl]; rfl
      have y0 : (0 : Rat) ≤ ((g + x - c.1 : Int) : Rat) := c0 (by omega)
      refine ⟨fun lt => ?_, fun lt => ?_⟩
      · rcases Int.lt_or_eq_of_le h1 with z | z
        · exfalso
          have u := qu lt
          have gr : (g : Rat) + 1 ≤ (D : Rat) := by
            have : ((g + 1 : Int) : Rat) ≤ (D : Rat) := Rat.intCast_le_intCast.mpr (by omega)
            rw [Rat.intCast_add] at this
            exact this
          have v1 := V ((g : Rat) + 1) (by grind) gr
          have up := d'.up kk.un (c0 hp) (z := (g : Rat) + 1 - (lowC c x : Rat)) (by grind)
          rw [same _ (c0 (by omega)) Rat.le_refl, same _ y0 (Rat.intCast_le_intCast.mpr (by omega)), cgl, c1] at u
          have e1 : (g : Rat) + 1 + (x : Rat) - (c.1 : Rat) = (g : Rat) + (x : Rat) - (c.1 : Rat) + 1 := by grind
          rw [e1] at v1
          have en : ((nxt D c x P).1 : Rat) = (lowC c x : Rat) := rfl
          rw [en] at v1 vg
          have : (q : Rat) ≤ (p : Rat) := by grind
          have := Rat.intCast_le_intCast.mp this
          omega
        · rw [z]; rfl
      · obtain ⟨lw2, u⟩ := ql lt
        by_cases z : g = 0
        · rw [z]; rfl
        · exfalso
          have g1 : lowC c x ≤ g - 1 := by
            rw [ll] at h0' ⊢
            split at h0' <;> split <;> omega
          have gr : (lowC c x : Rat) ≤ (g : Rat) - 1 := by
            have : (lowC c x : Rat) ≤ ((g - 1 : Int) : Rat) := Rat.intCast_le_intCast.mpr g1
            rw [Rat.intCast_sub] at this
            exact this
          have v1 := V ((g : Rat) - 1) gr (by grind)
          have up := d'.up kk.un (c0 hp) (z := (g : Rat) - 1 - (lowC c x : Rat)) (by grind)
          have c2 : ((g + x - 1 - c.1 : Int) : Rat) = (g : Rat) + (x : Rat) - (c.1 : Rat) - 1 := by
            rw [show g + x - 1 - c.1 = g + x - c.1 - 1 by omega, Rat.intCast_sub, cgl]
            rfl
          rw [same _ y0 (Rat.intCast_le_intCast.mpr (by omega)), same _ (c0 (by omega)) (Rat.intCast_le_intCast.mpr (by omega)), cgl, c2] at u
          have e1 : (g : Rat) - 1 + (x : Rat) - (c.1 : Rat) = (g : Rat) + (x : Rat) - (c.1 : Rat) - 1 := by grind
          rw [e1] at v1
          have en : ((nxt D c x P).1 : Rat) = (lowC c x : Rat) := rfl
          rw [en] at v1 vg
          have : (p : Rat) ≤ (q : Rat) := by grind
          have := Rat.intCast_le_intCast.mp this
          omega
    · show Du (q : Rat) (swp P) ((g + x - hold c P (g + x) : Int) : Rat)
      rw [Rat.intCast_sub]
      exact d1
    · rw [ch]
      exact ih.1 d2
    · rw [ch]
      exact ih.2
  | [], _ :: _, _, _, _, h, _, _, _, _, _, _, _, _ => by simp at h
  | _ :: _, [], _, _, _, h, _, _, _, _, _, _, _, _ => by simp at h
  | [], [], _ :: _, _, _, _, h, _, _, _, _, _, _, _ => by simp at h
  | _ :: _, _ :: _, [], _, _, _, h, _, _, _, _, _, _, _ => by simp at h
theorem val_nonneg_iff {p : Q2} (h : 0 < p.2) : 0 ≤ val p ↔ 0 ≤ p.1 := by
  have := val_lt (p := p) (q := ((0 : Int), (1 : Int))) h (by decide)
  rw [val_int] at this
  have z0 : ((0 : Int) : Rat) = 0 := rfl
  rw [z0] at this
  have e : p.1 * (1 : Int) < 0 * p.2 ↔ p.1 < 0 := by omega
  rw [← Rat.not_lt, this]
  show ¬ p.1 * (1 : Int) < 0 * p.2 ↔ _
  omega
theorem at_headI {α : Type} (a : α) (r : List α) : atI (a :: r) (0 : Int) = some a := by
  have h := Ty.atI_nat (l := a :: r) (i := 0) (by simp)
  exact h
theorem prsL_len {Z E : Int} : ∀ (cs xs : List Int) (ws : List St) (g p : Int), cs.length = xs.length → xs.length = ws.length → (prsL Z E g p cs xs ws).length = xs.length
  | [], [], [], _, _, _, _ => rfl
  | _ :: cs, x :: xs, P :: ws, _, _, h, h2 => by
    show (prsL Z E _ _ cs xs ws).length + 1 = _
    rw [prsL_len cs xs ws _ _ (by simpa using h) (by simpa using h2)]
    rfl
  | [], _ :: _, _, _, _, h, _ => by simp at h
  | _ :: _, [], _, _, _, h, _ => by simp at h
  | [], [], _ :: _, _, _, _, h => by simp at h
  | _ :: _, _ :: _, [], _, _, _, h => by simp at h
section
variable {C : Int} {c : Cur} {P : St} {w : Int}
theorem leU3_tr (a b c : Int × Int × Bool) : leU3 a b = true → leU3 b c = true → leU3 a c = true := fun h1 h2 => by
  unfold leU3 at *
  rw [decide_eq_true_iff] at *
  omega
theorem leU3_to (a b : Int × Int × Bool) : (leU3 a b || leU3 b a) = true := by
  unfold leU3
  rw [Bool.or_eq_true, decide_eq_true_iff, decide_eq_true_iff]
  omega
theorem last_sorted {A : List (Int × Int × Bool)} {z : Int × Int × Bool} (hz : ∀ a ∈ A, leU3 a z = true) : ∃ M, (A ++ [z]).mergeSort leU3 = M ++ [z] := by
  have pm := List.mergeSort_perm (A ++ [z]) leU3
  generalize hS : (A ++ [z]).mergeSort leU3 = S at pm
  have ne : S ≠ [] := fun e => by
    rw [e] at pm
    have := pm.length_eq
    simp at this
  obtain ⟨M, e, rfl⟩ : ∃ M e, S = M ++ [e] := ⟨S.dropLast, S.getLast ne, (List.dropLast_concat_getLast ne).symm⟩
  by_cases c : e = z
  · exact ⟨M, by rw [c]⟩
  · exfalso
    have sub : List.Sublist (List.replicate (A.count e) e ++ [z]) (A ++ [z]) := List.Sublist.append (List.replicate_sublist_iff.mpr (Nat.le_refl _)) (List.Sublist.refl _)
    have mem : e ∈ A := by
      have : e ∈ A ++ [z] := pm.mem_iff.mp (by simp)
      rcases List.mem_append.mp this with h | h
      · exact h
      · exact absurd (List.mem_singleton.mp h) c
    have self : leU3 e e = true := by
      have := leU3_to e e
      rwa [Bool.or_self] at this
    have pw : (List.replicate (A.count e) e ++ [z]).Pairwise (fun a b => leU3 a b = true) := by
      refine List.pairwise_append.mpr ⟨List.pairwise_replicate.mpr (.inr self), List.pairwise_singleton _ _, fun a ha b hb => ?_⟩
      rw [(List.mem_replicate.mp ha).2, List.mem_singleton.mp hb]
      exact hz e mem
    have s2 := List.sublist_mergeSort leU3_tr leU3_to pw sub
    rw [hS] at s2
    have s3 : List.Sublist (List.replicate (A.count e) e ++ [z]) M := by
      have r := s2.reverse
      rw [List.reverse_append, List.reverse_append] at r
      have r' : List.Sublist (z :: (List.replicate (A.count e) e).reverse) (e :: M.reverse) := r
      cases r' with
      | cons _ h =>
        have := h.reverse
        rw [List.reverse_cons, List.reverse_reverse, List.reverse_reverse] at this
        exact this
      | cons_cons => exact absurd rfl c
    have n1 := s3.count_le e
    have n2 := pm.count_eq e
    rw [List.count_append, List.count_append] at n2
    rw [List.count_append] at n1
    have z0 : List.count e [z] = 0 := List.count_eq_zero.mpr fun h => c (List.mem_singleton.mp h)
    have e1 : List.count e [e] = 1 := by simp
    rw [z0, List.count_replicate_self] at n1
    rw [z0, e1] at n2
    omega
def remU : List (Int × Int × Bool) → Int → Int
  | [], y => y
  | u :: r, y => remU r (y - min2 y u.2.1)
theorem gam_app (b : Bool) : ∀ (M N : List (Int × Int × Bool)) (y : Int), gam b (M ++ N) y = gam b M y + gam b N (remU M y)
  | [], N, y => by show gam b N y = 0 + gam b N y; omega
  | u :: r, N, y => by
    have i := gam_app b r N (y - min2 y u.2.1)
    show (if u.2.2 = b then min2 y u.2.1 else 0) + gam b (r ++ N) (y - min2 y u.2.1) = (if u.2.2 = b then min2 y u.2.1 else 0) + gam b r (y - min2 y u.2.1) + gam b N (remU r (y - min2 y u.2.1))
    rw [i]
    omega
theorem remU_zero : ∀ (M : List (Int × Int × Bool)) (y : Int), (∀ u ∈ M, 0 ≤ u.2.1) → 0 ≤ y → y ≤ stN (plain M) → remU M y = 0
  | [], y, _, h0, h1 => by
    have : y ≤ 0 := h1
    show y = 0
    omega
  | u :: r, y, h, h0, h1 => by
    have a := h u List.mem_cons_self
    have e : stN (plain (u :: r)) = u.2.1 + stN (plain r) := rfl
    rw [e] at h1
    have m : min2 y u.2.1 = if u.2.1 < y then u.2.1 else y := rfl
    refine remU_zero r (y - min2 y u.2.1) (fun x hx => h x (List.mem_cons_of_mem _ hx)) ?_ ?_
    · rw [m]; split <;> omega
    · have nn : 0 ≤ stN (plain r) := stN_nonneg fun s hs => by
        obtain ⟨x, hx, rfl⟩ := List.mem_map.mp hs
        exact h x (List.mem_cons_of_mem _ hx)
      rw [m]; split <;> omega
theorem hold_no_waste (h : Cv C c) (hP : POk P) (h0 : c.1 ≤ w) (h1 : w ≤ C + stN (swp P)) : w - hold c P w ≤ stN (swp P) := by
  have lo := h.lo
  have hi := h.hi
  have un := usesU_un (w := w) h hP (by omega)
  have y0 : 0 ≤ w - c.1 := by omega
  have N := usesM_N (P := P) (w := w) h
  have sm := gam_sum un y0 (by show w - c.1 ≤ stN (usesM c P w); have := stN_nonneg hP.un; omega)
  obtain ⟨M, hM⟩ := last_sorted (A := (c.2.2.map fun s => (s.1, s.2, true)) ++ (P.map fun s => (s.2, s.1, false))) (z := ((0 : Int), w + 1, false)) (fun a ha => by
    unfold leU3
    rw [decide_eq_true_iff]
    rcases List.mem_append.mp ha with q | q
    · obtain ⟨s, hs, rfl⟩ := List.mem_map.mp q
      have := h.pz s hs
      show -s.1 ≤ -(0 : Int)
      omega
    · obtain ⟨s, hs, rfl⟩ := List.mem_map.mp q
      have := hP.pz (s.2, s.1) (List.mem_map_of_mem (f := fun s : Int × Int => (s.2, s.1)) hs)
      show -s.2 ≤ -(0 : Int)
      have : 0 ≤ s.2 := this
      omega)
  have hU : usesU c P w = M ++ [((0 : Int), w + 1, false)] := hM
  have unM : ∀ u ∈ M, 0 ≤ u.2.1 := fun u hu => un u (by rw [hU]; exact List.mem_append_left _ hu)
  have sold := stN_perm (uses_sold (c := c) (P := P) (w := w))
  have ap : ∀ S T : St, stN (S ++ T) = stN S + stN T := fun S T => by
    induction S with
    | nil => show stN T = 0 + stN T; omega
    | cons s S ih => show s.2 + stN (S ++ T) = s.2 + stN S + stN T; rw [ih]; omega
  have kz : kd false [((0 : Int), w + 1, false)] = [((0 : Int), w + 1)] := rfl
  have one : stN [((0 : Int), w + 1)] = w + 1 + 0 := rfl
  rw [hU, kd_app, kz, ap, ap, one] at sold
  have tot : stN (plain M) + (w + 1 + 0) = stN (usesM c P w) := by
    show _ = stN (plain (usesU c P w))
    rw [hU]
    unfold plain
    rw [List.map_append, ap]
    rfl
  have rm := remU_zero M (w - c.1) unM y0 (by omega)
  have g := gam_app false M [((0 : Int), w + 1, false)] (w - c.1)
  rw [rm] at g
  have gz : gam false [((0 : Int), w + 1, false)] 0 = 0 := by
    have m : min2 0 (w + 1) = if w + 1 < 0 then w + 1 else 0 := rfl
    show min2 0 (w + 1) + 0 = 0
    rw [m, if_neg (by omega)]
    rfl
  have gi := (gam_in (b := false) (U := M) (y := w - c.1) unM y0).2.1
  rw [hU] at sm
  have eh : hold c P w = c.1 + gam true (usesU c P w) (w - c.1) := rfl
  rw [hU] at eh
  omega
end
def pt (t b : Int) (n k : Nat) : Int := t ^ (n - k) * b ^ k
theorem pow_in {a : Int} (h0 : 1 ≤ a) (h1 : a ≤ 20) : ∀ n : Nat, 1 ≤ a ^ n ∧ a ^ n ≤ 20 ^ n
  | 0 => by rw [Int.pow_zero, Int.pow_zero]; exact ⟨by decide, by decide⟩
  | n + 1 => by
    obtain ⟨i, j⟩ := pow_in h0 h1 n
    rw [Int.pow_succ, Int.pow_succ]
    refine ⟨?_, Int.mul_le_mul j h1 (by omega) (by omega)⟩
    have := Int.mul_le_mul i h0 (by decide) (by omega)
    omega
theorem pt_in {t b : Int} {n k : Nat} (t0 : 1 ≤ t) (t1 : t ≤ 20) (b0 : 1 ≤ b) (b1 : b ≤ 20) (h : k ≤ n) : 1 ≤ pt t b n k ∧ pt t b n k ≤ 20 ^ n := by
  obtain ⟨i, j⟩ := pow_in t0 t1 (n - k)
  obtain ⟨l, m⟩ := pow_in b0 b1 k
  unfold pt
  refine ⟨?_, ?_⟩
  · have := Int.mul_le_mul i l (by decide) (by omega)
    omega
  · have z := (pow_in (a := 20) (by decide) (by decide) (n - k)).1
    have u := Int.mul_le_mul j m (by omega) (by omega)
    rw [← Int.pow_add, show n - k + k = n by omega] at u
    exact u
theorem ten_pow {n : Nat} (h : n ≤ 4) : (20 : Int) ^ n ≤ 1000000 := by
  have key : n = 0 ∨ n = 1 ∨ n = 2 ∨ n = 3 ∨ n = 4 := by omega
  rcases key with rfl | rfl | rfl | rfl | rfl <;> decide
noncomputable def tB (t b : Int) (i5 : Int) (s3 : List Int) : Option (List Int) := (((compL (fun (i7 : Int) => (some true)) (fun (i7 : Int) => (mulO i7 t)) s3).bind fun x17 => ((((atI s3 (-(1 : Int))).bind fun x13 => (some b).bind fun y14 => (mulO x13 y14)).bind fun x15 => (some []).bind fun y16 => some (x15 :: y16)).bind dispO).bind fun y18 => (catO x17 y18)).bind fun parts_6 => some parts_6)
structure LeakW (d : DamT) (loss : Q2) (ws : List (List (Int × Int))) : Prop where
  dam : DamIn 4 d
  cap : d.1 ≤ 120
  fl : ∀ x ∈ d.2.2.2, x ≤ 60
  l0 : 0 ≤ loss.1
  l1 : loss.1 < loss.2
  l2 : loss.2 ≤ 20
  lz : Sz 5 loss
  wl : d.2.2.2.length = ws.length
  w : WorthsIn ws
  w2 : ∀ P ∈ ws, P.length ≤ 2 ∧ ∀ q ∈ P, q.1 ≤ 60 ∧ q.2 ≤ 60
section
variable {d : DamT} {loss : Q2} {ws : List (List (Int × Int))}
abbrev tq (loss : Q2) : Int := loss.2 - loss.1
abbrev ptq (d : DamT) (loss : Q2) (k : Nat) : Int := pt (tq loss) loss.2 d.2.2.2.length k
theorem LeakW.t0 (L : LeakW d loss ws) : 1 ≤ tq loss ∧ tq loss ≤ 20 ∧ 1 ≤ loss.2 ∧ loss.2 ≤ 20 := by
  have := L.l0
  have := L.l1
  have := L.l2
  show 1 ≤ loss.2 - loss.1 ∧ loss.2 - loss.1 ≤ 20 ∧ _
  omega
theorem LeakW.n4 (L : LeakW d loss ws) : 0 < d.2.2.2.length ∧ d.2.2.2.length ≤ 4 := ⟨L.dam.l0, by have := L.dam.l1; omega⟩
theorem LeakW.pt (L : LeakW d loss ws) {k : Nat} (h : k ≤ d.2.2.2.length) : 1 ≤ ptq d loss k ∧ ptq d loss k ≤ 1000000 := by
  obtain ⟨a, b, c, e⟩ := L.t0
  have n := L.n4
  have z : 1 ≤ ptq d loss k ∧ ptq d loss k ≤ 20 ^ d.2.2.2.length := pt_in a b c e h
  have := ten_pow (n := d.2.2.2.length) (by omega)
  omega
end
def wl (s C : Rat) : Rat → List Int → Rat
  | h, x :: xs => wl s C (s * (if C < h + (x : Rat) then C else h + (x : Rat))) xs
  | h, [] => h
theorem upr_lt {S : St} {i : Int} (h : Sm S) : (upr S i).natAbs < 2 ^ 40 := by
  unfold upr
  split
  · rename_i s r e
    obtain ⟨_, q, q1, q2⟩ := prt_mem (S := S) (f := i) (b := i + 1) (q := s) (by rw [e]; exact List.mem_cons_self)
    rw [← q2]
    exact (h q q1).1
  · decide
theorem near_lt {S : St} {l w p : Int} (h : Sm S) (hp : p.natAbs < 2 ^ 40) : (near S l w p).natAbs < 2 ^ 40 := by
  have a := upr_lt (i := w - l) h
  have b := upr_lt (i := w - 1 - l) h
  unfold near
  show (if w = l then (if upr S (w - l) > p then upr S (w - l) else p) else (if upr S (w - 1 - l) < (if upr S (w - l) > p then upr S (w - l) else p) then upr S (w - 1 - l) else (if upr S (w - l) > p then upr S (w - l) else p))).natAbs < 2 ^ 40
  split
  · split <;> omega
  · split <;> split <;> omega
theorem prsL_lt {Z E : Int} : ∀ (cs xs : List Int) (ws : List St) (g p : Int), Parts Z E cs xs ws → (cvL Z E cs xs ws).1 ≤ g → g ≤ capA Z cs → p.natAbs < 2 ^ 40 → ∀ q ∈ prsL Z E g p cs xs ws, q.natAbs < 2 ^ 40
  | [], [], [], _, _, _, _, _, _ => fun q hq => nomatch hq
  | D :: cs, x :: xs, P :: ws, g, p, h, g0, g1, hp => by
    have g1' : g ≤ D := g1
    have hPI := h.w P List.mem_cons_self
    have x0 := h.x x List.mem_cons_self
    have hD := h.c D List.mem_cons_self
    obtain ⟨s1, s2⟩ := cvL_s cs xs ws h.tl
    have g0' : lowC (cvL Z E cs xs ws) x ≤ g := g0
    rw [lowC_eq] at g0'
    have k := h.tl.cv
    have lo := k.lo
    have lw : (cvL Z E cs xs ws).1 ≤ g + x := by split at g0' <;> omega
    obtain ⟨o1, o2, o3, o4⟩ := hold_okL (w := g + x) (W := D + x) k hPI.ok lw (by omega)
    have nl := near_lt (l := (cvL Z E cs xs ws).1) (w := g + x) (p := p) (usesM_smL (w := g + x) s1 hPI (by omega) (by omega)) hp
    intro q hq
    rcases List.mem_cons.mp hq with z | z
    · rw [z]; exact nl
    · exact prsL_lt cs xs ws _ _ h.tl o1 o2 nl q z
  | [], _ :: _, _, _, _, h, _, _, _ => by have := h.cl; simp at this
  | _ :: _, [], _, _, _, h, _, _, _ => by have := h.cl; simp at this
  | [], [], _ :: _, _, _, h, _, _, _ => by have := h.wl; simp at this
  | _ :: _, _ :: _, [], _, _, h, _, _, _ => by have := h.wl; simp at this
def ovR (a b : Rat) : Rat := if 0 < a - b then a - b else 0
theorem st1 {v h x l C u s q o : Rat} (eq : q = h + x - l) (j1 : v < s * u → l = C) (j2 : s * u < v → l = 0) (ho : o = ovR (s * u) v) : v * q + u * (s * l) = v * h + x * v + C * o := by
  rw [eq]
  by_cases c : v < s * u
  · have : ovR (s * u) v = s * u - v := by unfold ovR; rw [if_pos (by grind)]
    rw [ho, this, j1 c]
    grind
  · have : ovR (s * u) v = 0 := by unfold ovR; rw [if_neg (by grind)]
    rw [ho, this]
    by_cases c2 : s * u < v
    · rw [j2 c2]
      grind
    · have : v = s * u := by grind
      rw [this]
      grind
theorem st2 {v h x l E s q : Rat} (eq : q = h + x - l) (s0 : 0 < s) (j : v * (s * l - E) = 0) : v * q = v * h + x * v + (0 - E / s * v) := by
  have a : v * l = E / s * v := by
    refine Rat.le_antisymm (Rat.le_of_mul_le_mul_right (c := s) ?_ s0) (Rat.le_of_mul_le_mul_right (c := s) ?_ s0)
    all_goals
      have e : E / s * v * s = E * v := by
        have : E / s * v * s = E / s * s * v := by grind
        rw [this, Rat.div_mul_cancel (Rat.ne_of_gt s0)]
      rw [e]
      grind
  rw [eq]
  grind
theorem mcanc {a b c : Rat} (h : 0 < c) (e : a * c = b * c) : a = b :=
  Rat.le_antisymm (Rat.le_of_mul_le_mul_right (by rw [e]; exact Rat.le_refl) h) (Rat.le_of_mul_le_mul_right (by rw [e]; exact Rat.le_refl) h)
theorem Du.step1 {t y : Rat} {s : Int × Int} {S : St} (hu : Un (s :: S)) (t0 : 0 ≤ t) (y0 : 0 ≤ y) (h : Du t (s :: S) y) :
    (t < (s.1 : Rat) → (s.2 : Rat) ≤ y) ∧ ((s.1 : Rat) < t → y ≤ 0 ∨ s.2 = 0) ∧ (y ≤ (s.2 : Rat) → Du t S 0) ∧ ((s.2 : Rat) ≤ y → Du t S (y - (s.2 : Rat))) := by
  have us := c0 (hu s List.mem_cons_self)
  obtain ⟨o1, o2⟩ := ovP_ge t s.1
  have h' : (s.2 : Rat) * ovP t s.1 + stC t S + t * y = (s.1 : Rat) * clp y s.2 + stV S (y - (s.2 : Rat)) := h
  have m1 := Rat.mul_le_mul_of_nonneg_left o1 us
  have m2 := Rat.mul_nonneg us o2
  by_cases c : (s.2 : Rat) ≤ y
  · have cl : clp y s.2 = (s.2 : Rat) := by
      unfold clp
      by_cases z : y ≤ 0
      · rw [if_pos z]; grind
      · rw [if_neg z, if_pos c]
    rw [cl] at h'
    have k := stV_le t0 hu.tl (y := y - (s.2 : Rat)) (by grind)
    have d : Du t S (y - (s.2 : Rat)) := by unfold Du; grind
    refine ⟨fun _ => c, fun lt => ?_, fun e => ?_, fun _ => d⟩
    · have d' : stC t S + t * (y - (s.2 : Rat)) = stV S (y - (s.2 : Rat)) := d
      have e : (s.2 : Rat) * ovP t s.1 + (s.2 : Rat) * t = (s.1 : Rat) * (s.2 : Rat) := by grind
      have : (s.2 : Rat) * (t - (s.1 : Rat)) ≤ 0 := by grind
      right
      apply Classical.byContradiction
      intro z
      have z' := cast_pos (show 0 < s.2 by have := hu s List.mem_cons_self; omega)
      have := Rat.mul_pos z' (show (0 : Rat) < t - (s.1 : Rat) by grind)
      grind
    · have : y - (s.2 : Rat) = 0 := by grind
      rw [this] at d
      exact d
  · have c' := Rat.not_le.mp c
    have cl : clp y s.2 = y := by
      unfold clp
      by_cases z : y ≤ 0
      · rw [if_pos z]; grind
      · rw [if_neg z, if_neg c]
    rw [cl, stV_nonpos hu.tl (by grind)] at h'
    have k := stV_le t0 hu.tl (y := (0 : Rat)) Rat.le_refl
    rw [stV_nonpos hu.tl Rat.le_refl] at k
    have m3 := Rat.mul_le_mul_of_nonneg_left (show y ≤ (s.2 : Rat) by grind) o2
    have m4 := Rat.mul_le_mul_of_nonneg_left o1 y0
    refine ⟨fun lt => ?_, fun lt => ?_, fun e => ?_, fun e => absurd e c⟩
    · exfalso
      have ov : ovP t s.1 = (s.1 : Rat) - t := by unfold ovP; rw [if_pos lt]
      rw [ov] at h'
      have := Rat.mul_pos (show (0 : Rat) < (s.2 : Rat) - y by grind) (show (0 : Rat) < (s.1 : Rat) - t by grind)
      grind
    · left
      apply Classical.byContradiction
      intro n
      have := Rat.mul_pos (Rat.not_le.mp n) (show (0 : Rat) < t - (s.1 : Rat) by grind)
      grind
    · unfold Du
      rw [stV_nonpos hu.tl Rat.le_refl]
      grind
def PT (C up dn : Rat) : Rat → List Rat → List Rat → Prop
  | h, u :: us, d :: ds => 0 ≤ u ∧ u ≤ up ∧ 0 ≤ d ∧ d ≤ dn ∧ 0 ≤ h + u - d ∧ h + u - d ≤ C ∧ PT C up dn (h + u - d) us ds
  | _, [], [] => True
  | _, _, _ => False
def prf (σ : Rat) : List Rat → List Rat → List Rat → Rat
  | p :: ps, u :: us, d :: ds => p * (σ * d - u) + prf σ ps us ds
  | _, _, _ => 0
def ovN (v : Rat) : List Rat → Rat
  | [] => 0
  | w :: _ => ovR w v
def bdP (C up dn σ : Rat) : List Rat → List Rat → Rat
  | p :: ps, v :: vs => up * ovR v p + dn * ovR (σ * p) v + C * ovN v vs + bdP C up dn σ ps vs
  | _, _ => 0
def JnP (C v l : Rat) : List Rat → Prop
  | [] => v * l = 0
  | w :: _ => (v < w → l = C) ∧ (w < v → l = 0)
def SlP (C up dn σ : Rat) : Rat → List Rat → List Rat → List Rat → List Rat → Prop
  | h, p :: ps, u :: us, d :: ds, v :: vs => 0 ≤ v ∧ (p < v → u = up) ∧ (v < p → u = 0) ∧ (v < σ * p → d = dn) ∧ (σ * p < v → d = 0) ∧ JnP C v (h + u - d) vs ∧ SlP C up dn σ (h + u - d) ps us ds vs
  | _, [], [], [], [] => True
  | _, _, _, _, _ => False
theorem ovR_ge' (a b : Rat) : a - b ≤ ovR a b ∧ 0 ≤ ovR a b := by
  unfold ovR
  split <;> constructor <;> grind
theorem wp1 {v p x o m : Rat} (x0 : 0 ≤ x) (x1 : x ≤ m) (o1 : v - p ≤ o) (o2 : 0 ≤ o) : (v - p) * x ≤ m * o := by
  have a := Rat.mul_le_mul_of_nonneg_right o1 x0
  have b := Rat.mul_le_mul_of_nonneg_left x1 o2
  grind
theorem wp2 {h u d l v : Rat} (hl : l = h + u - d) : v * (d - u) = v * h - v * l := by
  rw [hl]
  grind
theorem weakP {C up dn σ : Rat} : ∀ (ps us ds vs : List Rat) (p u d v h : Rat), ps.length = vs.length → (∀ w ∈ v :: vs, 0 ≤ w) → PT C up dn h (u :: us) (d :: ds) → us.length = ps.length →
    prf σ (p :: ps) (u :: us) (d :: ds) ≤ v * h + bdP C up dn σ (p :: ps) (v :: vs)
  | [], [], [], [], p, u, d, v, h, _, hv, ⟨u0, u1, d0, d1, l0, l1, _⟩, _ => by
    have v0 := hv v List.mem_cons_self
    obtain ⟨o1, o2⟩ := ovR_ge' v p
    obtain ⟨o3, o4⟩ := ovR_ge' (σ * p) v
    have a := wp1 u0 u1 o1 o2
    have b := wp1 d0 d1 o3 o4
    have c := wp2 (h := h) (u := u) (d := d) (v := v) rfl
    have e := Rat.mul_nonneg v0 l0
    show p * (σ * d - u) + 0 ≤ v * h + (up * ovR v p + dn * ovR (σ * p) v + C * 0 + 0)
    grind
  | q :: ps, u2 :: us, d2 :: ds, w :: vs, p, u, d, v, h, hl, hv, ⟨u0, u1, d0, d1, l0, l1, t⟩, hu => by
    have ih := weakP (σ := σ) ps us ds vs q u2 d2 w _ (by simpa using hl) (fun x hx => hv x (List.mem_cons_of_mem _ hx)) t (by simpa using hu)
    obtain ⟨o1, o2⟩ := ovR_ge' v p
    obtain ⟨o3, o4⟩ := ovR_ge' (σ * p) v
    obtain ⟨o5, o6⟩ := ovR_ge' w v
    have a := wp1 u0 u1 o1 o2
    have b := wp1 d0 d1 o3 o4
    have e := wp1 l0 l1 o5 o6
    have c := wp2 (h := h) (u := u) (d := d) (v := v) rfl
    show p * (σ * d - u) + prf σ (q :: ps) (u2 :: us) (d2 :: ds) ≤ v * h + (up * ovR v p + dn * ovR (σ * p) v + C * ovR w v + bdP C up dn σ (q :: ps) (w :: vs))
    grind
  | [], [], _ :: _, [], _, _, _, _, _, _, _, ⟨_, _, _, _, _, _, t⟩, _ => t.elim
  | [], [], _, _ :: _, _, _, _, _, _, h, _, _, _ => by simp at h
  | [], _ :: _, _, _, _, _, _, _, _, _, _, _, h => by simp at h
  | _ :: _, [], _, _, _, _, _, _, _, _, _, _, h => by simp at h
  | _ :: _, _ :: _, _, [], _, _, _, _, _, h, _, _, _ => by simp at h
  | _ :: _, _ :: _, [], _ :: _, _, _, _, _, _, _, _, ⟨_, _, _, _, _, _, t⟩, _ => t.elim
theorem st1P {v p x m : Rat} (j1 : p < v → x = m) (j2 : v < p → x = 0) : (v - p) * x = m * ovR v p := by
  unfold ovR
  by_cases c : p < v
  · rw [if_pos (by grind), j1 c]
    grind
  · rw [if_neg (by grind)]
    by_cases c2 : v < p
    · rw [j2 c2]
      grind
    · have : v = p := by grind
      rw [this]
      grind
theorem strongP {C up dn σ : Rat} : ∀ (ps us ds vs : List Rat) (p u d v h : Rat), SlP C up dn σ h (p :: ps) (u :: us) (d :: ds) (v :: vs) → prf σ (p :: ps) (u :: us) (d :: ds) = v * h + bdP C up dn σ (p :: ps) (v :: vs)
  | [], [], [], [], p, u, d, v, h, ⟨v0, a1, a2, a3, a4, j, _⟩ => by
    have a := st1P a1 a2
    have b := st1P a3 a4
    have c := wp2 (h := h) (u := u) (d := d) (v := v) rfl
    have j' : v * (h + u - d) = 0 := j
    show p * (σ * d - u) + 0 = v * h + (up * ovR v p + dn * ovR (σ * p) v + C * 0 + 0)
    grind
  | q :: ps, u2 :: us, d2 :: ds, w :: vs, p, u, d, v, h, ⟨v0, a1, a2, a3, a4, j, r⟩ => by
    have ih := strongP ps us ds vs q u2 d2 w _ r
    obtain ⟨j1, j2⟩ : (v < w → h + u - d = C) ∧ (w < v → h + u - d = 0) := j
    have a := st1P a1 a2
    have b := st1P a3 a4
    have e := st1P j1 j2
    have c := wp2 (h := h) (u := u) (d := d) (v := v) rfl
    show p * (σ * d - u) + prf σ (q :: ps) (u2 :: us) (d2 :: ds) = v * h + (up * ovR v p + dn * ovR (σ * p) v + C * ovR w v + bdP C up dn σ (q :: ps) (w :: vs))
    grind
  | [], [], [], _ :: _, _, _, _, _, _, ⟨_, _, _, _, _, _, r⟩ => r.elim
  | [], [], _ :: _, _, _, _, _, _, _, ⟨_, _, _, _, _, _, r⟩ => r.elim
  | [], _ :: _, _, _, _, _, _, _, _, ⟨_, _, _, _, _, _, r⟩ => r.elim
  | _ :: _, [], _, _, _, _, _, _, _, ⟨_, _, _, _, _, _, r⟩ => r.elim
  | _ :: _, _ :: _, [], _, _, _, _, _, _, ⟨_, _, _, _, _, _, r⟩ => r.elim
  | _ :: _, _ :: _, _ :: _, [], _, _, _, _, _, ⟨_, _, _, _, _, _, r⟩ => r.elim
theorem slP_nn {C up dn σ : Rat} : ∀ {ps us ds vs : List Rat} {h : Rat}, SlP C up dn σ h ps us ds vs → (∀ v ∈ vs, 0 ≤ v) ∧ ps.length = vs.length ∧ us.length = ps.length ∧ ds.length = ps.length
  | [], [], [], [], _, _ => ⟨(fun v hv => nomatch hv), rfl, rfl, rfl⟩
  | p :: ps, u :: us, d :: ds, v :: vs, _, ⟨a, _, _, _, _, _, r⟩ => by
    obtain ⟨i, j, k, l⟩ := slP_nn r
    refine ⟨fun w hw => ?_, by rw [List.length_cons, List.length_cons, j], by rw [List.length_cons, List.length_cons, k], by rw [List.length_cons, List.length_cons, l]⟩
    rcases List.mem_cons.mp hw with z | z
    · rw [z]; exact a
    · exact i w z
  | [], [], [], _ :: _, _, r => r.elim
  | [], [], _ :: _, _, _, r => r.elim
  | [], _ :: _, _, _, _, r => r.elim
  | _ :: _, [], _, _, _, r => r.elim
  | _ :: _, _ :: _, [], _, _, r => r.elim
  | _ :: _, _ :: _, _ :: _, [], _, r => r.elim
theorem boundP {C up dn σ : Rat} {ps us ds vs : List Rat} (h0 : ps ≠ []) (hl : ps.length = vs.length) (hv : ∀ v ∈ vs, 0 ≤ v) (t : PT C up dn 0 us ds) (hu : us.length = ps.length) : prf σ ps us ds ≤ bdP C up dn σ ps vs := by
  cases ps with
  | nil => exact absurd rfl h0
  | cons p ps => cases vs with
    | nil => simp at hl
    | cons v vs => cases us with
      | nil => simp at hu
      | cons u us => cases ds with
        | nil => exact t.elim
        | cons d ds =>
          have := weakP (σ := σ) ps us ds vs p u d v 0 (by simpa using hl) hv t (by simpa using hu)
          grind
theorem sameP {C up dn σ : Rat} {ps us ds vs : List Rat} (sl : SlP C up dn σ 0 ps us ds vs) : prf σ ps us ds = bdP C up dn σ ps vs := by
  cases ps with
  | nil => cases us <;> cases ds <;> cases vs <;> first | rfl | exact sl.elim
  | cons p ps => cases vs with
    | nil => cases us <;> cases ds <;> exact sl.elim
    | cons v vs => cases us with
      | nil => exact sl.elim
      | cons u us => cases ds with
        | nil => exact sl.elim
        | cons d ds =>
          have := strongP ps us ds vs p u d v 0 sl
          grind
section
variable {h : HouseT} {ps : List Int}
def csH (h : HouseT) (ps : List Int) : List Int := List.replicate ps.length h.1
def xsH (h : HouseT) (ps : List Int) : List Int := List.replicate ps.length h.2.1
def wsH (h : HouseT) (ps : List Int) : List (List (Int × Int)) := ps.map fun p => [(h.2.1, p * h.2.2.2.2), (h.2.2.1, p * h.2.2.2.1)]
theorem wsH_pb (H : HouseIn h ps) : ∀ P ∈ wsH h ps, PBk P := fun P hP => by
  obtain ⟨p, hp, rfl⟩ := List.mem_map.mp hP
  have p0 := H.p p hp
  have u0 := H.u0; have u1 := H.u1; have v0 := H.v0; have v1 := H.v1; have s0 := H.s0; have s1 := H.s1; have s2 := H.s2
  have e1 := Int.mul_le_mul p0.2 s2 (by omega) (by decide)
  have e2 := Int.mul_le_mul p0.2 (show h.2.2.2.1 ≤ 100 by omega) (by omega) (by decide)
  have e3 := Int.mul_nonneg p0.1 (show 0 ≤ h.2.2.2.2 by omega)
  have e4 := Int.mul_nonneg p0.1 (show 0 ≤ h.2.2.2.1 by omega)
  have e5 := Int.mul_le_mul_of_nonneg_left s1 p0.1
  have sw : swp [(h.2.1, p * h.2.2.2.2), (h.2.2.1, p * h.2.2.2.1)] = [(p * h.2.2.2.2, h.2.1), (p * h.2.2.2.1, h.2.2.1)] := rfl
  refine ⟨⟨?_, ?_, ?_⟩, ?_, by show 2 ≤ 3; decide⟩
  · rw [sw]
    intro s hs
    simp only [List.mem_cons, List.not_mem_nil, or_false] at hs
    rcases hs with rfl | rfl
    · show 0 ≤ h.2.1; omega
    · show 0 ≤ h.2.2.1; omega
  · rw [sw]
    exact List.pairwise_cons.mpr ⟨fun b hb => by rw [List.mem_singleton.mp hb]; exact e5, List.pairwise_singleton _ _⟩
  · rw [sw]
    intro s hs
    simp only [List.mem_cons, List.not_mem_nil, or_false] at hs
    rcases hs with rfl | rfl
    · exact e3
    · exact e4
  · rw [sw]
    intro s hs
    simp only [List.mem_cons, List.not_mem_nil, or_false] at hs
    rcases hs with rfl | rfl
    · exact ⟨by show (p * h.2.2.2.2).natAbs < 2 ^ 40; omega, by show h.2.1.natAbs < 2 ^ 40; omega⟩
    · exact ⟨by show (p * h.2.2.2.1).natAbs < 2 ^ 40; omega, by show h.2.2.1.natAbs < 2 ^ 40; omega⟩
theorem stay {C up : Int} (C0 : 0 ≤ C) (u0 : 0 ≤ up) : ∀ n : Nat, TailL C ((0 : Int) : Rat) 0 (List.replicate n C) (List.replicate n up) (List.replicate n (up : Rat))
  | 0 => by show ((0 : Int) : Rat) ≤ 0; exact Rat.le_refl
  | n + 1 => by
    have e : (0 : Rat) + (up : Rat) - (up : Rat) = 0 := by grind
    have i := stay C0 u0 n
    have cc : 0 ≤ capA C (List.replicate n C) := by cases n <;> exact C0
    refine ⟨c0 u0, ?_, ?_, ?_⟩
    · rw [e]; exact Rat.le_refl
    · rw [e]; exact c0 cc
    · show TailL C ((0 : Int) : Rat) (0 + (up : Rat) - (up : Rat)) (List.replicate n C) (List.replicate n up) (List.replicate n (up : Rat))
      rw [e]; exact i
theorem partsH (H : HouseIn h ps) : Parts h.1 0 (csH h ps) (xsH h ps) (wsH h ps) ∧ (cvL h.1 0 (csH h ps) (xsH h ps) (wsH h ps)).1 ≤ 0 ∧ 0 ≤ capA h.1 (csH h ps) := by
  have c0' := H.c0; have c1 := H.c1; have u0 := H.u0; have u1 := H.u1; have l1 := H.l1
  have l2 : (csH h ps).length = (xsH h ps).length := by unfold csH xsH; rw [List.length_replicate, List.length_replicate]
  have l3 : (xsH h ps).length = (wsH h ps).length := by unfold xsH wsH; rw [List.length_replicate, List.length_map]
  have ln : (xsH h ps).length = ps.length := by unfold xsH; rw [List.length_replicate]
  have hc : ∀ c ∈ csH h ps, 0 ≤ c ∧ c < 2 ^ 38 := fun c hc => by rw [(List.mem_replicate.mp hc).2]; omega
  have hx : ∀ x ∈ xsH h ps, 0 ≤ x ∧ x < 2 ^ 38 := fun x hx => by rw [(List.mem_replicate.mp hx).2]; omega
  have hw := fun P hP => (wsH_pb H P hP).ok
  have cc : 0 ≤ capA h.1 (csH h ps) := by
    unfold csH
    cases ps.length <;> exact c0'
  have st := stay c0' (show 0 ≤ h.2.1 by omega) ps.length
  have f := cvL_feas ⟨Int.le_refl _, c0'⟩ (csH h ps) (xsH h ps) (wsH h ps) _ 0 l2 l3 (fun c h => (hc c h).1) (fun x h => (hx x h).1) hw Rat.le_refl (c0 cc) st
  have up := (cvL_up ⟨Int.le_refl _, c0'⟩ (csH h ps) (xsH h ps) (wsH h ps) _ 0 l2 l3 (fun c h => (hc c h).1) (fun x h => (hx x h).1) hw Rat.le_refl (c0 cc) st).2.1
  have z : ((0 : Int) : Rat) = 0 := rfl
  rw [← z] at up
  exact ⟨⟨Int.le_refl _, c0', by omega, l2, l3, by omega, hc, hx, fun P hP => wsH_pb H P hP, f⟩, Rat.intCast_le_intCast.mp up, cc⟩
abbrev rsH (h : HouseT) (ps : List Int) : List Int := bestL h.1 0 0 (csH h ps) (xsH h ps) (wsH h ps)
abbrev vsH (h : HouseT) (ps : List Int) : List Int := prsL h.1 0 0 0 (csH h ps) (xsH h ps) (wsH h ps)
abbrev gwH (h : HouseT) (ps : List Int) : Int := gwL h.1 0 0 (csH h ps) (xsH h ps) (wsH h ps)
def puI (up r : Int) : Int := up - min2 up r
def dnI (up r : Int) : Int := r - min2 up r
def psR (ps : List Int) : List Rat := ps.map fun p : Int => (p : Rat)
def usR (h : HouseT) (rs : List Int) : List Rat := rs.map fun r => (puI h.2.1 r : Rat)
def dsR (h : HouseT) (rs : List Int) : List Rat := rs.map fun r => (dnI h.2.1 r : Rat)
def vsR (h : HouseT) (vs : List Int) : List Rat := vs.map fun v : Int => (v : Rat) / (h.2.2.2.2 : Rat)
def sig (h : HouseT) : Rat := val h.2.2.2
theorem two_steps {up dn a b : Int} {v r : Rat} (u0 : 0 ≤ up) (d0 : 1 ≤ dn) (v0 : 0 ≤ v) (r0 : 0 ≤ r) (rn : r ≤ (up : Rat) + (dn : Rat)) (du : Du v [(a, up), (b, dn)] r) :
    (v < (a : Rat) → (up : Rat) ≤ r) ∧ ((a : Rat) < v → r ≤ 0 ∨ up = 0) ∧ (r ≤ (up : Rat) → (b : Rat) ≤ v) ∧ ((up : Rat) ≤ r → (v < (b : Rat) → r - (up : Rat) = (dn : Rat)) ∧ ((b : Rat) < v → r - (up : Rat) = 0)) ∧ stV [(a, up), (b, dn)] r = (a : Rat) * (if r < (up : Rat) then r else (up : Rat)) + (b : Rat) * (if r < (up : Rat) then 0 else r - (up : Rat)) := by
  have un : Un [(a, up), (b, dn)] := fun s hs => by
    simp only [List.mem_cons, List.not_mem_nil, or_false] at hs
    rcases hs with rfl | rfl
    · exact u0
    · show 0 ≤ dn; omega
  have un2 : Un [(b, dn)] := un.tl
  obtain ⟨e1, e2, e3, e4⟩ := Du.step1 un v0 r0 du
  have dr : (0 : Rat) < (dn : Rat) := cast_pos (by omega)
  have ur := c0 u0
  refine ⟨e1, e2, fun le => ?_, fun le => ?_, ?_⟩
  · obtain ⟨f1, _⟩ := Du.step1 un2 v0 Rat.le_refl (e3 le)
    apply Rat.not_lt.mp
    intro lt
    have : (dn : Rat) ≤ 0 := f1 lt
    grind
  · have y0 : 0 ≤ r - (up : Rat) := by grind
    obtain ⟨f1, f2, _⟩ := Du.step1 un2 v0 y0 (e4 le)
    refine ⟨fun lt => ?_, fun lt => ?_⟩
    · have : (dn : Rat) ≤ r - (up : Rat) := f1 lt
      grind
    · rcases f2 lt with z | z
      · grind
      · have : dn = 0 := z
        omega
  · show (a : Rat) * clp r up + ((b : Rat) * clp (r - (up : Rat)) dn + 0) = _
    have c1 : clp r up = if r < (up : Rat) then r else (up : Rat) := by
      unfold clp
      by_cases z : r ≤ 0
      · rw [if_pos z]
        by_cases y : r < (up : Rat)
        · rw [if_pos y]; grind
        · rw [if_neg y]; grind
      · rw [if_neg z]
        by_cases y : (up : Rat) ≤ r
        · rw [if_pos y, if_neg (Rat.not_lt.mpr y)]
        · rw [if_neg y, if_pos (Rat.not_le.mp y)]
    have c2 : clp (r - (up : Rat)) dn = if r < (up : Rat) then 0 else r - (up : Rat) := by
      unfold clp
      by_cases z : r - (up : Rat) ≤ 0
      · rw [if_pos z]
        by_cases y : r < (up : Rat)
        · rw [if_pos y]
        · rw [if_neg y]; grind
      · rw [if_neg z, if_neg (show ¬ r < (up : Rat) by grind)]
        by_cases y : (dn : Rat) ≤ r - (up : Rat)
        · rw [if_pos y]; grind
        · rw [if_neg y]
    rw [c1, c2]
    grind
theorem min2_le (a b : Int) : min2 a b = if b < a then b else a := rfl
theorem pu_cases (up r : Int) : (r < up → puI up r = up - r ∧ dnI up r = 0) ∧ (up ≤ r → puI up r = 0 ∧ dnI up r = r - up) := by
  unfold puI dnI
  rw [min2_le]
  refine ⟨fun c => ?_, fun c => ?_⟩
  · rw [if_pos c]; omega
  · rw [if_neg (by omega)]; omega
theorem go_house (H : HouseIn h ps) : ∀ (qs : List Int) (g p0 : Int), (∀ q ∈ qs, 0 ≤ q ∧ q ≤ 1000) → qs.length ≤ 6 → 0 ≤ g → g ≤ h.1 →
    Parts h.1 0 (csH h qs) (xsH h qs) (wsH h qs) → (cvL h.1 0 (csH h qs) (xsH h qs) (wsH h qs)).1 ≤ g →
    SlL h.1 ((0 : Int) : Rat) (g : Rat) (csH h qs) (xsH h qs) (wsH h qs) ((rel g (xsH h qs) (blL h.1 0 g (csH h qs) (xsH h qs) (wsH h qs))).map fun i : Int => (i : Rat)) (prsL h.1 0 g p0 (csH h qs) (xsH h qs) (wsH h qs)) →
    PT (h.1 : Rat) (h.2.1 : Rat) (h.2.2.1 : Rat) (g : Rat) (usR h (rel g (xsH h qs) (blL h.1 0 g (csH h qs) (xsH h qs) (wsH h qs)))) (dsR h (rel g (xsH h qs) (blL h.1 0 g (csH h qs) (xsH h qs) (wsH h qs)))) ∧
    SlP (h.1 : Rat) (h.2.1 : Rat) (h.2.2.1 : Rat) (sig h) (g : Rat) (psR qs) (usR h (rel g (xsH h qs) (blL h.1 0 g (csH h qs) (xsH h qs) (wsH h qs)))) (dsR h (rel g (xsH h qs) (blL h.1 0 g (csH h qs) (xsH h qs) (wsH h qs)))) (vsR h (prsL h.1 0 g p0 (csH h qs) (xsH h qs) (wsH h qs))) ∧
    wR (wsH h qs) ((rel g (xsH h qs) (blL h.1 0 g (csH h qs) (xsH h qs) (wsH h qs))).map fun i : Int => (i : Rat)) = (h.2.1 : Rat) * (h.2.2.2.2 : Rat) * (qs.sum : Rat) + (h.2.2.2.2 : Rat) * prf (sig h) (psR qs) (usR h (rel g (xsH h qs) (blL h.1 0 g (csH h qs) (xsH h qs) (wsH h qs)))) (dsR h (rel g (xsH h qs) (blL h.1 0 g (csH h qs) (xsH h qs) (wsH h qs)))) ∧
    (∀ r ∈ rel g (xsH h qs) (blL h.1 0 g (csH h qs) (xsH h qs) (wsH h qs)), 0 ≤ r ∧ r ≤ 2000)
  | [], g, p0, _, _, _, _, _, _, _ => by
    refine ⟨trivial, trivial, ?_, fun r hr => nomatch hr⟩
    show (0 : Rat) = (h.2.1 : Rat) * (h.2.2.2.2 : Rat) * ((0 : Int) : Rat) + (h.2.2.2.2 : Rat) * 0
    have z : ((0 : Int) : Rat) = 0 := rfl
    rw [z]
    grind
  | q :: qs, g, p0, hq, hn, g0, g1, Pt, lo, sl => by
    have u0 := H.u0; have u1 := H.u1; have v0 := H.v0; have v1 := H.v1; have s0 := H.s0; have s1 := H.s1; have s2 := H.s2
    have bpos : 0 < h.2.2.2.2 := H.sz.pos
    have br := cast_pos bpos
    have ec : csH h (q :: qs) = h.1 :: csH h qs := rfl
    have ex : xsH h (q :: qs) = h.2.1 :: xsH h qs := rfl
    have ew : wsH h (q :: qs) = [(h.2.1, q * h.2.2.2.2), (h.2.2.1, q * h.2.2.2.1)] :: wsH h qs := rfl
    rw [ec, ex, ew] at Pt lo sl ⊢
    have Pt' := Pt.tl
    have k := Pt'.cv
    have cap : capA h.1 (csH h qs) = h.1 := by unfold csH; cases qs.length <;> rfl
    rw [cap] at k
    have hP := (Pt.w _ List.mem_cons_self).ok
    have nP : stN (swp [(h.2.1, q * h.2.2.2.2), (h.2.2.1, q * h.2.2.2.1)]) = h.2.1 + (h.2.2.1 + 0) := rfl
    have lo' : lowC (cvL h.1 0 (csH h qs) (xsH h qs) (wsH h qs)) h.2.1 ≤ g := lo
    rw [lowC_eq] at lo'
    have klo := k.lo
    have lw : (cvL h.1 0 (csH h qs) (xsH h qs) (wsH h qs)).1 ≤ g + h.2.1 := by split at lo' <;> omega
    obtain ⟨o1, o2, o3, _⟩ := hold_okL (w := g + h.2.1) (W := g + h.2.1) k hP lw (Int.le_refl _)
    have nw := hold_no_waste (w := g + h.2.1) k hP lw (by rw [nP]; omega)
    rw [nP] at nw
    have er : rel g (h.2.1 :: xsH h qs) (blL h.1 0 g (h.1 :: csH h qs) (h.2.1 :: xsH h qs) ([(h.2.1, q * h.2.2.2.2), (h.2.2.1, q * h.2.2.2.1)] :: wsH h qs)) = (g + h.2.1 - hold (cvL h.1 0 (csH h qs) (xsH h qs) (wsH h qs)) [(h.2.1, q * h.2.2.2.2), (h.2.2.1, q * h.2.2.2.1)] (g + h.2.1)) :: rel (hold (cvL h.1 0 (csH h qs) (xsH h qs) (wsH h qs)) [(h.2.1, q * h.2.2.2.2), (h.2.2.1, q * h.2.2.2.1)] (g + h.2.1)) (xsH h qs) (blL h.1 0 (hold (cvL h.1 0 (csH h qs) (xsH h qs) (wsH h qs)) [(h.2.1, q * h.2.2.2.2), (h.2.2.1, q * h.2.2.2.1)] (g + h.2.1)) (csH h qs) (xsH h qs) (wsH h qs)) := rfl
    have ep : prsL h.1 0 g p0 (h.1 :: csH h qs) (h.2.1 :: xsH h qs) ([(h.2.1, q * h.2.2.2.2), (h.2.2.1, q * h.2.2.2.1)] :: wsH h qs) = near (usesM (cvL h.1 0 (csH h qs) (xsH h qs) (wsH h qs)) [(h.2.1, q * h.2.2.2.2), (h.2.2.1, q * h.2.2.2.1)] (g + h.2.1)) (cvL h.1 0 (csH h qs) (xsH h qs) (wsH h qs)).1 (g + h.2.1) p0 :: prsL h.1 0 (hold (cvL h.1 0 (csH h qs) (xsH h qs) (wsH h qs)) [(h.2.1, q * h.2.2.2.2), (h.2.2.1, q * h.2.2.2.1)] (g + h.2.1)) (near (usesM (cvL h.1 0 (csH h qs) (xsH h qs) (wsH h qs)) [(h.2.1, q * h.2.2.2.2), (h.2.2.1, q * h.2.2.2.1)] (g + h.2.1)) (cvL h.1 0 (csH h qs) (xsH h qs) (wsH h qs)).1 (g + h.2.1) p0) (csH h qs) (xsH h qs) (wsH h qs) := rfl
    rw [er, ep] at sl
    rw [er, ep]
    generalize near (usesM (cvL h.1 0 (csH h qs) (xsH h qs) (wsH h qs)) [(h.2.1, q * h.2.2.2.2), (h.2.2.1, q * h.2.2.2.1)] (g + h.2.1)) (cvL h.1 0 (csH h qs) (xsH h qs) (wsH h qs)).1 (g + h.2.1) p0 = v at sl ⊢
    generalize hold (cvL h.1 0 (csH h qs) (xsH h qs) (wsH h qs)) [(h.2.1, q * h.2.2.2.2), (h.2.2.1, q * h.2.2.2.1)] (g + h.2.1) = l at sl o1 o2 o3 nw ⊢
    obtain ⟨t1, t2, t3, t4⟩ := sl
    have cl : (g : Rat) + (h.2.1 : Rat) - ((g + h.2.1 - l : Int) : Rat) = (l : Rat) := by
      rw [Rat.intCast_sub, Rat.intCast_add]
      grind
    rw [cl, cap] at t3
    rw [cl] at t4
    have l0 : 0 ≤ l := by omega
    obtain ⟨i1, i2, i3, i4⟩ := go_house H qs l v (fun x hx => hq x (List.mem_cons_of_mem _ hx)) (by rw [List.length_cons] at hn; omega) l0 o2 Pt' o1 t4
    generalize rel l (xsH h qs) (blL h.1 0 l (csH h qs) (xsH h qs) (wsH h qs)) = rs at i1 i2 i3 i4 t4 ⊢
    generalize hr : g + h.2.1 - l = r at t2 t4 ⊢
    have r0 : 0 ≤ r := by omega
    have rn : r ≤ h.2.1 + h.2.2.1 := by omega
    have rnr : (r : Rat) ≤ (h.2.1 : Rat) + (h.2.2.1 : Rat) := by rw [← Rat.intCast_add]; exact Rat.intCast_le_intCast.mpr rn
    obtain ⟨w1, w2, w3, w4, w5⟩ := two_steps (a := q * h.2.2.2.2) (b := q * h.2.2.2.1) (by omega) v0 (c0 t1) (c0 r0) rnr t2
    obtain ⟨k1, k2⟩ := pu_cases h.2.1 r
    have lv : (g : Rat) + (puI h.2.1 r : Rat) - (dnI h.2.1 r : Rat) = (l : Rat) := by
      rw [← Rat.intCast_add, ← Rat.intCast_sub]
      congr 1
      unfold puI dnI
      omega
    have ui : 0 ≤ puI h.2.1 r ∧ puI h.2.1 r ≤ h.2.1 := by
      by_cases c : r < h.2.1
      · have := (k1 c).1; omega
      · have := (k2 (by omega)).1; omega
    have di : 0 ≤ dnI h.2.1 r ∧ dnI h.2.1 r ≤ h.2.2.1 := by
      by_cases c : r < h.2.1
      · have := (k1 c).2; omega
      · have := (k2 (by omega)).2; omega
    have vK : (v : Rat) / (h.2.2.2.2 : Rat) * (h.2.2.2.2 : Rat) = (v : Rat) := Rat.div_mul_cancel (Rat.ne_of_gt br)
    have sK : sig h * (h.2.2.2.2 : Rat) = (h.2.2.2.1 : Rat) := Rat.div_mul_cancel (Rat.ne_of_gt br)
    rw [Rat.intCast_mul] at w1 w2 w3 w4 w5
    rw [Rat.intCast_mul] at w5
    have lt1 : ∀ {a b : Rat}, a < b ↔ a * (h.2.2.2.2 : Rat) < b * (h.2.2.2.2 : Rat) := fun {a b} => (Rat.mul_lt_mul_right br).symm
    have sq : sig h * (q : Rat) * (h.2.2.2.2 : Rat) = (q : Rat) * (h.2.2.2.1 : Rat) := by
      have : sig h * (q : Rat) * (h.2.2.2.2 : Rat) = (q : Rat) * (sig h * (h.2.2.2.2 : Rat)) := by grind
      rw [this, sK]
    refine ⟨⟨c0 ui.1, Rat.intCast_le_intCast.mpr ui.2, c0 di.1, Rat.intCast_le_intCast.mpr di.2, ?_, ?_, ?_⟩, ⟨?_, fun lt => ?_, fun lt => ?_, fun lt => ?_, fun lt => ?_, ?_, ?_⟩, ?_, ?_⟩
    · rw [lv]; exact c0 l0
    · rw [lv]; exact Rat.intCast_le_intCast.mpr o2
    · show PT (h.1 : Rat) (h.2.1 : Rat) (h.2.2.1 : Rat) ((g : Rat) + (puI h.2.1 r : Rat) - (dnI h.2.1 r : Rat)) (usR h rs) (dsR h rs)
      rw [lv]; exact i1
    · refine Rat.le_of_mul_le_mul_right (c := (h.2.2.2.2 : Rat)) ?_ br
      rw [vK, Rat.zero_mul]
      exact c0 t1
    · rw [lt1, vK] at lt
      have e : r = 0 := by
        rcases w2 lt with z | z
        · have := Rat.intCast_le_intCast.mp (show (r : Rat) ≤ ((0 : Int) : Rat) from z)
          omega
        · omega
      show (puI h.2.1 r : Rat) = (h.2.1 : Rat)
      rw [e, ((pu_cases h.2.1 0).1 (by omega)).1]
      congr 1
      omega
    · rw [lt1, vK] at lt
      have := Rat.intCast_le_intCast.mp (w1 lt)
      show (puI h.2.1 r : Rat) = 0
      rw [(k2 this).1]
      rfl
    · rw [lt1, vK, sq] at lt
      have c : ¬ r < h.2.1 := fun c => by
        have := w3 (Rat.intCast_le_intCast.mpr (by omega))
        grind
      have c' : h.2.1 ≤ r := by omega
      have e := (w4 (Rat.intCast_le_intCast.mpr c')).1 lt
      show (dnI h.2.1 r : Rat) = (h.2.2.1 : Rat)
      rw [(k2 c').2, Rat.intCast_sub]
      exact e
    · rw [lt1, vK, sq] at lt
      show (dnI h.2.1 r : Rat) = 0
      by_cases c : r < h.2.1
      · rw [(k1 c).2]
        rfl
      · have c' : h.2.1 ≤ r := by omega
        have e := (w4 (Rat.intCast_le_intCast.mpr c')).2 lt
        rw [(k2 c').2, Rat.intCast_sub]
        exact e
    · rw [lv]
      have vl : ∀ y : Int, (v : Rat) / (h.2.2.2.2 : Rat) < (y : Rat) / (h.2.2.2.2 : Rat) ↔ v < y := fun y => by
        rw [lt1, vK, Rat.div_mul_cancel (Rat.ne_of_gt br)]
        exact Rat.intCast_lt_intCast
      have vl' : ∀ y : Int, (y : Rat) / (h.2.2.2.2 : Rat) < (v : Rat) / (h.2.2.2.2 : Rat) ↔ y < v := fun y => by
        rw [lt1, vK, Rat.div_mul_cancel (Rat.ne_of_gt br)]
        exact Rat.intCast_lt_intCast
      generalize prsL h.1 0 l v (csH h qs) (xsH h qs) (wsH h qs) = us at t3 ⊢
      cases us with
      | nil =>
        have t3' : (v : Rat) * ((l : Rat) - ((0 : Int) : Rat)) = 0 := t3
        have z : ((0 : Int) : Rat) = 0 := rfl
        rw [z] at t3'
        show (v : Rat) / (h.2.2.2.2 : Rat) * (l : Rat) = 0
        refine mcanc br ?_
        have : (v : Rat) / (h.2.2.2.2 : Rat) * (l : Rat) * (h.2.2.2.2 : Rat) = (v : Rat) / (h.2.2.2.2 : Rat) * (h.2.2.2.2 : Rat) * (l : Rat) := by grind
        rw [this, vK, Rat.zero_mul]
        grind
      | cons y us =>
        obtain ⟨a, b⟩ : (v < y → (l : Rat) = (h.1 : Rat)) ∧ (y < v → (l : Rat) = 0) := t3
        exact ⟨fun z => a ((vl y).mp z), fun z => b ((vl' y).mp z)⟩
    · show SlP (h.1 : Rat) (h.2.1 : Rat) (h.2.2.1 : Rat) (sig h) ((g : Rat) + (puI h.2.1 r : Rat) - (dnI h.2.1 r : Rat)) (psR qs) (usR h rs) (dsR h rs) (vsR h (prsL h.1 0 l v (csH h qs) (xsH h qs) (wsH h qs)))
      rw [lv]; exact i2
    · show stV (swp [(h.2.1, q * h.2.2.2.2), (h.2.2.1, q * h.2.2.2.1)]) (r : Rat) + wR (wsH h qs) (rs.map fun i : Int => (i : Rat)) = (h.2.1 : Rat) * (h.2.2.2.2 : Rat) * (((q + qs.sum : Int)) : Rat) + (h.2.2.2.2 : Rat) * ((q : Rat) * (sig h * (dnI h.2.1 r : Rat) - (puI h.2.1 r : Rat)) + prf (sig h) (psR qs) (usR h rs) (dsR h rs))
      have w5' : stV (swp [(h.2.1, q * h.2.2.2.2), (h.2.2.1, q * h.2.2.2.1)]) (r : Rat) = _ := w5
      rw [i3, w5', Rat.intCast_add]
      by_cases c : r < h.2.1
      · rw [if_pos (Rat.intCast_lt_intCast.mpr c), if_pos (Rat.intCast_lt_intCast.mpr c), (k1 c).1, (k1 c).2, Rat.intCast_sub]
        have z : ((0 : Int) : Rat) = 0 := rfl
        rw [z]
        grind
      · have c' : h.2.1 ≤ r := by omega
        have n : ¬ (r : Rat) < (h.2.1 : Rat) := fun z => c (Rat.intCast_lt_intCast.mp z)
        rw [if_neg n, if_neg n, (k2 c').1, (k2 c').2, Rat.intCast_sub]
        have z : ((0 : Int) : Rat) = 0 := rfl
        rw [z]
        have : (h.2.2.2.2 : Rat) * ((q : Rat) * (sig h * ((r : Rat) - (h.2.1 : Rat)) - 0)) = (q : Rat) * (sig h * (h.2.2.2.2 : Rat)) * ((r : Rat) - (h.2.1 : Rat)) := by grind
        rw [sK] at this
        grind
    · intro x hx
      rcases List.mem_cons.mp hx with z | z
      · rw [z]; omega
      · exact i4 x z
end
theorem prf_in {C up dn σ : Rat} (s0 : 0 ≤ σ) (s1 : σ ≤ 1) (u1 : up ≤ 1000) (d1 : dn ≤ 1000) : ∀ (ps us ds : List Rat) (h : Rat), (∀ p ∈ ps, 0 ≤ p ∧ p ≤ 1000) → PT C up dn h us ds → us.length = ps.length → -(1000000 * (ps.length : Rat)) ≤ prf σ ps us ds ∧ prf σ ps us ds ≤ 1000000 * (ps.length : Rat)
  | [], [], [], h, _, _, _ => by
    have z : (([] : List Rat).length : Rat) = 0 := rfl
    rw [z]
    show -(1000000 * 0) ≤ (0 : Rat) ∧ (0 : Rat) ≤ 1000000 * 0
    constructor <;> grind
  | p :: ps, u :: us, d :: ds, h, hp, ⟨a1, a2, a3, a4, _, _, t⟩, hl => by
    obtain ⟨i1, i2⟩ := prf_in s0 s1 u1 d1 ps us ds _ (fun x hx => hp x (List.mem_cons_of_mem _ hx)) t (by simpa using hl)
    obtain ⟨p0, p1⟩ := hp p List.mem_cons_self
    have e : (((p :: ps).length : Nat) : Rat) = (ps.length : Rat) + 1 := by
      rw [List.length_cons, Rat.natCast_add]
      rfl
    rw [e]
    have k1 := Rat.mul_le_mul_of_nonneg_right s1 a3
    have k2 := Rat.mul_nonneg s0 a3
    have x1 : σ * d - u ≤ 1000 := by grind
    have x2 : -1000 ≤ σ * d - u := by grind
    have m1 := Rat.mul_le_mul_of_nonneg_left x1 p0
    have m2 := Rat.mul_le_mul_of_nonneg_left x2 p0
    show -(1000000 * ((ps.length : Rat) + 1)) ≤ p * (σ * d - u) + prf σ ps us ds ∧ p * (σ * d - u) + prf σ ps us ds ≤ 1000000 * ((ps.length : Rat) + 1)
    constructor <;> grind
  | [], [], _ :: _, _, _, t, _ => t.elim
  | [], _ :: _, _, _, _, _, h => by simp at h
  | _ :: _, [], _, _, _, _, h => by simp at h
  | _ :: _, _ :: _, [], _, _, t, _ => t.elim
section
variable {h : HouseT} {ps : List Int}
structure PumpW (h : HouseT) (ps : List Int) : Prop where
  pt : PT (h.1 : Rat) (h.2.1 : Rat) (h.2.2.1 : Rat) 0 (usR h (rsH h ps)) (dsR h (rsH h ps))
  sl : SlP (h.1 : Rat) (h.2.1 : Rat) (h.2.2.1 : Rat) (sig h) 0 (psR ps) (usR h (rsH h ps)) (dsR h (rsH h ps)) (vsR h (vsH h ps))
  eq : (gwH h ps : Rat) = (h.2.1 : Rat) * (h.2.2.2.2 : Rat) * (ps.sum : Rat) + (h.2.2.2.2 : Rat) * prf (sig h) (psR ps) (usR h (rsH h ps)) (dsR h (rsH h ps))
  rb : ∀ r ∈ rsH h ps, 0 ≤ r ∧ r ≤ 2000
  rl : (rsH h ps).length = ps.length
  vl : (vsH h ps).length = ps.length
  vb : ∀ v ∈ vsH h ps, v.natAbs < 2 ^ 40
theorem pump_w (H : HouseIn h ps) : PumpW h ps := by
  obtain ⟨P, lo, cc⟩ := partsH H
  have l1 := H.l1
  have sl := (prsL_ok ⟨P.e0, P.e1⟩ _ _ _ 0 0 P.cl P.wl (fun c hc => (P.c c hc).1) (fun x hx => (P.x x hx).1) (fun Q hQ => (P.w Q hQ).ok) P.f lo cc (Int.le_refl _)).2
  obtain ⟨a1, a2, a3, a4⟩ := go_house H ps 0 0 H.p l1 (Int.le_refl _) H.c0 P lo sl
  have B := bestL_ok P (Int.le_refl _) cc lo
  have bn := (blL_ok ⟨P.e0, P.e1⟩ (csH h ps) (xsH h ps) (wsH h ps) 0 P.cl P.wl (fun c hc => (P.c c hc).1) (fun x hx => (P.x x hx).1) (fun Q hQ => (P.w Q hQ).ok) P.f lo cc).1
  have ln : (xsH h ps).length = ps.length := by unfold xsH; rw [List.length_replicate]
  have lt := prsL_lt _ _ _ 0 0 P lo cc (by decide)
  refine ⟨a1, a2, ?_, a4, by rw [← ln]; exact rel_len _ _ _ bn, by rw [← ln]; exact prsL_len _ _ _ _ _ P.cl P.wl, lt⟩
  rw [B.eq]
  exact a3
theorem check_house_ok (H : HouseIn h ps) : N_check_house_and_prices h ps = some () := by
  have r1 : N_is_row_between ([(h.2.1, h.2.2.1).1, (h.2.1, h.2.2.1).2]) (1 : Int) (1000 : Int) = some true := row_ok fun x hx => by
    simp only [List.mem_cons, List.not_mem_nil, or_false] at hx
    rcases hx with rfl | rfl
    · exact ⟨H.u0, H.u1⟩
    · exact ⟨H.v0, H.v1⟩
  have r2 : N_is_row_between ps (0 : Int) (1000 : Int) = some true := row_ok H.p
  have l0 := H.l0; have l1 := H.l1
  have b1 : N_is_between h.1 (0 : Int) (1000 : Int) = some true := by rw [between_ok, decide_eq_true H.c0, decide_eq_true H.c1]; rfl
  have sh : N_is_share h.2.2.2 = some true := by
    unfold N_is_share
    rw [is_ratio_ok H.sz, decide_eq_true H.s0, decide_eq_true H.s1, decide_eq_true H.s2]
    rfl
  unfold N_check_house_and_prices N_is_house
  rw [Option.bind_some, b1, r1, r2, sh, decide_eq_true (show (1 : Int) ≤ (ps.length : Int) by omega), decide_eq_true (show (ps.length : Int) ≤ (6 : Int) by omega)]
  rfl
theorem like_dam_is (H : HouseIn h ps) : N_like_dam h ps = some ((h.1, (0 : Int), (0 : Int), xsH h ps), wsH h ps) := by
  have l0 := H.l0; have l1 := H.l1
  have u0 := H.u0; have u1 := H.u1; have v0 := H.v0; have v1 := H.v1; have s0 := H.s0; have s1 := H.s1; have s2 := H.s2
  have rp : repO ([h.2.1]) ((ps.length : Nat) : Int) = some (xsH h ps) := by
    unfold repO
    rw [if_pos ⟨by simp, by omega, by omega, by simp⟩, show (((ps.length : Nat) : Int)).toNat = ps.length by omega, rep_one]
    rfl
  have cp : compL (fun (i11 : Int) => (some true)) (fun (i11 : Int) => ((((some h.2.1).bind fun x14 => (mulO i11 h.2.2.2.2).bind fun x15 => some (x14, x15)).bind fun x22 => (((some h.2.2.1).bind fun x18 => (mulO i11 h.2.2.2.1).bind fun x19 => some (x18, x19)).bind fun x20 => (some []).bind fun y21 => some (x20 :: y21)).bind fun y23 => some (x22 :: y23)).bind dispO)) ps = some (wsH h ps) := by
    refine compL_all (by omega) fun p hp => ?_
    have p0 := H.p p hp
    rw [mul_ok (n := 10) (m := 7) (by omega) (by omega) (by decide), mul_ok (n := 10) (m := 7) (by omega) (by omega) (by decide)]
    simp only [Option.bind_some]
    unfold dispO
    exact if_pos (show 2 ≤ 64 by decide)
  unfold N_like_dam
  rw [Option.bind_some, rp, cp]
  rfl
theorem curves_isH (H : HouseIn h ps) : N_level_curves (h.1, (0 : Int), (0 : Int), xsH h ps) (wsH h ps) = some (cvsL h.1 0 (csH h ps) (xsH h ps) (wsH h ps)) := by
  obtain ⟨P, lo, cc⟩ := partsH H
  have l1 := H.l1
  have ln : (xsH h ps).length = ps.length := by unfold xsH; rw [List.length_replicate]
  have ad : addI ((xsH h ps).length : Int) (1 : Int) = ((ps.length + 1 : Nat) : Int) := by rw [addI_eq, ln]; omega
  have rp : repO ([h.1]) (((ps.length + 1 : Nat) : Int)) = some (csH h ps ++ [h.1]) := by
    unfold repO
    rw [if_pos ⟨by simp, by omega, by omega, by simp⟩, show (((ps.length + 1 : Nat) : Int)).toNat = ps.length + 1 by omega, rep_one, List.replicate_succ']
    rfl
  unfold N_level_curves
  rw [Option.bind_some]
  show ((repO ([h.1]) (addI ((xsH h ps).length : Int) (1 : Int))).bind fun a8 => (some (0 : Int)).bind fun a9 => (some (xsH h ps)).bind fun a10 => (some (wsH h ps)).bind fun a11 => N_curves_of_levels a8 a9 a10 a11) = _
  rw [ad, rp]
  exact curvesL_is P
theorem sig_in (H : HouseIn h ps) : 0 ≤ sig h ∧ sig h ≤ 1 := by
  have bpos : 0 < h.2.2.2.2 := H.sz.pos
  have br := cast_pos bpos
  have sK : sig h * (h.2.2.2.2 : Rat) = (h.2.2.2.1 : Rat) := Rat.div_mul_cancel (Rat.ne_of_gt br)
  refine ⟨(val_nonneg_iff bpos).mpr (by have := H.s0; omega), Rat.le_of_mul_le_mul_right (c := (h.2.2.2.2 : Rat)) ?_ br⟩
  rw [sK, Rat.one_mul]
  exact Rat.intCast_le_intCast.mpr H.s1
theorem psR_in (H : HouseIn h ps) : ∀ p ∈ psR ps, 0 ≤ p ∧ p ≤ 1000 := fun p hp => by
  obtain ⟨q, hq, rfl⟩ := List.mem_map.mp hp
  have := H.p q hq
  exact ⟨c0 this.1, Rat.intCast_le_intCast.mpr this.2⟩
theorem found_profit_is (H : HouseIn h ps) : ∃ r, N_found_profit h ps = some r ∧ N_pump_profit h ps = some r ∧ Is 60 r (prf (sig h) (psR ps) (usR h (rsH h ps)) (dsR h (rsH h ps))) := by
  have W := pump_w H
  obtain ⟨P, lo, cc⟩ := partsH H
  have l0 := H.l0; have l1 := H.l1
  have u0 := H.u0; have u1 := H.u1; have v0 := H.v0; have v1 := H.v1; have s0 := H.s0; have s1 := H.s1; have s2 := H.s2
  have bpos : 0 < h.2.2.2.2 := H.sz.pos
  have br := cast_pos bpos
  obtain ⟨g0, g1⟩ := sig_in H
  have pl : (psR ps).length = ps.length := by unfold psR; rw [List.length_map]
  have ul : (usR h (rsH h ps)).length = (psR ps).length := by unfold usR; rw [List.length_map, pl]; exact W.rl
  obtain ⟨b1, b2⟩ := prf_in (C := (h.1 : Rat)) g0 g1 (Rat.intCast_le_intCast.mpr u1) (Rat.intCast_le_intCast.mpr v1) (psR ps) _ _ 0 (psR_in H) W.pt ul
  have sm : 0 ≤ ps.sum ∧ ps.sum ≤ 6000 := by
    have : ∀ l : List Int, (∀ p ∈ l, 0 ≤ p ∧ p ≤ 1000) → 0 ≤ l.sum ∧ l.sum ≤ 1000 * (l.length : Int) := by
      intro l
      induction l with
      | nil => intro _; exact ⟨Int.le_refl _, Int.le_refl _⟩
      | cons a l ih =>
        intro hl
        have a0 := hl a List.mem_cons_self
        have := ih fun p hp => hl p (List.mem_cons_of_mem _ hp)
        rw [List.sum_cons, List.length_cons]
        omega
    have := this ps H.p
    omega
  have ub := Int.mul_le_mul u1 s2 (by omega) (by decide)
  have ub0 := Int.mul_nonneg (show 0 ≤ h.2.1 by omega) (show 0 ≤ h.2.2.2.2 by omega)
  have key : ((gwH h ps - h.2.1 * h.2.2.2.2 * ps.sum : Int) : Rat) = (h.2.2.2.2 : Rat) * prf (sig h) (psR ps) (usR h (rsH h ps)) (dsR h (rsH h ps)) := by
    rw [Rat.intCast_sub, Rat.intCast_mul, Rat.intCast_mul, W.eq]
    grind
  have nb : (gwH h ps - h.2.1 * h.2.2.2.2 * ps.sum).natAbs < 2 ^ 60 := by
    have n6 : ((psR ps).length : Rat) ≤ 6 := by
      rw [pl]
      exact Rat.natCast_le_natCast.mpr l1
    have b100 : (h.2.2.2.2 : Rat) ≤ 100 := Rat.intCast_le_intCast.mpr s2
    generalize prf (sig h) (psR ps) (usR h (rsH h ps)) (dsR h (rsH h ps)) = X at key b1 b2
    have x1 : X ≤ 6000000 := by grind
    have x2 : -6000000 ≤ X := by grind
    have m1 := Rat.mul_le_mul_of_nonneg_left x1 (Rat.le_of_lt br)
    have m2 := Rat.mul_le_mul_of_nonneg_left x2 (Rat.le_of_lt br)
    have t1 : ((gwH h ps - h.2.1 * h.2.2.2.2 * ps.sum : Int) : Rat) ≤ ((600000000 : Int) : Rat) := by
      rw [key]
      have : ((600000000 : Int) : Rat) = 600000000 := rfl
      rw [this]
      grind
    have t2 : (((-600000000) : Int) : Rat) ≤ ((gwH h ps - h.2.1 * h.2.2.2.2 * ps.sum : Int) : Rat) := by
      rw [key]
      have : (((-600000000) : Int) : Rat) = -600000000 := rfl
      rw [this]
      grind
    have t1' := Rat.intCast_le_intCast.mp t1
    have t2' := Rat.intCast_le_intCast.mp t2
    omega
  obtain ⟨cr, hcr⟩ := cvsL_head h.1 0 (csH h ps) (xsH h ps) (wsH h ps) P.cl P.wl
  have w : N_worth_on_curve (cvL h.1 0 (csH h ps) (xsH h ps) (wsH h ps)) 0 = some (gwH h ps) := worthL_is P
  have gr : N_greatest_worth (h.1, (0 : Int), (0 : Int), xsH h ps) (wsH h ps) = some (gwH h ps) := by
    unfold N_greatest_worth
    rw [curves_isH H, Option.bind_some, Option.bind_some, hcr, at_headI, Option.bind_some, Option.bind_some]
    exact w
  have fp : N_found_profit h ps = some (rt (gwH h ps - h.2.1 * h.2.2.2.2 * ps.sum) h.2.2.2.2) := by
    unfold N_found_profit
    rw [Option.bind_some, like_dam_is H, Option.bind_some, gr, mul_ok (n := 10) (m := 7) (by omega) (by omega) (by decide)]
    simp only [Option.bind_some]
    rw [mul_ok (n := 17) (m := 13) (by omega) (by omega) (by decide), Option.bind_some]
    exact ratio_ok (n := 7) bpos (by omega) (by decide)
  refine ⟨_, fp, ?_, rt_sz bpos nb (by omega), ?_⟩
  · unfold N_pump_profit
    rw [check_house_ok H, Option.bind_some, fp]
  · rw [rt_val bpos, key, Rat.mul_comm, Rat.mul_div_cancel (Rat.ne_of_gt br)]
theorem pump_plan_is (H : HouseIn h ps) : N_pump_plan h ps = some ((rsH h ps).map fun r => (puI h.2.1 r, (1 : Int)), (rsH h ps).map fun r => (dnI h.2.1 r, (1 : Int))) := by
  have W := pump_w H
  obtain ⟨P, lo, cc⟩ := partsH H
  have l1 := H.l1
  have ln : (xsH h ps).length = ps.length := by unfold xsH; rw [List.length_replicate]
  have bn := (blL_ok ⟨P.e0, P.e1⟩ (csH h ps) (xsH h ps) (wsH h ps) 0 P.cl P.wl (fun c hc => (P.c c hc).1) (fun x hx => (P.x x hx).1) (fun Q hQ => (P.w Q hQ).ok) P.f lo cc).1
  have rl : N_releases_between 0 (xsH h ps) (blL h.1 0 0 (csH h ps) (xsH h ps) (wsH h ps)) = some (rsH h ps) := rel_is bn (by omega)
  have br : N_best_releases (h.1, (0 : Int), (0 : Int), xsH h ps) (wsH h ps) = some (rsH h ps) := by
    unfold N_best_releases
    rw [Option.bind_some, curves_isH H]
    simp only [Option.bind_some]
    rw [levelsL_is P, Option.bind_some]
    exact rl
  have go : ∀ (l : List Int) (a b : List Q2), a.length + l.length ≤ 1000 → b.length + l.length ≤ 1000 → foldO (fun (i6 : Int) (s4 : ((List (Int × Int)) × (List (Int × Int)))) => ((some (min2 h.2.1 i6)).bind fun saved_7 => ((appO s4.1 ((h.2.1 - saved_7), (1 : Int))).bind fun pumped_16 => ((appO s4.2 ((i6 - saved_7), (1 : Int))).bind fun let_down_20 => some (pumped_16, let_down_20))))) l (a, b) = some (a ++ l.map fun r => (puI h.2.1 r, (1 : Int)), b ++ l.map fun r => (dnI h.2.1 r, (1 : Int))) := by
    intro l
    induction l with
    | nil => intro a b _ _; rw [List.map_nil, List.map_nil, List.append_nil, List.append_nil]; rfl
    | cons r l ih =>
      intro a b ha hb
      rw [List.length_cons] at ha hb
      rw [foldO_cons]
      have st : ((some (min2 h.2.1 r)).bind fun saved_7 => ((appO a ((h.2.1 - saved_7), (1 : Int))).bind fun pumped_16 => ((appO b ((r - saved_7), (1 : Int))).bind fun let_down_20 => some (pumped_16, let_down_20)))) = some (a ++ [(puI h.2.1 r, (1 : Int))], b ++ [(dnI h.2.1 r, (1 : Int))]) := by
        rw [Option.bind_some]
        unfold appO
        rw [if_pos (by omega), Option.bind_some, if_pos (by omega)]
        rfl
      show (((some (min2 h.2.1 r)).bind fun saved_7 => ((appO a ((h.2.1 - saved_7), (1 : Int))).bind fun pumped_16 => ((appO b ((r - saved_7), (1 : Int))).bind fun let_down_20 => some (pumped_16, let_down_20))))).bind _ = _
      rw [st, Option.bind_some, ih _ _ (by rw [List.length_append, List.length_singleton]; omega) (by rw [List.length_append, List.length_singleton]; omega), List.append_assoc, List.append_assoc]
      rfl
  have g := go (rsH h ps) [] [] (by rw [List.length_nil, W.rl]; omega) (by rw [List.length_nil, W.rl]; omega)
  unfold N_pump_plan
  rw [check_house_ok H, Option.bind_some, like_dam_is H, Option.bind_some, Option.bind_some, Option.bind_some]
  show ((N_best_releases (h.1, (0 : Int), (0 : Int), xsH h ps) (wsH h ps)).bind fun l => foldO _ l ([], [])).bind _ = _
  rw [br, Option.bind_some]
  refine bindE g ?_
  rfl
end
theorem row_true {n : Nat} {l : List Q2} {ps : List Rat} {m : Nat} (hl : IsL n l ps) (h0 : ∀ p ∈ ps, 0 ≤ p) (hm : l.length = m) : N_is_row_of_ratios l (m : Int) = some true := by
  unfold N_is_row_of_ratios
  rw [hm]
  rw [allO_true l fun p hq => by
    obtain ⟨v, v1, v2⟩ := isL_mem hl p hq
    rw [is_ratio_ok v2.sz]
    show some (decide (0 ≤ p.1)) = some true
    rw [decide_eq_true ((val_nonneg_iff v2.sz.pos).mp (by rw [v2.eq]; exact h0 v v1))]]
  simp [iteO]
theorem PT_len {C up dn : Rat} : ∀ {us ds : List Rat} {h : Rat}, PT C up dn h us ds → us.length = ds.length ∧ (∀ u ∈ us, 0 ≤ u ∧ u ≤ up) ∧ ∀ d ∈ ds, 0 ≤ d ∧ d ≤ dn
  | [], [], _, _ => ⟨rfl, (fun u hu => nomatch hu), fun d hd => nomatch hd⟩
  | u :: us, d :: ds, _, ⟨a, b, c, e, _, _, t⟩ => by
    obtain ⟨i, j, k⟩ := PT_len t
    refine ⟨by rw [List.length_cons, List.length_cons, i], fun x hx => ?_, fun x hx => ?_⟩
    · rcases List.mem_cons.mp hx with z | z
      · rw [z]; exact ⟨a, b⟩
      · exact j x z
    · rcases List.mem_cons.mp hx with z | z
      · rw [z]; exact ⟨c, e⟩
      · exact k x z
  | [], _ :: _, _, t => t.elim
  | _ :: _, [], _, t => t.elim
noncomputable def sH (h : HouseT) (ps : List Int) (V : List Q2 × List Q2) (i8 : Int) (s6 : Unit) : Option (Bool ⊕ Unit) := ((atI ([V.1, V.2]) i8).bind fun some_9 => (iteO (some (!true)) ((some false).bind fun v43 => some (.inl v43)) (iteO (some (!decide (((some_9).length : Int) = ((ps).length : Int)))) ((some false).bind fun v42 => some (.inl v42)) (iteO ((compL (fun (i19 : (Int × Int)) => (orO ((N__law_is_ratio i19).bind fun b20 => some (!b20)) (some (decide (i19.1 < (0 : Int)))))) (fun (i19 : (Int × Int)) => (some i19)) some_9).bind fun x26 => (some ([] : (List (Int × Int)))).bind fun y27 => some (!decide (x26 = y27))) ((some false).bind fun v41 => some (.inl v41)) (iteO ((compL (fun (i28 : (Int × Int)) => (((atI ([eI h.1, eI h.2.1, eI h.2.2.1, (e2 eI eI) h.2.2.2]) ((1 : Int) + i8)).bind fun x34 => (some (1 : Int)).bind fun x35 => some (x34, x35)).bind fun a36 => (some i28).bind fun a37 => N__law_less_1 a36 a37)) (fun (i28 : (Int × Int)) => (some i28)) some_9).bind fun x38 => (some ([] : (List (Int × Int)))).bind fun y39 => some (!decide (x38 = y39))) ((some false).bind fun v40 => some (.inl v40)) (some (.inr ())))))))
theorem sumL_is : ∀ (l : List Q2) (vs : List Rat) (q : Q2) (v : Rat) (b : Nat), IsL 220 l vs → Is b q v → b + 221 * l.length ≤ 8000 → ∃ r, foldO (fun i s => (N__law_plus s i).bind fun t => some t) l q = some r ∧ Is 8000 r (v + vs.sum)
  | [], [], q, v, b, _, hq, hb => ⟨q, rfl, by
    have e : v + ([] : List Rat).sum = v := by show v + 0 = v; grind
    rw [e]
    exact hq.mono (by simp at hb; omega)⟩
  | p :: l, u :: vs, q, v, b, ⟨h1, h2⟩, hq, hb => by
    rw [List.length_cons] at hb
    obtain ⟨w, w1, w2⟩ := lplus hq h1 (by omega)
    obtain ⟨r, r1, r2⟩ := sumL_is l vs w (v + u) (b + 221) h2 (w2.mono (by omega)) (by omega)
    refine ⟨r, ?_, ?_⟩
    · rw [foldO_cons, w1]
      exact r1
    · have e : v + (u :: vs).sum = v + u + vs.sum := by rw [List.sum_cons]; grind
      rw [e]
      exact r2
  | [], _ :: _, _, _, _, h, _, _ => h.elim
  | _ :: _, [], _, _, _, h, _, _ => h.elim
section
variable {h : HouseT} {ps : List Int}
def pi' (h : HouseT) (ps : List Int) : Rat := prf (sig h) (psR ps) (usR h (rsH h ps)) (dsR h (rsH h ps))
abbrev uq (h : HouseT) (ps : List Int) : List Q2 := (rsH h ps).map fun r => (puI h.2.1 r, (1 : Int))
abbrev dq (h : HouseT) (ps : List Int) : List Q2 := (rsH h ps).map fun r => (dnI h.2.1 r, (1 : Int))
theorem psR_len : (psR ps).length = ps.length := by unfold psR; rw [List.length_map]
theorem psR_ne (H : HouseIn h ps) : psR ps ≠ [] := fun z => by
  have := H.l0
  have e := congrArg List.length z
  rw [psR_len] at e
  simp at e
  rw [e] at this
  simp at this
theorem plan_isl (H : HouseIn h ps) : IsL 20 (uq h ps) (usR h (rsH h ps)) ∧ IsL 20 (dq h ps) (dsR h (rsH h ps)) := by
  have W := pump_w H
  have rb := W.rb
  have u0 := H.u0; have u1 := H.u1
  show IsL 20 ((rsH h ps).map fun r => (puI h.2.1 r, (1 : Int))) ((rsH h ps).map fun r => (puI h.2.1 r : Rat)) ∧ IsL 20 ((rsH h ps).map fun r => (dnI h.2.1 r, (1 : Int))) ((rsH h ps).map fun r => (dnI h.2.1 r : Rat))
  generalize rsH h ps = rs at rb ⊢
  have bd : ∀ r, 0 ≤ r ∧ r ≤ 2000 → (puI h.2.1 r).natAbs < 2 ^ 20 ∧ (dnI h.2.1 r).natAbs < 2 ^ 20 := fun r hr => by
    obtain ⟨k1, k2⟩ := pu_cases h.2.1 r
    by_cases c : r < h.2.1
    · obtain ⟨a, b⟩ := k1 c; omega
    · obtain ⟨a, b⟩ := k2 (by omega); omega
  induction rs with
  | nil => exact ⟨trivial, trivial⟩
  | cons r rs ih =>
    obtain ⟨i, j⟩ := ih fun x hx => rb x (List.mem_cons_of_mem _ hx)
    obtain ⟨a, b⟩ := bd r (rb r List.mem_cons_self)
    exact ⟨⟨is_int a (by decide), i⟩, ⟨is_int b (by decide), j⟩⟩
theorem zeros {C up dn : Rat} (C0 : 0 ≤ C) (u0 : 0 ≤ up) (d0 : 0 ≤ dn) : ∀ n : Nat, PT C up dn 0 (List.replicate n 0) (List.replicate n 0)
  | 0 => trivial
  | n + 1 => by
    have e : (0 : Rat) + 0 - 0 = 0 := by grind
    refine ⟨Rat.le_refl, u0, Rat.le_refl, d0, ?_, ?_, ?_⟩
    · rw [e]; exact Rat.le_refl
    · rw [e]; exact C0
    · show PT C up dn (0 + 0 - 0) (List.replicate n 0) (List.replicate n 0)
      rw [e]; exact zeros C0 u0 d0 n
theorem prf_zeros {σ : Rat} : ∀ (ps : List Rat) (n : Nat), prf σ ps (List.replicate n 0) (List.replicate n 0) = 0
  | [], n => by cases n <;> rfl
  | p :: ps, 0 => rfl
  | p :: ps, n + 1 => by
    have i := prf_zeros (σ := σ) ps n
    show p * (σ * 0 - 0) + prf σ ps (List.replicate n 0) (List.replicate n 0) = 0
    rw [i]
    grind
theorem most_is (H : HouseIn h ps) {us ds : List Rat} (t : PT (h.1 : Rat) (h.2.1 : Rat) (h.2.2.1 : Rat) 0 us ds) (hu : us.length = ps.length) : prf (sig h) (psR ps) us ds ≤ pi' h ps := by
  have W := pump_w H
  obtain ⟨a, b, _⟩ := slP_nn W.sl
  unfold pi'
  rw [sameP W.sl]
  exact boundP (psR_ne H) b a t (by rw [hu, psR_len])
theorem bound_most (H : HouseIn h ps) {vs : List Rat} (hv : ∀ v ∈ vs, 0 ≤ v) (hl : vs.length = ps.length) : pi' h ps ≤ bdP (h.1 : Rat) (h.2.1 : Rat) (h.2.2.1 : Rat) (sig h) (psR ps) vs := by
  have W := pump_w H
  exact boundP (psR_ne H) (by rw [psR_len, hl]) hv W.pt (by unfold usR; rw [List.length_map, psR_len]; exact W.rl)
theorem most_nonneg (H : HouseIn h ps) : 0 ≤ pi' h ps := by
  have z := zeros (C := (h.1 : Rat)) (up := (h.2.1 : Rat)) (dn := (h.2.2.1 : Rat)) (c0 H.c0) (c0 (by have := H.u0; omega)) (c0 (by have := H.v0; omega)) ps.length
  have := most_is H z (by rw [List.length_replicate])
  rw [prf_zeros] at this
  exact this
theorem profit_is (H : HouseIn h ps) : ∃ r, N_pump_profit h ps = some r ∧ Is 60 r (pi' h ps) := by
  obtain ⟨r, _, r1, r2⟩ := found_profit_is H
  exact ⟨r, r1, r2⟩
theorem uq_len (H : HouseIn h ps) : (uq h ps).length = ps.length ∧ (dq h ps).length = ps.length := by
  have W := pump_w H
  exact ⟨by rw [List.length_map]; exact W.rl, by rw [List.length_map]; exact W.rl⟩
end
noncomputable def zH (h : HouseT) (i18 : (Int × Int) × (Int × Int)) (s16 : Int × Int) : Option (Bool ⊕ (Int × Int)) := (((N_plus s16 i18.1).bind fun a20 => (some i18.2).bind fun a21 => N_minus a20 a21).bind fun held_19 => (iteO (orO (N_is_less (h.2.1, (1 : Int)) i18.1) (N_is_less (h.2.2.1, (1 : Int)) i18.2)) ((some false).bind fun v23 => some (.inl v23)) (iteO (orO (N_is_less held_19 ((0 : Int), (1 : Int))) (N_is_less (h.1, (1 : Int)) held_19)) ((some false).bind fun v22 => some (.inl v22)) (some (.inr held_19)))))
section
variable {h : HouseT} {ps : List Int}
theorem zH_go (H : HouseIn h ps) : ∀ (U D : List Q2) (us ds : List Rat) (q : Q2) (v : Rat) (b : Nat), IsL 100 U us → IsL 100 D ds → Is b q v → b + 210 * us.length ≤ 8000 → PT (h.1 : Rat) (h.2.1 : Rat) (h.2.2.1 : Rat) v us ds →
    ∃ r, foldJ (zH h) (List.zip U D) q = some (.inr r)
  | [], [], [], [], q, v, b, _, _, _, _, _ => ⟨q, rfl⟩
  | x :: U, y :: D, u :: us, d :: ds, q, v, b, hU, hD, hq, hb, ⟨t1, t2, t3, t4, t5, t6, t7⟩ => by
    rw [List.length_cons] at hb
    have c0' := H.c0; have c1 := H.c1; have u0 := H.u0; have u1 := H.u1; have v0 := H.v0; have v1 := H.v1
    have Ci : Is 10 (h.1, (1 : Int)) (h.1 : Rat) := is_int (by omega) (by decide)
    have Ui : Is 10 (h.2.1, (1 : Int)) (h.2.1 : Rat) := is_int (by omega) (by decide)
    have Di : Is 10 (h.2.2.1, (1 : Int)) (h.2.2.1 : Rat) := is_int (by omega) (by decide)
    have z : ((0 : Int) : Rat) = 0 := rfl
    have Zi : Is 10 ((0 : Int), (1 : Int)) ((0 : Int) : Rat) := is_int (by decide) (by decide)
    rw [z] at Zi
    obtain ⟨w, w1, w2⟩ := pplus hq hU.1 (by omega)
    obtain ⟨l, l1, l2⟩ := pminus w2 hD.1 (by omega)
    obtain ⟨r, hr⟩ := zH_go H U D us ds l _ (b + 210) hU.2 hD.2 (l2.mono (by omega)) (by omega) t7
    have e : zH h (x, y) q = some (.inr l) := by
      unfold zH
      simp only [Option.bind_some]
      rw [w1]
      simp only [Option.bind_some]
      rw [l1]
      simp only [Option.bind_some]
      rw [pless Ui hU.1 (by decide), pless Di hD.1 (by decide), pless l2 Zi (by omega), pless Ci l2 (by omega), decide_eq_false (Rat.not_lt.mpr t2), decide_eq_false (Rat.not_lt.mpr t4), decide_eq_false (Rat.not_lt.mpr t5), decide_eq_false (Rat.not_lt.mpr t6)]
      rfl
    refine ⟨r, ?_⟩
    show (zH h (x, y) q).bind (thenJ (foldJ (zH h) (List.zip U D))) = _
    rw [e]
    exact hr
  | [], _, _ :: _, _, _, _, _, h, _, _, _, _ => h.elim
  | _ :: _, _, [], _, _, _, _, h, _, _, _, _ => h.elim
  | _, [], _, _ :: _, _, _, _, _, h, _, _, _ => h.elim
  | _, _ :: _, _, [], _, _, _, _, h, _, _, _ => h.elim
theorem is_pumping_ok (H : HouseIn h ps) {U D : List Q2} {us ds : List Rat} (hU : IsL 100 U us) (hD : IsL 100 D ds) (lU : us.length = ps.length) (t : PT (h.1 : Rat) (h.2.1 : Rat) (h.2.2.1 : Rat) 0 us ds) : N_is_pumping h (ps.length : Int) (U, D) = some true := by
  have l1 := H.l1
  obtain ⟨tl, tu, td⟩ := PT_len t
  have rU := row_true hU (fun x hx => (tu x hx).1) (m := ps.length) (by have := hU.len; omega)
  have rD := row_true hD (fun x hx => (td x hx).1) (m := ps.length) (by have := hD.len; omega)
  have z : ((0 : Int) : Rat) = 0 := rfl
  have Zi : Is 10 ((0 : Int), (1 : Int)) ((0 : Int) : Rat) := is_int (by decide) (by decide)
  rw [z] at Zi
  obtain ⟨r, hr⟩ := zH_go H U D us ds ((0 : Int), (1 : Int)) 0 10 hU hD Zi (by omega) t
  have ral : allO true (fun (i6 : (List (Int × Int))) => (N_is_row_of_ratios i6 (ps.length : Int))) [U, D] = some true := allO_true _ fun x hx => by
    simp only [List.mem_cons, List.not_mem_nil, or_false] at hx
    rcases hx with rfl | rfl
    · exact rU
    · exact rD
  unfold N_is_pumping
  rw [ral]
  show bindJ (foldJ (zH h) (List.zip U D) ((0 : Int), (1 : Int))) (fun s24 => some true) = _
  rw [hr]
  rfl
noncomputable def oH (h : HouseT) (i8 : Int × (Int × Int) × (Int × Int)) (s6 : Int × Int) : Option (Int × Int) := (((some i8.2.2).bind fun a11 => (N_times (i8.1, (1 : Int)) h.2.2.2).bind fun a12 => N_times a11 a12).bind fun brought_9 => (((some s6).bind fun a16 => ((some brought_9).bind fun a14 => (N_times i8.2.1 (i8.1, (1 : Int))).bind fun a15 => N_minus a14 a15).bind fun a17 => N_plus a16 a17).bind fun profit_13 => some profit_13))
theorem oH_go : ∀ (qs : List Int) (U D : List Q2) (us ds : List Rat) (q : Q2) (v : Rat) (b : Nat), HouseIn h ps → (∀ p ∈ qs, 0 ≤ p ∧ p ≤ 1000) → IsL 100 U us → IsL 100 D ds → us.length = qs.length → ds.length = qs.length → Is b q v → b + 240 * qs.length ≤ 8000 →
    ∃ r, foldO (oH h) (zip3 qs U D) q = some r ∧ Is (b + 240 * qs.length) r (v + prf (sig h) (psR qs) us ds)
  | [], [], [], [], [], q, v, b, _, _, _, _, _, _, hq, _ => ⟨q, rfl, by
    show Is (b + 240 * 0) q (v + 0)
    have e : v + 0 = v := by grind
    rw [e]
    exact hq⟩
  | p :: qs, x :: U, y :: D, u :: us, d :: ds, q, v, b, H, hp, hU, hD, h1, h2, hq, hb => by
    rw [List.length_cons] at hb
    have p0 := hp p List.mem_cons_self
    have pi : Is 10 (p, (1 : Int)) (p : Rat) := is_int (by omega) (by decide)
    have si : Is 7 h.2.2.2 (sig h) := ⟨H.sz, rfl⟩
    obtain ⟨a, a1, a2⟩ := ptimes pi si (by decide)
    obtain ⟨c, c1, c2⟩ := ptimes hD.1 a2 (by decide)
    obtain ⟨e, e1, e2⟩ := ptimes hU.1 pi (by decide)
    obtain ⟨f, f1, f2⟩ := pminus c2 e2 (by decide)
    obtain ⟨g, g1, g2⟩ := pplus hq f2 (by omega)
    obtain ⟨r, r1, r2⟩ := oH_go qs U D us ds g _ (b + 240) H (fun z hz => hp z (List.mem_cons_of_mem _ hz)) hU.2 hD.2 (by simpa using h1) (by simpa using h2) (g2.mono (by omega)) (by omega)
    have st : oH h (p, x, y) q = some g := by
      unfold oH
      simp only [Option.bind_some]
      rw [a1]
      simp only [Option.bind_some]
      rw [c1]
      simp only [Option.bind_some]
      rw [e1]
      simp only [Option.bind_some]
      rw [f1]
      simp only [Option.bind_some]
      rw [g1]
      rfl
    refine ⟨r, ?_, ?_⟩
    · show foldO (oH h) ((p, x, y) :: zip3 qs U D) q = _
      rw [foldO_cons, st, Option.bind_some]
      exact r1
    · have ev : v + prf (sig h) (psR (p :: qs)) (u :: us) (d :: ds) = v + (d * ((p : Rat) * sig h) - u * (p : Rat)) + prf (sig h) (psR qs) us ds := by
        show v + ((p : Rat) * (sig h * d - u) + prf (sig h) (psR qs) us ds) = _
        grind
      rw [ev, List.length_cons, Nat.mul_succ]
      exact r2.mono (by omega)
  | [], _, _, _ :: _, _, _, _, _, _, _, _, _, h, _, _, _ => by simp at h
  | _ :: _, _, _, [], _, _, _, _, _, _, _, _, h, _, _, _ => by simp at h
  | [], _, _, [], _ :: _, _, _, _, _, _, _, _, _, h, _, _ => by simp at h
  | _ :: _, _, _, _ :: _, [], _, _, _, _, _, _, _, _, h, _, _ => by simp at h
  | [], _ :: _, _, [], [], _, _, _, _, _, h, _, _, _, _, _ => h.elim
  | [], [], _ :: _, [], [], _, _, _, _, _, _, h, _, _, _, _ => h.elim
  | _ :: _, [], _, _ :: _, _ :: _, _, _, _, _, _, h, _, _, _, _, _ => h.elim
  | _ :: _, _ :: _, [], _ :: _, _ :: _, _, _, _, _, _, _, h, _, _, _, _ => h.elim
theorem profit_of_is (H : HouseIn h ps) {U D : List Q2} {us ds : List Rat} (hU : IsL 100 U us) (hD : IsL 100 D ds) (lU : us.length = ps.length) (lD : ds.length = ps.length) : ∃ r, N_profit_of h ps (U, D) = some r ∧ Is 2000 r (prf (sig h) (psR ps) us ds) := by
  have l1 := H.l1
  have z : ((0 : Int) : Rat) = 0 := rfl
  have Zi : Is 10 ((0 : Int), (1 : Int)) ((0 : Int) : Rat) := is_int (by decide) (by decide)
  rw [z] at Zi
  obtain ⟨r, r1, r2⟩ := oH_go ps U D us ds ((0 : Int), (1 : Int)) 0 10 H H.p hU hD lU lD Zi (by omega)
  have e : (0 : Rat) + prf (sig h) (psR ps) us ds = prf (sig h) (psR ps) us ds := by grind
  rw [e] at r2
  refine ⟨r, ?_, r2.mono (by omega)⟩
  unfold N_profit_of
  rw [Option.bind_some]
  exact bindE r1 rfl
theorem shows_pumping_ok (H : HouseIn h ps) {U D : List Q2} {us ds : List Rat} (hU : IsL 100 U us) (hD : IsL 100 D ds) (lU : us.length = ps.length) (t : PT (h.1 : Rat) (h.2.1 : Rat) (h.2.2.1 : Rat) 0 us ds) (e : prf (sig h) (psR ps) us ds = pi' h ps) : N_shows_pumping h ps (U, D) = some true := by
  obtain ⟨tl, _, _⟩ := PT_len t
  obtain ⟨r, r1, r2⟩ := profit_is H
  obtain ⟨q, q1, q2⟩ := profit_of_is H hU hD lU (by omega)
  rw [e] at q2
  have eq := q2.uniq r2
  unfold N_shows_pumping
  rw [r1, Option.bind_some, is_pumping_ok H hU hD lU t, q1, Option.bind_some, Option.bind_some, eq, decide_eq_true rfl]
  rfl
end
def LeL : List Int → List Int → Prop
  | x :: r, y :: t => x ≤ y ∧ LeL r t
  | [], [] => True
  | _, _ => False
theorem LeL.refl : ∀ xs : List Int, LeL xs xs
  | [] => trivial
  | x :: r => ⟨Int.le_refl x, LeL.refl r⟩
theorem iteF {α : Type} {c : Option Bool} {A B r : Option α} (h : c = some false) (g : B = r) : iteO c A B = r := by rw [h]; exact g
theorem iteT {α : Type} {c : Option Bool} {A B r : Option α} (h : c = some true) (g : A = r) : iteO c A B = r := by rw [h]; exact g
end Ty
namespace L94
open PySem PySem.Spec PyProof.Rows L2 DN Ty
theorem iteF {α : Type} {c : Option Bool} {A B r : Option α} (h : c = some false) (g : B = r) : iteO c A B = r := by rw [h]; exact g
theorem zero_is {n : Nat} {p : Q2} (h : Is n p 0) : p = ((0 : Int), (1 : Int)) := h.uniq (m := 1) (by
  have z : ((0 : Int) : Rat) = 0 := rfl
  rw [← z]
  exact is_int (by decide) (by decide))
section
variable {h : HouseT} {ps : List Int}
theorem profit_zero (H : HouseIn h ps) (e : pi' h ps = 0) : N_pump_profit h ps = some ((0 : Int), (1 : Int)) := by
  obtain ⟨r, r1, r2⟩ := profit_is H
  rw [e] at r2
  rw [r1, zero_is r2]
theorem HouseIn.of (H : HouseIn h ps) {qs : List Int} (hp : ∀ p ∈ qs, 0 ≤ p ∧ p ≤ 1000) (l0 : 0 < qs.length) (l1 : qs.length ≤ 6) : HouseIn h qs := ⟨H.c0, H.c1, H.u0, H.u1, H.v0, H.v1, H.s0, H.s1, H.s2, H.sz, hp, l0, l1⟩
theorem ovR_neg {a b : Rat} (h : a ≤ b) : ovR a b = 0 := by
  unfold ovR
  rw [if_neg (by grind)]
theorem sig_mul (H : HouseIn h ps) {p : Rat} (p0 : 0 ≤ p) : 0 ≤ sig h * p ∧ sig h * p ≤ p := by
  obtain ⟨a, b⟩ := sig_in H
  have c := Rat.mul_nonneg a p0
  have d := Rat.mul_le_mul_of_nonneg_right b p0
  grind
theorem fall_bd (H : HouseIn h ps) : ∀ (qs : List Int), (∀ q ∈ qs, 0 ≤ q) → qs.Pairwise (fun a b => b ≤ a) → bdP (h.1 : Rat) (h.2.1 : Rat) (h.2.2.1 : Rat) (sig h) (psR qs) (psR qs) = 0
  | [], _, _ => rfl
  | [p], hp, _ => by
    have p0 := c0 (hp p List.mem_cons_self)
    obtain ⟨_, s2⟩ := sig_mul H p0
    show (h.2.1 : Rat) * ovR (p : Rat) (p : Rat) + (h.2.2.1 : Rat) * ovR (sig h * (p : Rat)) (p : Rat) + (h.1 : Rat) * 0 + 0 = 0
    rw [ovR_neg Rat.le_refl, ovR_neg s2]
    grind
  | p :: q :: qs, hp, hd => by
    have p0 := c0 (hp p List.mem_cons_self)
    obtain ⟨_, s2⟩ := sig_mul H p0
    have i := fall_bd H (q :: qs) (fun x hx => hp x (List.mem_cons_of_mem _ hx)) hd.tail
    have d : (q : Rat) ≤ (p : Rat) := Rat.intCast_le_intCast.mpr (List.rel_of_pairwise_cons hd List.mem_cons_self)
    show (h.2.1 : Rat) * ovR (p : Rat) (p : Rat) + (h.2.2.1 : Rat) * ovR (sig h * (p : Rat)) (p : Rat) + (h.1 : Rat) * ovR (q : Rat) (p : Rat) + bdP (h.1 : Rat) (h.2.1 : Rat) (h.2.2.1 : Rat) (sig h) (psR (q :: qs)) (psR (q :: qs)) = 0
    rw [i, ovR_neg Rat.le_refl, ovR_neg s2, ovR_neg d]
    grind
theorem fall_zero (H : HouseIn h ps) (hd : ps.Pairwise (fun a b => b ≤ a)) : pi' h ps = 0 := by
  have b := fall_bd H ps (fun q hq => (H.p q hq).1) hd
  have := bound_most H (vs := psR ps) (fun v hv => (psR_in H v hv).1) psR_len
  rw [b] at this
  exact Rat.le_antisymm this (most_nonneg H)
theorem PT_mono {C up dn C' up' dn' : Rat} (c : C ≤ C') (u : up ≤ up') (d : dn ≤ dn') : ∀ {us ds : List Rat} {g : Rat}, PT C up dn g us ds → PT C' up' dn' g us ds
  | [], [], _, _ => trivial
  | x :: us, y :: ds, g, ⟨a1, a2, a3, a4, a5, a6, t⟩ => ⟨a1, Rat.le_trans a2 u, a3, Rat.le_trans a4 d, a5, Rat.le_trans a6 c, PT_mono c u d t⟩
  | [], _ :: _, _, t => t.elim
  | _ :: _, [], _, t => t.elim
theorem prf_mono {C up dn σ σ' : Rat} (s : σ ≤ σ') : ∀ (ps us ds : List Rat) (g : Rat), (∀ p ∈ ps, 0 ≤ p) → PT C up dn g us ds → prf σ ps us ds ≤ prf σ' ps us ds
  | [], us, ds, _, _, _ => by cases us <;> cases ds <;> exact Rat.le_refl
  | p :: ps, [], [], _, _, _ => Rat.le_refl
  | p :: ps, u :: us, d :: ds, g, hp, ⟨_, _, d0, _, _, _, t⟩ => by
    have i := prf_mono s ps us ds _ (fun x hx => hp x (List.mem_cons_of_mem _ hx)) t
    have p0 := hp p List.mem_cons_self
    have a := Rat.mul_le_mul_of_nonneg_right s d0
    have b := Rat.mul_le_mul_of_nonneg_left a p0
    show p * (σ * d - u) + prf σ ps us ds ≤ p * (σ' * d - u) + prf σ' ps us ds
    grind
  | p :: ps, [], _ :: _, _, _, t => t.elim
  | p :: ps, _ :: _, [], _, _, t => t.elim
theorem more_house (H : HouseIn h ps) {h' : HouseT} (H' : HouseIn h' ps) (c : h.1 ≤ h'.1) (u : h.2.1 ≤ h'.2.1) (d : h.2.2.1 ≤ h'.2.2.1) (s : sig h ≤ sig h') : pi' h ps ≤ pi' h' ps := by
  have W := pump_w H
  have a := prf_mono s (psR ps) _ _ 0 (fun p hp => (psR_in H p hp).1) W.pt
  have ul : (usR h (rsH h ps)).length = ps.length := by
    obtain ⟨_, _, ul, _⟩ := slP_nn W.sl
    rw [ul, psR_len]
  have b := most_is H' (us := usR h (rsH h ps)) (ds := dsR h (rsH h ps)) (PT_mono (Rat.intCast_le_intCast.mpr c) (Rat.intCast_le_intCast.mpr u) (Rat.intCast_le_intCast.mpr d) W.pt) ul
  exact Rat.le_trans a b
theorem no_room {up dn σ : Rat} (s : σ ≤ 1) : ∀ (ps us ds : List Rat), (∀ p ∈ ps, 0 ≤ p) → PT 0 up dn 0 us ds → prf σ ps us ds ≤ 0
  | [], us, ds, _, _ => by cases us <;> cases ds <;> exact Rat.le_refl
  | p :: ps, [], [], _, _ => Rat.le_refl
  | p :: ps, u :: us, d :: ds, hp, ⟨u0, _, d0, _, l0, l1, t⟩ => by
    have e : (0 : Rat) + u - d = 0 := Rat.le_antisymm l1 l0
    rw [e] at t
    have i := no_room s ps us ds (fun x hx => hp x (List.mem_cons_of_mem _ hx)) t
    have p0 := hp p List.mem_cons_self
    have a := Rat.mul_le_mul_of_nonneg_right s d0
    have b : σ * d - u ≤ 0 := by grind
    have g := Rat.mul_le_mul_of_nonneg_left b p0
    show p * (σ * d - u) + prf σ ps us ds ≤ 0
    grind
  | p :: ps, [], _ :: _, _, t => t.elim
  | p :: ps, _ :: _, [], _, t => t.elim
theorem PT_more {C up dn : Rat} (u0 : 0 ≤ up) (d0 : 0 ≤ dn) : ∀ {us ds : List Rat} {g : Rat}, 0 ≤ g → g ≤ C → PT C up dn g us ds → PT C up dn g (us ++ [0]) (ds ++ [0])
  | [], [], g, g0, g1, _ => by
    refine ⟨Rat.le_refl, u0, Rat.le_refl, d0, ?_, ?_, trivial⟩ <;> grind
  | x :: us, y :: ds, g, _, _, ⟨a1, a2, a3, a4, a5, a6, t⟩ => ⟨a1, a2, a3, a4, a5, a6, PT_more u0 d0 a5 a6 t⟩
  | [], _ :: _, _, _, _, t => t.elim
  | _ :: _, [], _, _, _, t => t.elim
theorem prf_more {σ q : Rat} : ∀ (ps us ds : List Rat), us.length = ps.length → ds.length = ps.length → prf σ (ps ++ [q]) (us ++ [0]) (ds ++ [0]) = prf σ ps us ds
  | [], [], [], _, _ => by
    show q * (σ * 0 - 0) + 0 = 0
    grind
  | p :: ps, u :: us, d :: ds, h1, h2 => by
    have i := prf_more (σ := σ) (q := q) ps us ds (by simpa using h1) (by simpa using h2)
    show p * (σ * d - u) + prf σ (ps ++ [q]) (us ++ [0]) (ds ++ [0]) = p * (σ * d - u) + prf σ ps us ds
    rw [i]
  | [], _ :: _, _, h, _ => by simp at h
  | [], [], _ :: _, _, h => by simp at h
  | _ :: _, [], _, h, _ => by simp at h
  | _ :: _, _ :: _, [], _, h => by simp at h
theorem last_up {C up dn σ p0 p1 : Rat} (hu : 0 ≤ up) (s0 : 0 ≤ σ) (s1 : σ ≤ 1) (z : 0 ≤ p0) (le : p0 ≤ p1) : ∀ (ps us ds : List Rat) (g : Rat), 0 ≤ g → g ≤ C → PT C up dn g us ds → us.length = ps.length + 1 → ∃ us' ds', PT C up dn g us' ds' ∧ us'.length = us.length ∧ prf σ (ps ++ [p0]) us ds ≤ prf σ (ps ++ [p1]) us' ds'
  | [], [u], [d], g, g0, g1, ⟨a1, a2, a3, a4, a5, a6, _⟩, _ => by
    by_cases c : u ≤ d
    · have w : (0 : Rat) ≤ d - u := by grind
      have k1 : σ * u ≤ 1 * u := Rat.mul_le_mul_of_nonneg_right s1 a1
      have k2 : p0 * (σ * d - u) ≤ p0 * (σ * (d - u)) := Rat.mul_le_mul_of_nonneg_left (by grind) z
      have k3 : p0 * (σ * (d - u)) ≤ p1 * (σ * (d - u)) := Rat.mul_le_mul_of_nonneg_right le (Rat.mul_nonneg s0 w)
      refine ⟨[0], [d - u], ⟨Rat.le_refl, hu, w, by grind, by grind, by grind, trivial⟩, rfl, ?_⟩
      show p0 * (σ * d - u) + 0 ≤ p1 * (σ * (d - u) - 0) + 0
      have e : σ * (d - u) - 0 = σ * (d - u) := by grind
      rw [e]
      grind
    · have k1 : σ * d ≤ 1 * d := Rat.mul_le_mul_of_nonneg_right s1 a3
      have k2 : p0 * (σ * d - u) ≤ p0 * 0 := Rat.mul_le_mul_of_nonneg_left (by grind) z
      refine ⟨[0], [0], ⟨Rat.le_refl, hu, Rat.le_refl, by grind, by grind, by grind, trivial⟩, rfl, ?_⟩
      show p0 * (σ * d - u) + 0 ≤ p1 * (σ * 0 - 0) + 0
      grind
  | p :: ps, u :: us, d :: ds, g, _, _, ⟨a1, a2, a3, a4, a5, a6, t⟩, hl => by
    obtain ⟨us', ds', t', l', e'⟩ := last_up hu s0 s1 z le ps us ds _ a5 a6 t (by simpa using hl)
    refine ⟨u :: us', d :: ds', ⟨a1, a2, a3, a4, a5, a6, t'⟩, by rw [List.length_cons, l', List.length_cons], ?_⟩
    show p * (σ * d - u) + prf σ (ps ++ [p0]) us ds ≤ p * (σ * d - u) + prf σ (ps ++ [p1]) us' ds'
    grind
  | [], [], _, _, _, _, _, h => by simp at h
  | [], _ :: _ :: _, _, _, _, _, _, h => by simp at h
  | [], [_], [], _, _, _, t, _ => t.elim
  | [], [_], _ :: _ :: _, _, _, _, ⟨_, _, _, _, _, _, t⟩, _ => t.elim
  | _ :: _, [], _, _, _, _, _, h => by simp at h
  | _ :: _, _ :: _, [], _, _, _, t, _ => t.elim
theorem PT_sum {C up dn : Rat} : ∀ {us ds : List Rat} {g : Rat}, 0 ≤ g → PT C up dn g us ds → ds.sum ≤ g + us.sum
  | [], [], g, g0, _ => by show (0 : Rat) ≤ g + 0; grind
  | u :: us, d :: ds, g, _, ⟨_, _, _, _, a5, _, t⟩ => by
    have i := PT_sum a5 t
    rw [List.sum_cons, List.sum_cons]
    grind
  | [], _ :: _, _, _, t => t.elim
  | _ :: _, [], _, _, t => t.elim
theorem psR_app (l m : List Int) : psR (l ++ m) = psR l ++ psR m := by
  unfold psR
  rw [List.map_append]
theorem sum_ok {l : List Q2} {vs : List Rat} (hl : IsL 20 l vs) (ll : l.length ≤ 20) : ∃ q, N__law_sum l = some q ∧ Is 8000 q vs.sum := by
  have zi : Is 4 ((0 : Int), (1 : Int)) ((0 : Int) : Rat) := is_int (by decide) (by decide)
  obtain ⟨m, m1, m2⟩ := sumL_is _ _ ((0 : Int), (1 : Int)) _ 4 (hl.mono (by decide)) zi (by omega)
  have z : ((0 : Int) : Rat) = 0 := rfl
  have e : (0 : Rat) + vs.sum = vs.sum := by grind
  rw [z, e] at m2
  exact ⟨m, by unfold N__law_sum; rw [Option.bind_some]; exact bindE m1 rfl, m2⟩
theorem less_no (H : HouseIn h ps) {h' : HouseT} {qs : List Int} (H' : HouseIn h' qs) (e : pi' h ps ≤ pi' h' qs) : ∃ r r', N_pump_profit h ps = some r ∧ Is 60 r (pi' h ps) ∧ N_pump_profit h' qs = some r' ∧ N__law_less r' r = some false := by
  obtain ⟨r, r1, r2⟩ := profit_is H
  obtain ⟨s, s1, s2⟩ := profit_is H'
  exact ⟨r, s, r1, r2, s1, by rw [lless s2 r2 (by decide), decide_eq_false (Rat.not_lt.mpr e)]⟩
theorem cut_last {α : Type} (l : List α) : cutT l none (some (-(1 : Int))) = l.dropLast := by
  show (l.drop 0).take ((if (-(1 : Int)) < 0 then (-(1 : Int) + (l.length : Int)).toNat else min (-(1 : Int)).toNat l.length) - 0) = _
  rw [if_pos (by decide), List.drop_zero, Nat.sub_zero, List.dropLast_eq_take]
  congr 1
  omega
theorem wfor_all {α : Type} {Bd : α → Unit → (Unit → Prop) → Prop} : ∀ (l : List α) (K : Unit → Prop), (∀ x ∈ l, ∀ K' : Unit → Prop, K' () → Bd x () K') → K () → wfor Bd l () K
  | [], K, _, k => k
  | x :: l, K, h, k => h x List.mem_cons_self _ (wfor_all l K (fun y hy => h y (List.mem_cons_of_mem _ hy)) k)
theorem tail_ok {r : Q2} (H : HouseIn h ps) (Dp : ∀ p ∈ ps, p ≤ 39) (r1 : N_pump_profit h ps = some r) (r2 : Is 60 r (pi' h ps)) : N_tail h ps r = some true := by
  have W := pump_w H
  have l0 := H.l0; have l1 := H.l1
  have u0 := H.u0; have v0 := H.v0; have hc0 := H.c0
  obtain ⟨iu, id'⟩ := plan_isl H
  obtain ⟨lu, ld⟩ := uq_len H
  obtain ⟨vn, vl, ul, dl⟩ := slP_nn W.sl
  have ul' : (usR h (rsH h ps)).length = ps.length := by rw [ul, psR_len]
  obtain ⟨g0, g1⟩ := sig_in H
  have ur : (0 : Rat) ≤ (h.2.1 : Rat) := c0 (by omega)
  have cr : (0 : Rat) ≤ (h.1 : Rat) := c0 H.c0
  have ne : ps ≠ [] := fun z => by rw [z] at l0; simp at l0
  obtain ⟨init, last, rfl⟩ : ∃ init last, ps = init ++ [last] := ⟨ps.dropLast, ps.getLast ne, (List.dropLast_concat_getLast ne).symm⟩
  have lp := H.p last (by simp)
  have ln : (init ++ [last]).length = init.length + 1 := by simp
  have ct : cutT (init ++ [last]) none (some (-(1 : Int))) = init := by
    rw [cut_last, List.dropLast_concat]
  have al : atI (init ++ [last]) (-(1 : Int)) = some last := by
    exact Ty.atI_last _ _
  have mi : min2 (1000 : Int) (last + 5) = last + 5 := by
    have := Dp last (by simp)
    show (if last + 5 < 1000 then last + 5 else 1000) = last + 5
    rw [if_pos (by omega)]
  have ca : catO init [last + 5] = some (init ++ [last + 5]) := by
    unfold catO
    rw [if_pos (by rw [ln] at l1; simp; omega)]
  have mH : HouseIn h (init ++ [last + 5]) := HouseIn.of H (fun p hp => by
    rcases List.mem_append.mp hp with q | q
    · exact H.p p (List.mem_append_left _ q)
    · have := Dp last (by simp)
      simp only [List.mem_cons, List.not_mem_nil, or_false] at q
      omega) (by simp) (by rw [ln] at l1; simpa using l1)
  have le : pi' h (init ++ [last]) ≤ pi' h (init ++ [last + 5]) := by
    have e1 : psR (init ++ [last]) = psR init ++ [(last : Rat)] := psR_app _ _
    have e2 : psR (init ++ [last + 5]) = psR init ++ [((last + 5 : Int) : Rat)] := psR_app _ _
    obtain ⟨us', ds', t, l, e⟩ := last_up (p0 := (last : Rat)) (p1 := ((last + 5 : Int) : Rat)) ur g0 g1 (c0 lp.1) (Rat.intCast_le_intCast.mpr (by omega)) (psR init) _ _ 0 Rat.le_refl cr W.pt (by rw [ul', psR_len, ln])
    have k := most_is mH t (by rw [l, ul', ln]; simp)
    rw [e2] at k
    refine Rat.le_trans ?_ k
    show prf (sig h) (psR (init ++ [last])) _ _ ≤ _
    rw [e1]
    exact e
  obtain ⟨x, y, x1, x2, y1, y2⟩ := less_no H mH le
  have xr : x = r := Option.some.inj (x1.symm.trans r1)
  rw [xr] at y2
  have sp := shows_pumping_ok H (iu.mono (by decide)) (id'.mono (by decide)) ul' W.pt rfl
  obtain ⟨a, a1, a2⟩ := sum_ok iu (by rw [lu]; omega)
  obtain ⟨b, b1, b2⟩ := sum_ok id' (by rw [ld]; omega)
  have sm := PT_sum Rat.le_refl W.pt
  have sn : ¬ (usR h (rsH h (init ++ [last]))).sum < (dsR h (rsH h (init ++ [last]))).sum := by grind
  obtain ⟨p, qs, e⟩ : ∃ p qs, init ++ [last] = p :: qs := by
    cases q : init ++ [last] with
    | nil => exact absurd q ne
    | cons p qs => exact ⟨p, qs, rfl⟩
  have pp := H.p p (by rw [e]; exact List.mem_cons_self)
  have a0 : atI (init ++ [last]) (0 : Int) = some p := by
    rw [e]
    exact Ty.atI_nat (l := p :: qs) (i := 0) (by rw [List.length_cons]; omega)
  have rp : repO ([p]) ((init ++ [last]).length : Int) = some (List.replicate (init ++ [last]).length p) := by
    unfold repO
    rw [if_pos ⟨by simp, by omega, by omega, by simp⟩, show ((((init ++ [last]).length : Nat) : Int)).toNat = (init ++ [last]).length by omega, rep_one]
  have sH : HouseIn h (List.replicate (init ++ [last]).length p) := HouseIn.of H (fun x hx => by rw [(List.mem_replicate.mp hx).2]; exact pp) (by rw [List.length_replicate]; exact l0) (by rw [List.length_replicate]; exact l1)
  have sz := profit_zero sH (fall_zero sH (by
    rw [List.pairwise_replicate]
    exact .inr (Int.le_refl _)))
  have m0 := most_nonneg H
  have zi : Is 4 ((0 : Int), (1 : Int)) ((0 : Int) : Rat) := is_int (by decide) (by decide)
  have z : ((0 : Int) : Rat) = 0 := rfl
  unfold N_tail
  rw [Option.bind_some, Option.bind_some, al, Option.bind_some, Option.bind_some, Option.bind_some, mi, Option.bind_some, Option.bind_some, ct, ca, Option.bind_some]
  refine iteF (by rw [y1]; exact y2) (bindE (pump_plan_is H) (iteF ?_ ?_))
  · rw [show N_shows_pumping h (init ++ [last]) _ = some true from sp]
    show orO (some false) ((N__law_sum (uq h (init ++ [last]))).bind fun a82 => (N__law_sum (dq h (init ++ [last]))).bind fun a83 => N__law_less a82 a83) = _
    rw [a1, b1, Option.bind_some, Option.bind_some, lless a2 b2 (by decide), decide_eq_false sn]
    rfl
  · rw [a0, Option.bind_some, Option.bind_some, Option.bind_some, rp, Option.bind_some, sz]
    show andO (some (decide (((0 : Int), (1 : Int)) = ((0 : Int), (1 : Int))))) ((N__law_less r ((0 : Int), (1 : Int))).bind fun b94 => some (!b94)) = _
    rw [lless r2 zi (by decide), decide_eq_true rfl, z, decide_eq_false (Rat.not_lt.mpr m0)]
    rfl
theorem TheLaw : Law := by
  intro h ps D
  have H := D.w
  have W := pump_w H
  have l0 := H.l0; have l1 := H.l1
  have u0 := H.u0; have v0 := H.v0; have hc0 := H.c0; have hc := D.c; have hu := D.u; have hv := D.v
  obtain ⟨r, r1, r2⟩ := profit_is H
  obtain ⟨vn, vl, ul, dl⟩ := slP_nn W.sl
  have ul' : (usR h (rsH h ps)).length = ps.length := by rw [ul, psR_len]
  have dl' : (dsR h (rsH h ps)).length = ps.length := by rw [dl, psR_len]
  have T := tail_ok H D.p r1 r2
  have wm : min2 (1000 : Int) (h.1 + (3 : Int)) = h.1 + 3 := by
    show (if h.1 + 3 < 1000 then h.1 + 3 else 1000) = h.1 + 3
    rw [if_pos (by omega)]
  have so : sig (h.1, h.2.1, h.2.2.1, ((1 : Int), (1 : Int))) = 1 := by
    show val ((1 : Int), (1 : Int)) = 1
    decide +kernel
  refine ⟨r, r1, _, rfl, wfor_all _ _ (fun g hg K k => ?_) ?_⟩
  · have G : HouseIn g ps ∧ pi' h ps ≤ pi' g ps := by
      simp only [List.mem_cons, List.not_mem_nil, or_false] at hg
      rcases hg with rfl | rfl | rfl | rfl
      · have A : HouseIn (min2 (1000 : Int) (h.1 + (3 : Int)), h.2.1, h.2.2.1, h.2.2.2) ps := ⟨by show 0 ≤ min2 (1000 : Int) (h.1 + (3 : Int)); rw [wm]; omega, by show min2 (1000 : Int) (h.1 + (3 : Int)) ≤ 1000; rw [wm]; omega, H.u0, H.u1, H.v0, H.v1, H.s0, H.s1, H.s2, H.sz, H.p, l0, l1⟩
        exact ⟨A, more_house H A (by show h.1 ≤ min2 (1000 : Int) (h.1 + (3 : Int)); rw [wm]; omega) (Int.le_refl _) (Int.le_refl _) Rat.le_refl⟩
      · have A : HouseIn (h.1, h.2.1 + 1, h.2.2.1, h.2.2.2) ps := ⟨H.c0, H.c1, by show 1 ≤ h.2.1 + 1; omega, by show h.2.1 + 1 ≤ 1000; omega, H.v0, H.v1, H.s0, H.s1, H.s2, H.sz, H.p, l0, l1⟩
        exact ⟨A, more_house H A (Int.le_refl _) (by show h.2.1 ≤ h.2.1 + 1; omega) (Int.le_refl _) Rat.le_refl⟩
      · have A : HouseIn (h.1, h.2.1, h.2.2.1 + 1, h.2.2.2) ps := ⟨H.c0, H.c1, H.u0, H.u1, by show 1 ≤ h.2.2.1 + 1; omega, by show h.2.2.1 + 1 ≤ 1000; omega, H.s0, H.s1, H.s2, H.sz, H.p, l0, l1⟩
        exact ⟨A, more_house H A (Int.le_refl _) (Int.le_refl _) (by show h.2.2.1 ≤ h.2.2.1 + 1; omega) Rat.le_refl⟩
      · have A : HouseIn (h.1, h.2.1, h.2.2.1, ((1 : Int), (1 : Int))) ps := ⟨H.c0, H.c1, H.u0, H.u1, H.v0, H.v1, by show (0 : Int) < 1; decide, by show (1 : Int) ≤ 1; decide, by show (1 : Int) ≤ 100; decide, (show Sz 7 ((1 : Int), (1 : Int)) from ⟨by decide, by decide, by decide, by decide⟩), H.p, l0, l1⟩
        exact ⟨A, more_house H A (Int.le_refl _) (Int.le_refl _) (Int.le_refl _) (by rw [so]; exact (sig_in H).2)⟩
    obtain ⟨x, y, x1, _, y1, y2⟩ := less_no H G.1 G.2
    have xr : x = r := Option.some.inj (x1.symm.trans r1)
    rw [xr] at y2
    refine ⟨false, ?_, (fun z => nomatch z), fun _ => k⟩
    show ((N_pump_profit g ps).bind fun a19 => (some r).bind fun a20 => N__law_less a19 a20) = _
    rw [y1]
    exact y2
  · have zH : HouseIn ((0 : Int), h.2.1, h.2.2.1, h.2.2.2) ps := ⟨Int.le_refl _, by show (0 : Int) ≤ 1000; decide, H.u0, H.u1, H.v0, H.v1, H.s0, H.s1, H.s2, H.sz, H.p, l0, l1⟩
    have ze : pi' ((0 : Int), h.2.1, h.2.2.1, h.2.2.2) ps = 0 := by
      refine Rat.le_antisymm ?_ (most_nonneg zH)
      have t := (pump_w zH).pt
      exact no_room (sig_in zH).2 _ _ _ (fun p hp => (psR_in H p hp).1) t
    refine ⟨false, ?_, (fun z => nomatch z), fun _ => ⟨_, rfl, fun lt s s0 s1 => ?_, fun _ => T⟩⟩
    · show ((N_pump_profit ((0 : Int), h.2.1, h.2.2.1, h.2.2.2) ps).bind fun x30 => (some ((0 : Int), (1 : Int))).bind fun y31 => some (!decide (x30 = y31))) = _
      rw [profit_zero zH ze]
      rfl
    · have lt' : ((ps.length : Nat) : Int) < 6 := of_decide_eq_true lt
      have mH : HouseIn h (ps ++ [s]) := HouseIn.of H (fun p hp => by
        rcases List.mem_append.mp hp with q | q
        · exact H.p p q
        · simp only [List.mem_cons, List.not_mem_nil, or_false] at q
          omega) (by simp) (by rw [List.length_append, List.length_singleton]; omega)
      have le : pi' h ps ≤ pi' h (ps ++ [s]) := by
        have t := PT_more (c0 (by omega)) (c0 (by omega)) Rat.le_refl (c0 H.c0) W.pt
        have k := most_is mH t (by rw [List.length_append, List.length_append, ul']; rfl)
        have e : psR (ps ++ [s]) = psR ps ++ [(s : Rat)] := psR_app _ _
        rw [e, prf_more _ _ _ ul dl] at k
        exact k
      obtain ⟨x, y, x1, _, y1, y2⟩ := less_no H mH le
      have xr : x = r := Option.some.inj (x1.symm.trans r1)
      rw [xr] at y2
      have ca : catO ps [s] = some (ps ++ [s]) := by
        unfold catO
        rw [if_pos (by simp; omega)]
      exact ⟨_, ca, y, y1, false, y2, (fun z => nomatch z), fun _ => T⟩
end
end L94
set_option maxHeartbeats 0
namespace L94
open PySem PySem.Spec PyProof.Rows L2 DN Ty
theorem facts {w : World} {K : PySem.W.Frag} {h : Heap} {mg : Str → Option Value} {f : Addr} (X : K.In h) (G : h.Ns mainGlobals mg) (hfa : mg ("law" : Str) = some (.ref f)) (c : He.SaysX fas fns [] tfs exs w h K) : LamX.LawAtS PySem.Challenge.rw_damworks_k94_across_more_pumping w K CX0 10 63 "script" mg f h := by
  have e := hfa.symm.trans (He.glo_ok X G (c.t.d.fact 39 (f := .glo "law") rfl))
  cases e
  have T : Txt K mg := ⟨He.free_ok X G (c.t.d.fact 40 (f := .free "abs") rfl), He.free_ok X G (c.t.d.fact 41 (f := .free "all") rfl), He.free_ok X G (c.t.d.fact 42 (f := .free "bool") rfl), He.free_ok X G (c.t.d.fact 43 (f := .free "int") rfl), He.free_ok X G (c.t.d.fact 44 (f := .free "isinstance") rfl), He.free_ok X G (c.t.d.fact 45 (f := .free "len") rfl), He.free_ok X G (c.t.d.fact 46 (f := .free "list") rfl), He.free_ok X G (c.t.d.fact 47 (f := .free "max") rfl), He.free_ok X G (c.t.d.fact 48 (f := .free "min") rfl), He.free_ok X G (c.t.d.fact 49 (f := .free "range") rfl), He.free_ok X G (c.t.d.fact 50 (f := .free "reversed") rfl), He.free_ok X G (c.t.d.fact 51 (f := .free "sorted") rfl), He.free_ok X G (c.t.d.fact 52 (f := .free "sum") rfl), He.free_ok X G (c.t.d.fact 53 (f := .free "tuple") rfl), He.free_ok X G (c.t.d.fact 54 (f := .free "zip") rfl), PySem.W.mg_of X G (He.eqO_ok (show He.eqO (PySem.W.nsIn K mainGlobals "gcd") (some (some (.builtin "math.gcd"))) = true from (Bool.and_eq_true_iff.mp c.more).1)), He.int_ok X G (c.t.d.fact 55 (f := .int "MOST_OF_SHARE" 100) rfl), He.int_ok X G (c.t.d.fact 56 (f := .int "MOST_PRICE" 1000) rfl), He.int_ok X G (c.t.d.fact 57 (f := .int "MOST_PRICES" 6) rfl), He.int_ok X G (c.t.d.fact 58 (f := .int "MOST_WATER" 1000) rfl)⟩
  obtain ⟨fd_is_whole, E_is_whole⟩ := c.t.d.def_ 0 (d := dd "is_whole" 6) rfl
  obtain ⟨cd_is_whole, D_is_whole⟩ := df_of (st := top 6) E_is_whole
  obtain ⟨fd_is_between, E_is_between⟩ := c.t.d.def_ 1 (d := dd "is_between" 7) rfl
  obtain ⟨cd_is_between, D_is_between⟩ := df_of (st := top 7) E_is_between
  obtain ⟨fd_is_row_between, E_is_row_between⟩ := c.t.d.def_ 2 (d := dd "is_row_between" 8) rfl
  have D_is_row_between := df_gen (st := top 8) E_is_row_between
  obtain ⟨fd_is_ratio, E_is_ratio⟩ := c.t.d.def_ 3 (d := dd "is_ratio" 9) rfl
  obtain ⟨cd_is_ratio, D_is_ratio⟩ := df_of (st := top 9) E_is_ratio
  obtain ⟨fd_is_row_of_ratios, E_is_row_of_ratios⟩ := c.t.d.def_ 4 (d := dd "is_row_of_ratios" 10) rfl
  have D_is_row_of_ratios := df_gen (st := top 10) E_is_row_of_ratios
  obtain ⟨fd_ratio, E_ratio⟩ := c.t.d.def_ 5 (d := dd "ratio" 11) rfl
  obtain ⟨cd_ratio, D_ratio⟩ := df_of (st := top 11) E_ratio
  obtain ⟨fd_plus, E_plus⟩ := c.t.d.def_ 6 (d := dd "plus" 12) rfl
  obtain ⟨cd_plus, D_plus⟩ := df_of (st := top 12) E_plus
  obtain ⟨fd_minus, E_minus⟩ := c.t.d.def_ 7 (d := dd "minus" 13) rfl
  obtain ⟨cd_minus, D_minus⟩ := df_of (st := top 13) E_minus
  obtain ⟨fd_times, E_times⟩ := c.t.d.def_ 8 (d := dd "times" 14) rfl
  obtain ⟨cd_times, D_times⟩ := df_of (st := top 14) E_times
  obtain ⟨fd_is_less, E_is_less⟩ := c.t.d.def_ 9 (d := dd "is_less" 15) rfl
  obtain ⟨cd_is_less, D_is_less⟩ := df_of (st := top 15) E_is_less
  obtain ⟨fd_part_of_steps, E_part_of_steps⟩ := c.t.d.def_ 10 (d := dd "part_of_steps" 17) rfl
  obtain ⟨cd_part_of_steps, D_part_of_steps⟩ := df_of (st := top 17) E_part_of_steps
  obtain ⟨fd_worth_on_curve, E_worth_on_curve⟩ := c.t.d.def_ 11 (d := dd "worth_on_curve" 18) rfl
  obtain ⟨cd_worth_on_curve, D_worth_on_curve⟩ := df_of (st := top 18) E_worth_on_curve
  obtain ⟨fd_uses_of_water, E_uses_of_water⟩ := c.t.d.def_ 12 (d := dd "uses_of_water" 19) rfl
  have D_uses_of_water := df_gen (st := top 19) E_uses_of_water
  obtain ⟨fd_curve_in_month, E_curve_in_month⟩ := c.t.d.def_ 13 (d := dd "curve_in_month" 20) rfl
  obtain ⟨cd_curve_in_month, D_curve_in_month⟩ := df_of (st := top 20) E_curve_in_month
  obtain ⟨fd_curve_before, E_curve_before⟩ := c.t.d.def_ 14 (d := dd "curve_before" 21) rfl
  obtain ⟨cd_curve_before, D_curve_before⟩ := df_of (st := top 21) E_curve_before
  obtain ⟨fd_curves_of_levels, E_curves_of_levels⟩ := c.t.d.def_ 15 (d := dd "curves_of_levels" 22) rfl
  obtain ⟨cd_curves_of_levels, D_curves_of_levels⟩ := df_of (st := top 22) E_curves_of_levels
  obtain ⟨fd_level_curves, E_level_curves⟩ := c.t.d.def_ 16 (d := dd "level_curves" 23) rfl
  obtain ⟨cd_level_curves, D_level_curves⟩ := df_of (st := top 23) E_level_curves
  obtain ⟨fd_greatest_worth, E_greatest_worth⟩ := c.t.d.def_ 17 (d := dd "greatest_worth" 24) rfl
  obtain ⟨cd_greatest_worth, D_greatest_worth⟩ := df_of (st := top 24) E_greatest_worth
  obtain ⟨fd_best_hold, E_best_hold⟩ := c.t.d.def_ 18 (d := dd "best_hold" 25) rfl
  obtain ⟨cd_best_hold, D_best_hold⟩ := df_of (st := top 25) E_best_hold
  obtain ⟨fd_best_levels, E_best_levels⟩ := c.t.d.def_ 19 (d := dd "best_levels" 26) rfl
  obtain ⟨cd_best_levels, D_best_levels⟩ := df_of (st := top 26) E_best_levels
  obtain ⟨fd_releases_between, E_releases_between⟩ := c.t.d.def_ 20 (d := dd "releases_between" 27) rfl
  obtain ⟨cd_releases_between, D_releases_between⟩ := df_of (st := top 27) E_releases_between
  obtain ⟨fd_best_releases, E_best_releases⟩ := c.t.d.def_ 21 (d := dd "best_releases" 28) rfl
  obtain ⟨cd_best_releases, D_best_releases⟩ := df_of (st := top 28) E_best_releases
  obtain ⟨fd_is_share, E_is_share⟩ := c.t.d.def_ 22 (d := dd "is_share" 34) rfl
  obtain ⟨cd_is_share, D_is_share⟩ := df_of (st := top 34) E_is_share
  obtain ⟨fd_is_house, E_is_house⟩ := c.t.d.def_ 23 (d := dd "is_house" 35) rfl
  obtain ⟨cd_is_house, D_is_house⟩ := df_of (st := top 35) E_is_house
  obtain ⟨fd_check_house_and_prices, E_check_house_and_prices⟩ := c.t.d.def_ 24 (d := dd "check_house_and_prices" 36) rfl
  obtain ⟨cd_check_house_and_prices, D_check_house_and_prices⟩ := df_of (st := top 36) E_check_house_and_prices
  obtain ⟨fd_like_dam, E_like_dam⟩ := c.t.d.def_ 25 (d := dd "like_dam" 37) rfl
  obtain ⟨cd_like_dam, D_like_dam⟩ := df_of (st := top 37) E_like_dam
  obtain ⟨fd_found_profit, E_found_profit⟩ := c.t.d.def_ 26 (d := dd "found_profit" 38) rfl
  obtain ⟨cd_found_profit, D_found_profit⟩ := df_of (st := top 38) E_found_profit
  obtain ⟨fd_pump_profit, E_pump_profit⟩ := c.t.d.def_ 27 (d := dd "pump_profit" 39) rfl
  obtain ⟨cd_pump_profit, D_pump_profit⟩ := df_of (st := top 39) E_pump_profit
  obtain ⟨fd_pump_plan, E_pump_plan⟩ := c.t.d.def_ 28 (d := dd "pump_plan" 40) rfl
  obtain ⟨cd_pump_plan, D_pump_plan⟩ := df_of (st := top 40) E_pump_plan
  obtain ⟨fd_is_pumping, E_is_pumping⟩ := c.t.d.def_ 29 (d := dd "is_pumping" 41) rfl
  have D_is_pumping := df_gen (st := top 41) E_is_pumping
  obtain ⟨fd_profit_of, E_profit_of⟩ := c.t.d.def_ 30 (d := dd "profit_of" 42) rfl
  obtain ⟨cd_profit_of, D_profit_of⟩ := df_of (st := top 42) E_profit_of
  obtain ⟨fd_shows_pumping, E_shows_pumping⟩ := c.t.d.def_ 31 (d := dd "shows_pumping" 43) rfl
  obtain ⟨cd_shows_pumping, D_shows_pumping⟩ := df_of (st := top 43) E_shows_pumping
  obtain ⟨fd__law_ratio, E__law_ratio⟩ := c.t.d.def_ 32 (d := dd "_law_ratio" 48) rfl
  obtain ⟨cd__law_ratio, D__law_ratio⟩ := df_of (st := top 48) E__law_ratio
  obtain ⟨fd__law_plus, E__law_plus⟩ := c.t.d.def_ 33 (d := dd "_law_plus" 49) rfl
  obtain ⟨cd__law_plus, D__law_plus⟩ := df_of (st := top 49) E__law_plus
  obtain ⟨fd__law_sum, E__law_sum⟩ := c.t.d.def_ 34 (d := dd "_law_sum" 51) rfl
  obtain ⟨cd__law_sum, D__law_sum⟩ := df_of (st := top 51) E__law_sum
  obtain ⟨fd__law_less, E__law_less⟩ := c.t.d.def_ 35 (d := dd "_law_less" 52) rfl
  obtain ⟨cd__law_less, D__law_less⟩ := df_of (st := top 52) E__law_less
  obtain ⟨fd__law_taken, E__law_taken⟩ := c.t.d.def_ 36 (d := dd "_law_taken" 45) rfl
  obtain ⟨cd__law_taken, D__law_taken⟩ := df_of (st := top 45) E__law_taken
  obtain ⟨fd__law_pick, E__law_pick⟩ := c.t.d.def_ 37 (d := dd "_law_pick" 46) rfl
  obtain ⟨cd__law_pick, D__law_pick⟩ := df_of (st := top 46) E__law_pick
  obtain ⟨fd__law_house, E__law_house⟩ := c.t.d.def_ 38 (d := dd "_law_house" 54) rfl
  obtain ⟨cd__law_house, D__law_house⟩ := df_of (st := top 54) E__law_house
  obtain ⟨fd_law, E_law⟩ := c.t.d.def_ 39 (d := dd "law" 59) rfl
  obtain ⟨cd_law, D_law⟩ := df_of (st := top 59) E_law
  obtain ⟨_, dis⟩ := Bool.and_eq_true_iff.mp c.more
  refine end_at2 (tg := tgs) (tl := tls) (of_decide_eq_true dis) (tf_ok X c) (FunD.bindsA (ps := ["script"]) E_law (fun _ _ _ _ _ _ us hl => match us, hl with | [_], _ => rfl)) fun base XB GB TB => ?_
  have tb_is_row_between := TB _ (List.mem_map_of_mem (f := He.cT K) (show (("is_row_between", none) : He.Defn) ∈ tfs by simp [tfs, tgs]))
  have tm_is_row_between : (He.cT K ("is_row_between", none)).2 ∈ (tgs.map (He.cT K)).map (·.2) := List.mem_map_of_mem (List.mem_map_of_mem (by simp [tgs]))
  have tb_is_row_of_ratios := TB _ (List.mem_map_of_mem (f := He.cT K) (show (("is_row_of_ratios", none) : He.Defn) ∈ tfs by simp [tfs, tgs]))
  have tm_is_row_of_ratios : (He.cT K ("is_row_of_ratios", none)).2 ∈ (tgs.map (He.cT K)).map (·.2) := List.mem_map_of_mem (List.mem_map_of_mem (by simp [tgs]))
  have tb_is_pumping := TB _ (List.mem_map_of_mem (f := He.cT K) (show (("is_pumping", none) : He.Defn) ∈ tfs by simp [tfs, tgs]))
  have tm_is_pumping : (He.cT K ("is_pumping", none)).2 ∈ (tgs.map (He.cT K)).map (·.2) := List.mem_map_of_mem (List.mem_map_of_mem (by simp [tgs]))
  have tb_uses_of_water := TB _ (List.mem_map_of_mem (f := He.cT K) (show (("uses_of_water", none) : He.Defn) ∈ tfs by simp [tfs, tls]))
  have tm_uses_of_water : ((He.cT K ("uses_of_water", none)).2, ("uses_of_water.<locals>.<lambda>" : Str)) ∈ lsOf K tls := List.mem_map_of_mem (f := fun d : He.Defn => ((He.cT K d).2, d.1 ++ (".<locals>.<lambda>" : Str))) (a := ((("uses_of_water" : Str), none) : He.Defn)) (show ((("uses_of_water" : Str), none) : He.Defn) ∈ tls by simp [tls])
  have b_is_whole : Binds K fd_is_whole ["value"] [] := FunD.bindsN E_is_whole fun _ _ _ _ _ _ us hl => match us, hl with | [_], _ => rfl
  have C_is_whole : CF PySem.Challenge.rw_damworks_k94_across_more_pumping.prog w K mg base ⟨(tgs.map (He.cT K)).map (·.2), lsOf K tls⟩ 1 "is_whole" 1 Ty.S_is_whole := CF.of (He.glo_ok X G (c.t.d.fact 0 (f := .glo "is_whole") rfl)) D_is_whole.kp b_is_whole (ok_is_whole T D_is_whole )
  have b_is_between : Binds K fd_is_between ["value", "least", "most"] [] := FunD.bindsN E_is_between fun _ _ _ _ _ _ us hl => match us, hl with | [_, _, _], _ => rfl
  have C_is_between : CF PySem.Challenge.rw_damworks_k94_across_more_pumping.prog w K mg base ⟨(tgs.map (He.cT K)).map (·.2), lsOf K tls⟩ 2 "is_between" 3 Ty.S_is_between := CF.of (He.glo_ok X G (c.t.d.fact 1 (f := .glo "is_between") rfl)) D_is_between.kp b_is_between (ok_is_between T D_is_between C_is_whole)
  have b_is_row_between : Binds K fd_is_row_between ["value", "least", "most"] [] := FunD.bindsN E_is_row_between fun _ _ _ _ _ _ us hl => match us, hl with | [_, _, _], _ => rfl
  have C_is_row_between : CF PySem.Challenge.rw_damworks_k94_across_more_pumping.prog w K mg base ⟨(tgs.map (He.cT K)).map (·.2), lsOf K tls⟩ 4 "is_row_between" 3 Ty.S_is_row_between := CF.of (He.glo_ok X G (c.t.d.fact 2 (f := .glo "is_row_between") rfl)) D_is_row_between.kp b_is_row_between (ok_is_row_between T tb_is_row_between tm_is_row_between D_is_row_between C_is_between)
  have b_is_ratio : Binds K fd_is_ratio ["value"] [] := FunD.bindsN E_is_ratio fun _ _ _ _ _ _ us hl => match us, hl with | [_], _ => rfl
  have C_is_ratio : CF PySem.Challenge.rw_damworks_k94_across_more_pumping.prog w K mg base ⟨(tgs.map (He.cT K)).map (·.2), lsOf K tls⟩ 2 "is_ratio" 1 Ty.S_is_ratio := CF.of (He.glo_ok X G (c.t.d.fact 3 (f := .glo "is_ratio") rfl)) D_is_ratio.kp b_is_ratio (ok_is_ratio T D_is_ratio C_is_whole)
  have b_is_row_of_ratios : Binds K fd_is_row_of_ratios ["value", "count"] [] := FunD.bindsN E_is_row_of_ratios fun _ _ _ _ _ _ us hl => match us, hl with | [_, _], _ => rfl
  have C_is_row_of_ratios : CF PySem.Challenge.rw_damworks_k94_across_more_pumping.prog w K mg base ⟨(tgs.map (He.cT K)).map (·.2), lsOf K tls⟩ 4 "is_row_of_ratios" 2 Ty.S_is_row_of_ratios := CF.of (He.glo_ok X G (c.t.d.fact 4 (f := .glo "is_row_of_ratios") rfl)) D_is_row_of_ratios.kp b_is_row_of_ratios (ok_is_row_of_ratios T tb_is_row_of_ratios tm_is_row_of_ratios D_is_row_of_ratios C_is_ratio)
  have b_ratio : Binds K fd_ratio ["top", "bottom"] [] := FunD.bindsN E_ratio fun _ _ _ _ _ _ us hl => match us, hl with | [_, _], _ => rfl
  have C_ratio : CF PySem.Challenge.rw_damworks_k94_across_more_pumping.prog w K mg base ⟨(tgs.map (He.cT K)).map (·.2), lsOf K tls⟩ 1 "ratio" 2 Ty.S_ratio := CF.of (He.glo_ok X G (c.t.d.fact 5 (f := .glo "ratio") rfl)) D_ratio.kp b_ratio (ok_ratio T D_ratio )
  have b_plus : Binds K fd_plus ["one", "other"] [] := FunD.bindsN E_plus fun _ _ _ _ _ _ us hl => match us, hl with | [_, _], _ => rfl
  have C_plus : CF PySem.Challenge.rw_damworks_k94_across_more_pumping.prog w K mg base ⟨(tgs.map (He.cT K)).map (·.2), lsOf K tls⟩ 2 "plus" 2 Ty.S_plus := CF.of (He.glo_ok X G (c.t.d.fact 6 (f := .glo "plus") rfl)) D_plus.kp b_plus (ok_plus T D_plus C_ratio)
  have b_minus : Binds K fd_minus ["one", "other"] [] := FunD.bindsN E_minus fun _ _ _ _ _ _ us hl => match us, hl with | [_, _], _ => rfl
  have C_minus : CF PySem.Challenge.rw_damworks_k94_across_more_pumping.prog w K mg base ⟨(tgs.map (He.cT K)).map (·.2), lsOf K tls⟩ 2 "minus" 2 Ty.S_minus := CF.of (He.glo_ok X G (c.t.d.fact 7 (f := .glo "minus") rfl)) D_minus.kp b_minus (ok_minus T D_minus C_ratio)
  have b_times : Binds K fd_times ["one", "other"] [] := FunD.bindsN E_times fun _ _ _ _ _ _ us hl => match us, hl with | [_, _], _ => rfl
  have C_times : CF PySem.Challenge.rw_damworks_k94_across_more_pumping.prog w K mg base ⟨(tgs.map (He.cT K)).map (·.2), lsOf K tls⟩ 2 "times" 2 Ty.S_times := CF.of (He.glo_ok X G (c.t.d.fact 8 (f := .glo "times") rfl)) D_times.kp b_times (ok_times T D_times C_ratio)
  have b_is_less : Binds K fd_is_less ["one", "other"] [] := FunD.bindsN E_is_less fun _ _ _ _ _ _ us hl => match us, hl with | [_, _], _ => rfl
  have C_is_less : CF PySem.Challenge.rw_damworks_k94_across_more_pumping.prog w K mg base ⟨(tgs.map (He.cT K)).map (·.2), lsOf K tls⟩ 1 "is_less" 2 Ty.S_is_less := CF.of (He.glo_ok X G (c.t.d.fact 9 (f := .glo "is_less") rfl)) D_is_less.kp b_is_less (ok_is_less T D_is_less )
  have b_part_of_steps : Binds K fd_part_of_steps ["steps", "first", "behind"] [] := FunD.bindsN E_part_of_steps fun _ _ _ _ _ _ us hl => match us, hl with | [_, _, _], _ => rfl
  have C_part_of_steps : CF PySem.Challenge.rw_damworks_k94_across_more_pumping.prog w K mg base ⟨(tgs.map (He.cT K)).map (·.2), lsOf K tls⟩ 1 "part_of_steps" 3 Ty.S_part_of_steps := CF.of (He.glo_ok X G (c.t.d.fact 10 (f := .glo "part_of_steps") rfl)) D_part_of_steps.kp b_part_of_steps (ok_part_of_steps T D_part_of_steps )
  have b_worth_on_curve : Binds K fd_worth_on_curve ["curve", "water"] [] := FunD.bindsN E_worth_on_curve fun _ _ _ _ _ _ us hl => match us, hl with | [_, _], _ => rfl
  have C_worth_on_curve : CF PySem.Challenge.rw_damworks_k94_across_more_pumping.prog w K mg base ⟨(tgs.map (He.cT K)).map (·.2), lsOf K tls⟩ 2 "worth_on_curve" 2 Ty.S_worth_on_curve := CF.of (He.glo_ok X G (c.t.d.fact 11 (f := .glo "worth_on_curve") rfl)) D_worth_on_curve.kp b_worth_on_curve (ok_worth_on_curve T D_worth_on_curve C_part_of_steps)
  have b_uses_of_water : Binds K fd_uses_of_water ["curve", "pairs", "water"] [] := FunD.bindsN E_uses_of_water fun _ _ _ _ _ _ us hl => match us, hl with | [_, _, _], _ => rfl
  have C_uses_of_water : CF PySem.Challenge.rw_damworks_k94_across_more_pumping.prog w K mg base ⟨(tgs.map (He.cT K)).map (·.2), lsOf K tls⟩ 2 "uses_of_water" 3 Ty.S_uses_of_water := CF.of (He.glo_ok X G (c.t.d.fact 12 (f := .glo "uses_of_water") rfl)) D_uses_of_water.kp b_uses_of_water (ok_uses_of_water T tb_uses_of_water tm_uses_of_water D_uses_of_water )
  have b_curve_in_month : Binds K fd_curve_in_month ["curve", "pairs", "most"] [] := FunD.bindsN E_curve_in_month fun _ _ _ _ _ _ us hl => match us, hl with | [_, _, _], _ => rfl
  have C_curve_in_month : CF PySem.Challenge.rw_damworks_k94_across_more_pumping.prog w K mg base ⟨(tgs.map (He.cT K)).map (·.2), lsOf K tls⟩ 3 "curve_in_month" 3 Ty.S_curve_in_month := CF.of (He.glo_ok X G (c.t.d.fact 13 (f := .glo "curve_in_month") rfl)) D_curve_in_month.kp b_curve_in_month (ok_curve_in_month T D_curve_in_month C_uses_of_water)
  have b_curve_before : Binds K fd_curve_before ["curve", "inflow", "capacity"] [] := FunD.bindsN E_curve_before fun _ _ _ _ _ _ us hl => match us, hl with | [_, _, _], _ => rfl
  have C_curve_before : CF PySem.Challenge.rw_damworks_k94_across_more_pumping.prog w K mg base ⟨(tgs.map (He.cT K)).map (·.2), lsOf K tls⟩ 3 "curve_before" 3 Ty.S_curve_before := CF.of (He.glo_ok X G (c.t.d.fact 14 (f := .glo "curve_before") rfl)) D_curve_before.kp b_curve_before (ok_curve_before T D_curve_before C_part_of_steps C_worth_on_curve)
  have b_curves_of_levels : Binds K fd_curves_of_levels ["capacities", "end", "inflows", "worths"] [] := FunD.bindsN E_curves_of_levels fun _ _ _ _ _ _ us hl => match us, hl with | [_, _, _, _], _ => rfl
  have C_curves_of_levels : CF PySem.Challenge.rw_damworks_k94_across_more_pumping.prog w K mg base ⟨(tgs.map (He.cT K)).map (·.2), lsOf K tls⟩ 4 "curves_of_levels" 4 Ty.S_curves_of_levels := CF.of (He.glo_ok X G (c.t.d.fact 15 (f := .glo "curves_of_levels") rfl)) D_curves_of_levels.kp b_curves_of_levels (ok_curves_of_levels T D_curves_of_levels C_curve_in_month C_curve_before)
  have b_level_curves : Binds K fd_level_curves ["dam", "worths"] [] := FunD.bindsN E_level_curves fun _ _ _ _ _ _ us hl => match us, hl with | [_, _], _ => rfl
  have C_level_curves : CF PySem.Challenge.rw_damworks_k94_across_more_pumping.prog w K mg base ⟨(tgs.map (He.cT K)).map (·.2), lsOf K tls⟩ 5 "level_curves" 2 Ty.S_level_curves := CF.of (He.glo_ok X G (c.t.d.fact 16 (f := .glo "level_curves") rfl)) D_level_curves.kp b_level_curves (ok_level_curves T D_level_curves C_curves_of_levels)
  have b_greatest_worth : Binds K fd_greatest_worth ["dam", "worths"] [] := FunD.bindsN E_greatest_worth fun _ _ _ _ _ _ us hl => match us, hl with | [_, _], _ => rfl
  have C_greatest_worth : CF PySem.Challenge.rw_damworks_k94_across_more_pumping.prog w K mg base ⟨(tgs.map (He.cT K)).map (·.2), lsOf K tls⟩ 6 "greatest_worth" 2 Ty.S_greatest_worth := CF.of (He.glo_ok X G (c.t.d.fact 17 (f := .glo "greatest_worth") rfl)) D_greatest_worth.kp b_greatest_worth (ok_greatest_worth T D_greatest_worth C_worth_on_curve C_level_curves)
  have b_best_hold : Binds K fd_best_hold ["curve", "pairs", "water"] [] := FunD.bindsN E_best_hold fun _ _ _ _ _ _ us hl => match us, hl with | [_, _, _], _ => rfl
  have C_best_hold : CF PySem.Challenge.rw_damworks_k94_across_more_pumping.prog w K mg base ⟨(tgs.map (He.cT K)).map (·.2), lsOf K tls⟩ 3 "best_hold" 3 Ty.S_best_hold := CF.of (He.glo_ok X G (c.t.d.fact 18 (f := .glo "best_hold") rfl)) D_best_hold.kp b_best_hold (ok_best_hold T D_best_hold C_uses_of_water)
  have b_best_levels : Binds K fd_best_levels ["start", "inflows", "worths", "curves"] [] := FunD.bindsN E_best_levels fun _ _ _ _ _ _ us hl => match us, hl with | [_, _, _, _], _ => rfl
  have C_best_levels : CF PySem.Challenge.rw_damworks_k94_across_more_pumping.prog w K mg base ⟨(tgs.map (He.cT K)).map (·.2), lsOf K tls⟩ 4 "best_levels" 4 Ty.S_best_levels := CF.of (He.glo_ok X G (c.t.d.fact 19 (f := .glo "best_levels") rfl)) D_best_levels.kp b_best_levels (ok_best_levels T D_best_levels C_best_hold)
  have b_releases_between : Binds K fd_releases_between ["start", "inflows", "behind"] [] := FunD.bindsN E_releases_between fun _ _ _ _ _ _ us hl => match us, hl with | [_, _, _], _ => rfl
  have C_releases_between : CF PySem.Challenge.rw_damworks_k94_across_more_pumping.prog w K mg base ⟨(tgs.map (He.cT K)).map (·.2), lsOf K tls⟩ 1 "releases_between" 3 Ty.S_releases_between := CF.of (He.glo_ok X G (c.t.d.fact 20 (f := .glo "releases_between") rfl)) D_releases_between.kp b_releases_between (ok_releases_between T D_releases_between )
  have b_best_releases : Binds K fd_best_releases ["dam", "worths"] [] := FunD.bindsN E_best_releases fun _ _ _ _ _ _ us hl => match us, hl with | [_, _], _ => rfl
  have C_best_releases : CF PySem.Challenge.rw_damworks_k94_across_more_pumping.prog w K mg base ⟨(tgs.map (He.cT K)).map (·.2), lsOf K tls⟩ 6 "best_releases" 2 Ty.S_best_releases := CF.of (He.glo_ok X G (c.t.d.fact 21 (f := .glo "best_releases") rfl)) D_best_releases.kp b_best_releases (ok_best_releases T D_best_releases C_best_levels C_level_curves C_releases_between)
  have b_is_share : Binds K fd_is_share ["value"] [] := FunD.bindsN E_is_share fun _ _ _ _ _ _ us hl => match us, hl with | [_], _ => rfl
  have C_is_share : CF PySem.Challenge.rw_damworks_k94_across_more_pumping.prog w K mg base ⟨(tgs.map (He.cT K)).map (·.2), lsOf K tls⟩ 3 "is_share" 1 Ty.S_is_share := CF.of (He.glo_ok X G (c.t.d.fact 22 (f := .glo "is_share") rfl)) D_is_share.kp b_is_share (ok_is_share T D_is_share C_is_ratio)
  have b_is_house : Binds K fd_is_house ["value"] [] := FunD.bindsN E_is_house fun _ _ _ _ _ _ us hl => match us, hl with | [_], _ => rfl
  have C_is_house : CF PySem.Challenge.rw_damworks_k94_across_more_pumping.prog w K mg base ⟨(tgs.map (He.cT K)).map (·.2), lsOf K tls⟩ 5 "is_house" 1 Ty.S_is_house := CF.of (He.glo_ok X G (c.t.d.fact 23 (f := .glo "is_house") rfl)) D_is_house.kp b_is_house (ok_is_house T D_is_house C_is_between C_is_row_between C_is_share)
  have b_check_house_and_prices : Binds K fd_check_house_and_prices ["house", "prices"] [] := FunD.bindsN E_check_house_and_prices fun _ _ _ _ _ _ us hl => match us, hl with | [_, _], _ => rfl
  have C_check_house_and_prices : CF PySem.Challenge.rw_damworks_k94_across_more_pumping.prog w K mg base ⟨(tgs.map (He.cT K)).map (·.2), lsOf K tls⟩ 6 "check_house_and_prices" 2 Ty.S_check_house_and_prices := CF.of (He.glo_ok X G (c.t.d.fact 24 (f := .glo "check_house_and_prices") rfl)) D_check_house_and_prices.kp b_check_house_and_prices (ok_check_house_and_prices T D_check_house_and_prices C_is_house C_is_row_between)
  have b_like_dam : Binds K fd_like_dam ["house", "prices"] [] := FunD.bindsN E_like_dam fun _ _ _ _ _ _ us hl => match us, hl with | [_, _], _ => rfl
  have C_like_dam : CF PySem.Challenge.rw_damworks_k94_across_more_pumping.prog w K mg base ⟨(tgs.map (He.cT K)).map (·.2), lsOf K tls⟩ 1 "like_dam" 2 Ty.S_like_dam := CF.of (He.glo_ok X G (c.t.d.fact 25 (f := .glo "like_dam") rfl)) D_like_dam.kp b_like_dam (ok_like_dam T D_like_dam )
  have b_found_profit : Binds K fd_found_profit ["house", "prices"] [] := FunD.bindsN E_found_profit fun _ _ _ _ _ _ us hl => match us, hl with | [_, _], _ => rfl
  have C_found_profit : CF PySem.Challenge.rw_damworks_k94_across_more_pumping.prog w K mg base ⟨(tgs.map (He.cT K)).map (·.2), lsOf K tls⟩ 7 "found_profit" 2 Ty.S_found_profit := CF.of (He.glo_ok X G (c.t.d.fact 26 (f := .glo "found_profit") rfl)) D_found_profit.kp b_found_profit (ok_found_profit T D_found_profit C_like_dam C_ratio C_greatest_worth)
  have b_pump_profit : Binds K fd_pump_profit ["house", "prices"] [] := FunD.bindsN E_pump_profit fun _ _ _ _ _ _ us hl => match us, hl with | [_, _], _ => rfl
  have C_pump_profit : CF PySem.Challenge.rw_damworks_k94_across_more_pumping.prog w K mg base ⟨(tgs.map (He.cT K)).map (·.2), lsOf K tls⟩ 8 "pump_profit" 2 Ty.S_pump_profit := CF.of (He.glo_ok X G (c.t.d.fact 27 (f := .glo "pump_profit") rfl)) D_pump_profit.kp b_pump_profit (ok_pump_profit T D_pump_profit C_check_house_and_prices C_found_profit)
  have b_pump_plan : Binds K fd_pump_plan ["house", "prices"] [] := FunD.bindsN E_pump_plan fun _ _ _ _ _ _ us hl => match us, hl with | [_, _], _ => rfl
  have C_pump_plan : CF PySem.Challenge.rw_damworks_k94_across_more_pumping.prog w K mg base ⟨(tgs.map (He.cT K)).map (·.2), lsOf K tls⟩ 7 "pump_plan" 2 Ty.S_pump_plan := CF.of (He.glo_ok X G (c.t.d.fact 28 (f := .glo "pump_plan") rfl)) D_pump_plan.kp b_pump_plan (ok_pump_plan T D_pump_plan C_check_house_and_prices C_like_dam C_best_releases)
  have b_is_pumping : Binds K fd_is_pumping ["house", "months", "value"] [] := FunD.bindsN E_is_pumping fun _ _ _ _ _ _ us hl => match us, hl with | [_, _, _], _ => rfl
  have C_is_pumping : CF PySem.Challenge.rw_damworks_k94_across_more_pumping.prog w K mg base ⟨(tgs.map (He.cT K)).map (·.2), lsOf K tls⟩ 6 "is_pumping" 3 Ty.S_is_pumping := CF.of (He.glo_ok X G (c.t.d.fact 29 (f := .glo "is_pumping") rfl)) D_is_pumping.kp b_is_pumping (ok_is_pumping T tb_is_pumping tm_is_pumping D_is_pumping C_is_row_of_ratios C_minus C_plus C_is_less)
  have b_profit_of : Binds K fd_profit_of ["house", "prices", "pumping"] [] := FunD.bindsN E_profit_of fun _ _ _ _ _ _ us hl => match us, hl with | [_, _, _], _ => rfl
  have C_profit_of : CF PySem.Challenge.rw_damworks_k94_across_more_pumping.prog w K mg base ⟨(tgs.map (He.cT K)).map (·.2), lsOf K tls⟩ 3 "profit_of" 3 Ty.S_profit_of := CF.of (He.glo_ok X G (c.t.d.fact 30 (f := .glo "profit_of") rfl)) D_profit_of.kp b_profit_of (ok_profit_of T D_profit_of C_times C_plus C_minus)
  have b_shows_pumping : Binds K fd_shows_pumping ["house", "prices", "value"] [] := FunD.bindsN E_shows_pumping fun _ _ _ _ _ _ us hl => match us, hl with | [_, _, _], _ => rfl
  have C_shows_pumping : CF PySem.Challenge.rw_damworks_k94_across_more_pumping.prog w K mg base ⟨(tgs.map (He.cT K)).map (·.2), lsOf K tls⟩ 9 "shows_pumping" 3 Ty.S_shows_pumping := CF.of (He.glo_ok X G (c.t.d.fact 31 (f := .glo "shows_pumping") rfl)) D_shows_pumping.kp b_shows_pumping (ok_shows_pumping T D_shows_pumping C_pump_profit C_is_pumping C_profit_of)
  have b__law_ratio : Binds K fd__law_ratio ["top", "bottom"] [] := FunD.bindsN E__law_ratio fun _ _ _ _ _ _ us hl => match us, hl with | [_, _], _ => rfl
  have C__law_ratio : CF PySem.Challenge.rw_damworks_k94_across_more_pumping.prog w K mg base ⟨(tgs.map (He.cT K)).map (·.2), lsOf K tls⟩ 1 "_law_ratio" 2 Ty.S__law_ratio := CF.of (He.glo_ok X G (c.t.d.fact 32 (f := .glo "_law_ratio") rfl)) D__law_ratio.kp b__law_ratio (ok__law_ratio (fun _ => FUEL) T D__law_ratio )
  have b__law_plus : Binds K fd__law_plus ["one", "other"] [] := FunD.bindsN E__law_plus fun _ _ _ _ _ _ us hl => match us, hl with | [_, _], _ => rfl
  have C__law_plus : CF PySem.Challenge.rw_damworks_k94_across_more_pumping.prog w K mg base ⟨(tgs.map (He.cT K)).map (·.2), lsOf K tls⟩ 2 "_law_plus" 2 Ty.S__law_plus := CF.of (He.glo_ok X G (c.t.d.fact 33 (f := .glo "_law_plus") rfl)) D__law_plus.kp b__law_plus (ok__law_plus T D__law_plus C__law_ratio)
  have b__law_sum : Binds K fd__law_sum ["some"] [] := FunD.bindsN E__law_sum fun _ _ _ _ _ _ us hl => match us, hl with | [_], _ => rfl
  have C__law_sum : CF PySem.Challenge.rw_damworks_k94_across_more_pumping.prog w K mg base ⟨(tgs.map (He.cT K)).map (·.2), lsOf K tls⟩ 3 "_law_sum" 1 Ty.S__law_sum := CF.of (He.glo_ok X G (c.t.d.fact 34 (f := .glo "_law_sum") rfl)) D__law_sum.kp b__law_sum (ok__law_sum T D__law_sum C__law_plus)
  have b__law_less : Binds K fd__law_less ["one", "other"] [] := FunD.bindsN E__law_less fun _ _ _ _ _ _ us hl => match us, hl with | [_, _], _ => rfl
  have C__law_less : CF PySem.Challenge.rw_damworks_k94_across_more_pumping.prog w K mg base ⟨(tgs.map (He.cT K)).map (·.2), lsOf K tls⟩ 1 "_law_less" 2 Ty.S__law_less := CF.of (He.glo_ok X G (c.t.d.fact 35 (f := .glo "_law_less") rfl)) D__law_less.kp b__law_less (ok__law_less T D__law_less )
  have b__law_taken : Binds K fd__law_taken ["row", "many"] [] := FunD.bindsN E__law_taken fun _ _ _ _ _ _ us hl => match us, hl with | [_, _], _ => rfl
  have C__law_taken : CW PySem.Challenge.rw_damworks_k94_across_more_pumping.prog w K mg base ⟨(tgs.map (He.cT K)).map (·.2), lsOf K tls⟩ 1 "_law_taken" 1 cTaken := ⟨_, fd__law_taken, _, (He.glo_ok X G (c.t.d.fact 36 (f := .glo "_law_taken") rfl)), D__law_taken.kp, b__law_taken, ok_taken T D__law_taken ⟩
  have b__law_pick : Binds K fd__law_pick ["row", "things"] [] := FunD.bindsN E__law_pick fun _ _ _ _ _ _ us hl => match us, hl with | [_, _], _ => rfl
  have C__law_pick : CW PySem.Challenge.rw_damworks_k94_across_more_pumping.prog w K mg base ⟨(tgs.map (He.cT K)).map (·.2), lsOf K tls⟩ 2 "_law_pick" 1 cPick := ⟨_, fd__law_pick, _, (He.glo_ok X G (c.t.d.fact 37 (f := .glo "_law_pick") rfl)), D__law_pick.kp, b__law_pick, ok_pick T D__law_pick C__law_taken⟩
  have b__law_house : Binds K fd__law_house ["row"] [] := FunD.bindsN E__law_house fun _ _ _ _ _ _ us hl => match us, hl with | [_], _ => rfl
  have C__law_house : CW PySem.Challenge.rw_damworks_k94_across_more_pumping.prog w K mg base ⟨(tgs.map (He.cT K)).map (·.2), lsOf K tls⟩ 3 "_law_house" 0 cHouse := ⟨_, fd__law_house, _, (He.glo_ok X G (c.t.d.fact 38 (f := .glo "_law_house") rfl)), D__law_house.kp, b__law_house, ok_house T D__law_house C__law_ratio C__law_pick C__law_taken⟩
  exact ok_law T D_law  C_pump_profit C__law_less C_pump_plan C_shows_pumping C__law_sum C__law_house C__law_taken (law_of TheLaw)
end L94
open PySem PySem.W PySem.Calls PyProof.Rows
theorem PySem.Challenge.cw_damworks_k94_across_more_pumping_holds : PySem.Challenge.rw_damworks_k94_across_more_pumping.Holds := by
  w_on; o_law
  refine HandSHeadRun.head_imp (r := L94.TheRow) (q := view L94.TheRow.prog [0, 59]) (H := L94.hk) (ob := L94.ob) (M := 9000) (loose := L94.others) (d := HandSHeadRun.topDef L94.TheRow.prog 59) (kwd := []) L94.ob_eq
    L94.run (by kernel_rfl) (by kernel_rfl) (by kernel_rfl) (by rfl) (by first | assumption | decide +kernel) (by decide +kernel) ⟨rfl, rfl, rfl, rfl, rfl, by decide +kernel⟩ ?hw ?hc
  case hw => w_witness2
  case hc =>
    refine LamX.walk_ofTsE (l := PySem.Challenge.rw_damworks_k94_across_more_pumping) (n := 63) (k := 10) (x := "script") (CX := fun _ => L2.CX0) rfl (by decide) (by kernel_rfl) ⟨rfl, by decide, by decide⟩ ?F (fun _ _ _ _ _ z => z)
    intro w mg fa h Y G hmg0
    obtain ⟨K, KX, c⟩ := Y
    have hmg : mg ("law" : PySem.Str) = some (.ref fa) := by
      have e : (HandSHeadRun.topDef L94.TheRow.prog 59).name = ("law" : PySem.Str) := by kernel_rfl
      rw [← e]
      exact hmg0
    exact ⟨K, KX, L94.facts KX G hmg c⟩
