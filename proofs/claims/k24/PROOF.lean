import PyProof.Rows.All
import Wide.All
import OpenK.AllK
import Wide.FinOn
import HandS.Words
import HandS.Defaults
import HandS.EndTab
import HandS.HeadWalk
import HandS.Head0
import HandS.Head1
import HandS.Head2
import HandS.HeadHook4
import HandS.Head3
import HandS.ForMost
import HandS.AnyAll
import HandS.GenOver
import HandS.Lambda
import HandS.Wide
import HandS.IsInst
import HandS.Deep
import HandS.TupMul
import HandS.Gcd
import HandS.TupAny
import KE.KTupSum
import HandS.Style
import HandS.Zip
import KE.GoesMore
import KE.GoesEnum
import KE.DataMinMax
import HandS.Rev
import HandS.SortKw
import KE.GoesEnumKw
import PyProof.Rows.ListCopyD
import HandS.Flow
import KE.KDictZip
import PyProof.CollectWalk
import PyProof.ListNew
import HandS.ListItems
import HandS.WordsExc
import HandS.ExcIs
import HandS.TryOnly
import KE.SortData
import KE.SortKeyHeap
import HandS.SetFor
import HandS.Strs
import KE.GoesZip
import PySem.Challenge.RW_damworks_k24_whole_pond_steps
set_option Elab.async false
set_option linter.all false
namespace DN
open PySem PySem.Spec PyProof.Rows L2
abbrev lsOf (K : PySem.W.Frag) (tl : List He.Defn) : List (Addr × Str) := tl.map fun d => ((He.cT K d).2, d.1 ++ (".<locals>.<lambda>" : Str))
end DN
set_option maxRecDepth 100000
set_option maxHeartbeats 0
namespace L24
open PySem PySem.Spec PyProof.Rows L2 DN
def top (i : Nat) : Stmt := PySem.Challenge.pw_damworks_k24_whole_pond_steps.main.body.getD i (.Pass ⟨0, 0, 0, 0⟩)
def tgs : List He.Defn := [("is_row_of_ratios", none)]
def tls : List He.Defn := []
def exs : PySem.W.Frag → Bool := fun K => He.eqO (PySem.W.nsIn K mainGlobals "gcd") (some (some (.builtin "math.gcd")))
def dd (x : Str) (i : Nat) : He.DefD := ⟨(x, none), x, x, defArgs (top i), defBody (top i), defScope (top i), [], []⟩
def fns : List He.DefD := [dd "is_whole" 8, dd "is_between" 9, dd "is_ratio" 10, dd "is_row_of_ratios" 11, dd "ratio" 12, dd "plus" 13, dd "times" 14, dd "sum_of_ratios" 15, dd "is_pond" 22, dd "is_chances" 23, dd "check_chances" 24, dd "check_pond" 25, dd "check_pond_and_chances" 26, dd "count_of_levels" 27, dd "check_level" 28, dd "check_months" 29, dd "months_from" 30, dd "month_later" 31, dd "sure_of" 32, dd "months_later" 33, dd "pond_steps" 34, dd "_law_alike" 38, dd "_law_ratio" 39, dd "_law_plus" 40, dd "_law_by" 41, dd "_law_sum" 42, dd "_law_month" 46, dd "_law_step" 47, dd "_law_taken" 36, dd "_law_pick" 37, dd "_law_pond" 45, dd "law" 50]
def fas : List He.Fa := [.glo "is_whole", .glo "is_between", .glo "is_ratio", .glo "is_row_of_ratios", .glo "ratio", .glo "plus", .glo "times", .glo "sum_of_ratios", .glo "is_pond", .glo "is_chances", .glo "check_chances", .glo "check_pond", .glo "check_pond_and_chances", .glo "count_of_levels", .glo "check_level", .glo "check_months", .glo "months_from", .glo "month_later", .glo "sure_of", .glo "months_later", .glo "pond_steps", .glo "_law_alike", .glo "_law_ratio", .glo "_law_plus", .glo "_law_by", .glo "_law_sum", .glo "_law_month", .glo "_law_step", .glo "_law_taken", .glo "_law_pick", .glo "_law_pond", .glo "law", .free "abs", .free "all", .free "any", .free "bool", .free "enumerate", .free "int", .free "isinstance", .free "len", .free "list", .free "min", .free "range", .free "str", .free "sum", .free "tuple", .int "LEAST_INFLOWS" 2, .int "MOST_CAPACITY" 8, .int "MOST_INFLOWS" 6, .int "MOST_MONTHS" 24, .int "MOST_OF_CHANCE" 100]
def tfs : List He.Defn := tgs ++ tls
def others : List PySem.Str := (["DamError", "BadChances", "BadPond", "BadLevel", "BadMonths", "is_whole", "is_between", "is_ratio", "is_row_of_ratios", "ratio"] : List PySem.Str) ++ (["plus", "times", "sum_of_ratios", "MOST_CAPACITY", "LEAST_INFLOWS", "MOST_INFLOWS", "MOST_OF_CHANCE", "MOST_MONTHS", "is_pond", "is_chances"] : List PySem.Str) ++ (["check_chances", "check_pond", "check_pond_and_chances", "count_of_levels", "check_level", "check_months", "months_from", "month_later", "sure_of", "months_later"] : List PySem.Str) ++ (["pond_steps", "_law_taken", "_law_pick", "_law_alike", "_law_ratio", "_law_plus", "_law_by", "_law_sum", "_law_less", "_law_is_ratio"] : List PySem.Str) ++ (["_law_pond", "_law_month", "_law_step", "_law_are_shares", "_law_settles"] : List PySem.Str)
abbrev TheRow : PySem.W.OpenRow := PySem.W.OpenLaw.row PySem.Challenge.rw_damworks_k24_whole_pond_steps
abbrev hk : PySem.W.Hook := He.hookX 2 fas fns [] tfs exs
def ob (s : PySem.W.SharedT) : He.AlX := He.obsX 2 fas fns [] tfs exs (HandSHeadRun.getT s)
theorem ob_eq (s : PySem.W.SharedT) : ob s = hk.obs s.abs := He.obsX_eq (HandSHeadRun.getT_eq s)
theorem run (w : World) : HandSHeadRun.RunEqI TheRow (PySem.W.view TheRow.prog [0, 50]) hk ob 9000 others w := by
  unfold HandSHeadRun.RunEqI
  kernel_rfl
end L24
set_option maxHeartbeats 4000000
namespace GA
open PySem PySem.Spec PyProof.Rows L2
abbrev St := L2.St
section
variable {prog : Program} {w : World} {A : Around} {R : Result → Shared → Prop} {I : Addr}
theorem all_loop {St : Nat → Shared → Prop} (turn : ∀ m s, St m s → wpAny (model prog w) A.in1 (pyNext (.ref I)) (fun r s' => match r with
      | none => R (.ok (.ret (.bool true))) s'
      | some v => ∃ b, v = .bool b ∧ if b = true then ∃ m', m' < m ∧ St m' s' else R (.ok (.ret (.bool b))) s') (fun _ _ => False) s) :
    ∀ m s, St m s → codeAny (model prog w) A (.builtin "all.loop" ⟨[.ref I], []⟩) R s := by
  intro m
  induction m using Nat.strongRecOn with
  | ind m ih =>
    intro s hst
    refine codeAny_builtin F.entry_all_loop ?_
    rw [Around.under_plainId F.plain_all_loop _]
    show wpAny _ A.in1 (pyNext (.ref I) >>= _) _ _ s
    refine wpAny_bind (wpAny_mono (turn m s hst) (fun r s' hr => ?_) fun _ _ z => False.elim z)
    cases r with
    | none => exact wpAny_bind (wpAny_rule (wpAny_pure hr))
    | some v =>
      obtain ⟨b, rfl, hb⟩ := hr
      refine wpAny_bind (wpAny_holding (wpAny_truthy_bool ?_))
      refine wpAny_bind (wpAny_letGo ?_)
      cases b with
      | true =>
        simp only [if_true] at hb ⊢
        obtain ⟨m', hm, hs⟩ := hb
        exact wpAny_pure ⟨plainId_quiet F.plain_all_loop _, ih m' hm s' hs⟩
      | false =>
        simp only [Bool.false_eq_true, if_false] at hb ⊢
        exact wpAny_bind (wpAny_rule (wpAny_pure hb))
end
abbrev gCx (X : Cx) (s : Shared) (H : Hp) (cenv : Env) (fp : List Addr) (pn : List (Addr × Obj)) : Cx :=
  { X with A := X.A.in1.in1.deeper cenv, s_0 := s, H_0 := H, env := cenv, outer := X.stack, stack := cenv :: X.stack, ex := fp, fn := fun _ => false, pn := pn, xe := fun _ _ => False }
section
variable {X : Cx} {pins : List (Addr × Obj)} {σ : St} {H : Hp} {s s' : Shared}
theorem inv_rest (I : Inv X pins σ H s) (k : ∀ b u, s.heap.get? b = some u → s'.heap.get? b = some u) (ho : s'.os = s.os) (hb : AllBare s'.gens) : Inv X pins σ H s' := by
  have J := I.step (H' := H) (h' := s'.heap) (g' := s'.gens) (t' := s'.toks) (d' := s'.drawn) (ch := []) (fun b hb => absurd hb (by simp)) (fun b o _ _ _ e _ => k b o e) (fun b o _ _ _ e _ => ⟨o.slots, k b o e⟩)
    (fun _ _ _ _ n => n) (fun b o _ e => ⟨o, k b o e⟩) (fun _ _ q => q) (fun _ _ _ q => q) (fun b ps q => ⟨#[], by rw [q]; simp⟩) (fun m hm => let ⟨o, es, ep, ho, r⟩ := hm; ⟨o, es, ep, k _ o ho, r⟩) (I.hok.kept k) hb
  rw [GxR.sh_eta s s' ho] at J
  exact J
structure Woken (s s' : Shared) : Prop where
  heap : s'.heap = s.heap
  os : s'.os = s.os
  bare : AllBare s'.gens
  size : s.gens.size ≤ s'.gens.size
theorem Woken.inv (W : Woken s s') (I : Inv X pins σ H s) : Inv X pins σ H s' := inv_rest I (fun b u e => by rw [W.heap]; exact e) W.os W.bare
theorem bare_set {G : Array GenState} (h : AllBare G) {g : Nat} {x : GenState} (hx : x.bare = true) : AllBare (G.setIfInBounds g x) := by
  intro y hy
  obtain ⟨i, hi, rfl⟩ := Array.mem_iff_getElem.mp hy
  have hi' : i < G.size := by simpa using hi
  rw [Array.getElem_setIfInBounds hi']
  split
  · exact hx
  · exact h _ (Array.getElem_mem hi')
theorem Woken.set (hb : AllBare s.gens) {g : Nat} {x : GenState} (hx : x.bare = true) : Woken s (s.setGen g x) := ⟨rfl, rfl, bare_set hb hx, by rw [GenW.setGen_size]; exact Nat.le_refl _⟩
end
section
variable {X : Cx} {s₁ : Shared} {H₁ : Hp} {cenv : Env} {fp : List Addr} {pn : List (Addr × Obj)}
def gY (X : Cx) (s₁ : Shared) (H₁ : Hp) (cenv : Env) (fp : List Addr) (pn : List (Addr × Obj)) (ev : Bool) (G0 : Nat) (Qx : Bool → Hp → Prop) : Protocol := fun n s₀ v s kap =>
  ∃ b σ' H', v = .bool b ∧ Inv (gCx X s₁ H₁ cenv fp pn) [] σ' H' s ∧ G0 ≤ s.gens.size ∧ if b = ev then ∀ s'', Woken s s'' → kap (.send .none) s'' else Qx b H'
def gP (X : Cx) (s₁ : Shared) (H₁ : Hp) (cenv : Env) (fp : List Addr) (pn : List (Addr × Obj)) (ev : Bool) (Qx : Bool → Hp → Prop) : Nat → Shared → Shared → Prop := fun _ _ s =>
  ∃ σ' H', Inv (gCx X s₁ H₁ cenv fp pn) [] σ' H' s ∧ Qx ev H'
def gR (X : Cx) (s₁ : Shared) (H₁ : Hp) (cenv : Env) (fp : List Addr) (pn : List (Addr × Obj)) (ev : Bool) (Qx : Bool → Hp → Prop) : GenEnd := fun n s₀ r s => r = .ok .next ∧ gP X s₁ H₁ cenv fp pn ev Qx n s₀ s
theorem seg_loop {elt tg iter : Expr} {scope : Scope} {pos : Pos} {it : Addr} {tn : Nat → Heap → Prop} {J : It} {g : TG} {te : TE} {σ : St} {vs : List Nat} {ev : Bool} {G0 : Nat} {Qx : Bool → Hp → Prop} {W : Nat → Nat → Hp → Prop}
    (hc : X.calm = true) (hco : cenv.scope.isCoroutine = false) (T : Turn X.prog X.w X.K tg J fp it tn) (pg : PG (gCx X s₁ H₁ cenv fp pn) tg g) (pe : PE (gCx X s₁ H₁ cenv fp pn) elt te)
    (hpn : ∀ b ∈ fp, ∀ p ∈ pn, p.1 ≠ b)
    (turn : ∀ i m H, W i m H → (J.stop i H ∧ Qx ev H) ∨ (J.go i H ∧ ∃ Nx : Hp → Prop, (∀ H', Nx H' → ∃ m', m' < m ∧ W (i + 1) m' H') ∧ ∀ x H', J.yld i H x H' → g x (wipe σ vs) H' fun σ2 H3 => wipe σ2 vs = wipe σ vs ∧
      te σ2 H3 fun y H4 => ∃ b, y = .bl b ∧ if b = ev then Nx H4 else Qx b H4)) :
    ∀ (n i m : Nat) (H : Hp) (s₀ s : Shared), m ≤ n → W i m H → Inv (gCx X s₁ H₁ cenv fp pn) [] (wipe σ vs) H s → tn i s.heap → (∀ b ∈ fp, H b = none) → G0 ≤ s.gens.size →
      Seg (model X.prog X.w) X.A.in1.in1 (gR X s₁ H₁ cenv fp pn ev Qx) (gY X s₁ H₁ cenv fp pn ev G0 Qx) (n + 1) s₀
        (.compLoop (.GeneratorExp elt [⟨tg, iter, [], 0⟩] scope pos) 0 (.ref it) .none cenv) ((model X.prog X.w).den (.compLoop (.GeneratorExp elt [⟨tg, iter, [], 0⟩] scope pos) 0 (.ref it) .none cenv)) [] s := by
  have stat : ∀ {σ' : St} {H' : Hp} {s' : Shared}, Inv (gCx X s₁ H₁ cenv fp pn) [] σ' H' s' → (∀ b ∈ fp, H' b = none) → ∀ b ∈ fp, FpOk (gCx X s₁ H₁ cenv fp pn) [] H' b := fun {σ' H' s'} I' hn b hb =>
    ⟨hn b hb, (I'.ok.exf b hb).1, I'.ok.exfs b hb, .inl hb, fun x c e => (I'.ok.exf b hb).2 x c e, fun p hp => by
      rcases List.mem_append.mp hp with hp | hp
      · exact hpn b hb p hp
      · exact absurd hp (by simp)⟩
  intro n
  induction n using Nat.strongRecOn with
  | ind n ih =>
    intro i m H s₀ s hm w I st nfp hG
    show Seg _ X.A.in1.in1 _ _ _ s₀ _ ((compTurn (.GeneratorExp elt [⟨tg, iter, [], 0⟩] scope pos) 0 (.ref it) .none cenv).onRaise (leaving cenv)) [] s
    rw [compTurn_gen, Sem.onRaise_eq_wrap]
    refine seg_bind_wrap (wpAny_standAt ?_)
    rcases turn i m H w with ⟨stop, qq⟩ | ⟨go, Nx, hNx, step⟩
    · have td := T.done (gCx X s₁ H₁ cenv fp pn) rfl rfl rfl hc i [] s _ H (fun _ _ => False) I (stat I nfp) st stop
      refine seg_bind_wrap (thnF td fun r s6 ⟨hr, I6⟩ => ?_)
      subst hr
      exact seg_end (.ok .next) ⟨rfl, _, _, I6, qq⟩
    · have ti := T.item (gCx X s₁ H₁ cenv fp pn) rfl rfl rfl hc i [] s _ H (fun _ _ => False) I (stat I nfp) st go
      refine seg_bind_wrap (thnF (GenW.wpAny_gsz hG (wpAny_mono ti (fun _ _ z hg => (⟨hg, z⟩ : G0 ≤ _ ∧ _)) fun _ _ z _ => z)) fun r s6 ⟨hG6, u, hr, h6⟩ => ?_)
      subst hr
      refine seg_bind_wrap (thnF (GenW.wpAny_gsz hG6 (wpAny_mono h6 (fun _ _ z hg => (⟨hg, z⟩ : G0 ≤ _ ∧ _)) fun _ _ z _ => z)) fun _ s7 ⟨hG7, x, H7, I7, r7, y7, st7, n7⟩ => ?_)
      have I7' := I7.pinned (stat I7 n7) (T.obj _ _ st7)
      refine seg_bind_wrap (thnF (GenW.wpAny_gsz hG7 (wpAny_mono (pg.run _ s7 _ H7 x u _ I7' r7 (step x H7 y7)) (fun _ _ z hg => (⟨hg, z⟩ : G0 ≤ _ ∧ _)) fun _ _ z _ => z)) fun _ s8 ⟨hG8, σ8, H8, I8, hw8, q8⟩ => ?_)
      refine seg_bind_wrap (wpAny_tests_nil ?_)
      simp only [if_true]
      have hy : ∀ v, yieldOut cenv v = yieldValue v := fun v => by simp only [yieldOut, hco, Bool.false_eq_true, if_false]
      simp only [hy]
      rw [Sem.bind_eq_wrap', Sem.bind_eq_wrap', Sem.wrap_wrap, Sem.wrap_wrap]
      refine seg_wrap (thnF (GenW.wpAny_gsz hG8 (wpAny_mono (pe.run _ s8 σ8 H8 _ I8 q8) (fun _ _ z hg => (⟨hg, z⟩ : G0 ≤ _ ∧ _)) fun _ _ z _ => z)) fun z s10 ⟨hG10, yv, H10, I10, r10, b, hb, nx⟩ => ?_)
      subst hb
      obtain rfl : z = Value.bool b := r10
      refine seg_at (seg_yield rfl rfl rfl ⟨b, σ8, H10, rfl, I10.unpinned (pins := []), hG10, ?_⟩)
      by_cases hb : b = ev
      · rw [if_pos hb] at nx ⊢
        intro s'' wk
        obtain ⟨m', hm', w'⟩ := hNx H10 nx
        obtain ⟨n', rfl⟩ : ∃ n', n = n' + 1 := ⟨n - 1, by omega⟩
        have pin' : ∀ b ∈ fp, ∀ o, s7.heap.get? b = some o → s10.heap.get? b = some o ∧ H10 b = none := fun b hb o e =>
          let z := I10.pin (b, o) (List.mem_append_right _ (List.mem_append_right _ (mem_pinsAt hb e)))
          ⟨z.1, z.2.1⟩
        have hl : (wipe σ vs).length = σ8.length := by rw [← hw8, wipe_length]
        have I11 : Inv (gCx X s₁ H₁ cenv fp pn) [] (wipe σ vs) H10 s10 := (I10.unpinned (pins := [])).weak hl fun j v e => by
          rw [← hw8] at e
          exact (wipe_some e).1
        refine seg_again rfl (ih n' (by omega) (i + 1) m' H10 s'' s'' (by omega) w' (wk.inv I11) ?_ (fun b hb => ?_) (Nat.le_trans hG10 wk.size))
        · exact T.keep _ _ _ st7 fun b hb o e => by rw [wk.heap]; exact (pin' b hb o e).1
        · obtain ⟨o, e, _⟩ := T.obj _ _ st7 b hb
          exact (pin' b hb o e).2
      · rw [if_neg hb] at nx ⊢
        exact nx
theorem seg_start {elt tg iter : Expr} {scope : Scope} {pos : Pos} {it : Addr} {tn : Nat → Heap → Prop} {J : It} {R : GenEnd} {Y : Protocol} {n : Nat} {s₀ s : Shared}
    (T : Turn X.prog X.w X.K tg J fp it tn) (st : tn 0 s.heap)
    (loop : Seg (model X.prog X.w) X.A.in1.in1 R Y n s₀ (.compLoop (.GeneratorExp elt [⟨tg, iter, [], 0⟩] scope pos) 0 (.ref it) .none cenv) ((model X.prog X.w).den (.compLoop (.GeneratorExp elt [⟨tg, iter, [], 0⟩] scope pos) 0 (.ref it) .none cenv)) [] s) :
    Seg (model X.prog X.w) X.A.in1.in1 R Y n s₀ (.compStart (.GeneratorExp elt [⟨tg, iter, [], 0⟩] scope pos) 0 (.ref it) .none cenv) ((model X.prog X.w).den (.compStart (.GeneratorExp elt [⟨tg, iter, [], 0⟩] scope pos) 0 (.ref it) .none cenv)) [] s := by
  show Seg _ X.A.in1.in1 _ _ _ s₀ _ ((compStart (.GeneratorExp elt [⟨tg, iter, [], 0⟩] scope pos) 0 (.ref it) .none cenv).onRaise (leaving cenv)) [] s
  unfold compStart
  rw [Sem.onRaise_eq_wrap]
  show Seg _ X.A.in1.in1 _ _ _ s₀ _ ((ask >>= _).wrap _ _ _ _) [] s
  refine seg_bind_wrap (wpAny_askSetting ?_)
  split
  · exact seg_again rfl loop
  · first
      | exact seg_bind_wrap (wpAny_rule (seg_bind_wrap (wpAny_standAt (seg_bind_wrap (T.self _ 0 s _ _ st (seg_again rfl loop))))))
      | (refine seg_bind_wrap (wpAny_rule ?_); show Seg _ X.A.in1.in1 _ _ _ s₀ _ ((standAt iter.pos >>= _).wrap _ _ _ _) [] s; exact seg_bind_wrap (wpAny_standAt (seg_bind_wrap (T.self _ 0 s _ _ st (seg_again rfl loop)))))
def Sleeps (X : Cx) (s₁ : Shared) (H₁ : Hp) (cenv : Env) (fp : List Addr) (pn : List (Addr × Obj)) (ev : Bool) (Qx : Bool → Hp → Prop) (a : Addr) (g : Nat) (m : Nat) (s : Shared) : Prop :=
  s.heap.IsGen a g ∧ s.heap.NoLimit ∧ AllBare s.gens ∧ ∃ gs, s.gens[g]? = some gs ∧ ∀ s'', Woken s s'' → gs.Goes (model X.prog X.w) X.A.in1.in1 (gR X s₁ H₁ cenv fp pn ev Qx) (gY X s₁ H₁ cenv fp pn ev (g + 1) Qx) m (.send .none) s''
theorem sleeps_next {ev : Bool} {Qx : Bool → Hp → Prop} {a : Addr} {g m : Nat} {s : Shared} {o : Obj} (hh : X.A.handled = none) (hdp : X.A.depth < recursionLimit) (hpn : pn = [(a, o)]) (hgen : ∀ h : Heap, h.get? a = some o → h.IsGen a g)
    (S : Sleeps X s₁ H₁ cenv fp pn ev Qx a g m s) :
    wpAny (model X.prog X.w) X.A.in1 (pyNext (.ref a)) (fun r s' => match r with
      | none => ∃ σ' H', Inv (gCx X s₁ H₁ cenv fp pn) [] σ' H' s' ∧ Qx ev H'
      | some v => ∃ b, v = .bool b ∧ if b = ev then ∃ m', m' < m ∧ Sleeps X s₁ H₁ cenv fp pn ev Qx a g m' s' else ∃ σ' H', Inv (gCx X s₁ H₁ cenv fp pn) [] σ' H' s' ∧ Qx b H') (fun _ _ => False) s := by
  obtain ⟨hg, hl, hbr, gs, hgs, hgo⟩ := S
  refine wpAny_pyNext_genexpQ (A := X.A.in1) (n := m) (P := gP X s₁ H₁ cenv fp pn ev Qx) (Y := gY X s₁ H₁ cenv fp pn ev (g + 1) Qx) hh hl hdp hg hgs (hgo _ (Woken.set hbr rfl)) (fun v s2 gs' hb hv => ?_) (fun s2 hp h' hk => ?_)
  · obtain ⟨b, σ', H', hv1, I, hsz, hq⟩ := hv
    have wk : Woken s2 (s2.setGen g gs') := Woken.set I.bare hb
    refine ⟨b, hv1, ?_⟩
    by_cases hbe : b = ev
    · rw [if_pos hbe] at hq ⊢
      cases m with
      | zero => exact (hq s2 ⟨rfl, rfl, I.bare, Nat.le_refl _⟩).elim
      | succ k =>
        have I2 := wk.inv I
        refine ⟨k, Nat.lt_succ_self k, hgen _ (I2.pin (a, o) (by rw [show (gCx X s₁ H₁ cenv fp pn).pn = pn from rfl, hpn]; simp)).1, I2.nolimit, I2.bare, gs', ?_, fun s'' w2 => hq s'' ⟨w2.heap.trans wk.heap, w2.os.trans wk.os, w2.bare, Nat.le_trans wk.size w2.size⟩⟩
        have hlt : g < s2.gens.size := hsz
        simp only [Shared.setGen]
        rw [Array.getElem?_setIfInBounds_self]
        simp [hlt]
    · rw [if_neg hbe] at hq ⊢
      exact ⟨σ', H', wk.inv I, hq⟩
  · obtain ⟨σ', H', I, q⟩ := hp
    refine ⟨σ', H', inv_rest I hk rfl (bare_set I.bare rfl), q⟩
end
section
variable {X : Cx} {pins : List (Addr × Obj)} {σ : St} {H : Hp} {s s' : Shared}
theorem gen_begin {scope : Scope} {own : List (Str × Nat)} {fp : List Addr} {code : Value} {cenv : Env} {a : Addr} {o : Obj} {m : Str → Option Value} (I : Inv X pins σ H s) (ok : BlkOk X.N X.env.scope scope own) (hN : X.N.Nodup) (hcell : ∀ y ∈ scope.names, y.2 ≠ .cell)
    (hfp : ∀ b ∈ fp, FpOk X pins H b ∧ b < s.heap.objs.size) (hce : cenv = genEnv scope (cloFrom X.env.cells scope.names []) s.heap.objs.size code builtinsNs X.env)
    (kp : ∀ b o, s.heap.get? b = some o → s'.heap.get? b = some o) (ho : s'.os = s.os) (hb : AllBare s'.gens) (hns : s'.heap.Ns s.heap.objs.size m) (ha : s.heap.objs.size < a) (hga : s'.heap.get? a = some o) (hod : ∀ v, o.data ≠ .cell v) :
    Inv (gCx X s H cenv fp [(a, o)]) [] (wipe σ (own.map (·.2))) H s' := by
  have hfree : ∀ y ∈ scope.names, y.2 = .free → ∃ c, X.env.cells.lookup y.1 = some c := fun y hy e => by
    rcases ok.free y hy e with k | k
    · exact I.ok.has _ (.inl k)
    · exact I.ok.has _ (.inr k)
  have hL : cenv.locals = s.heap.objs.size := by rw [hce]; rfl
  have hcl : cenv.cells = cloFrom X.env.cells scope.names [] := by rw [hce]; rfl
  have hsc : cenv.scope = scope := by rw [hce]; rfl
  have cm : ∀ {y c}, cenv.cells.lookup y = some c → X.env.cells.lookup y = some c ∧ c < s.heap.objs.size := fun {y c} e => by
    rw [hcl] at e
    rcases cloFrom_mem (PySem.mem_of_lookup e) with hm | ⟨h1, rfl⟩
    · cases hm
    · obtain ⟨c, hc⟩ := hfree _ h1 rfl
      have hc : X.env.cells.lookup y = some c := hc
      rw [hc]
      obtain ⟨w, z⟩ := I.cell _ _ hc
      exact ⟨rfl, z.lt⟩
  have look : ∀ {y}, scope.names.lookup y = some .free → ∃ c, cenv.cells.lookup y = some c := fun {y} hl => by
    have hy : (y, NameKind.free) ∈ scope.names := PySem.mem_of_lookup hl
    rw [hcl]
    exact mem_lookup (cloFrom_has (cells := X.env.cells) (acc := []) hy)
  have okB : (gCx X s H cenv fp [(a, o)]).Ok := by
    refine ⟨I.ok.mod, by show cenv.scope.kind = _; rw [hsc]; exact ok.kind, by show cenv.globals = _; rw [hce]; exact I.ok.glob, by show cenv.builtins = _; rw [hce]; rfl, by show s.heap.objs.size ≤ cenv.locals; rw [hL]; exact Nat.le_refl _,
      fun y z c e1 e2 => I.ok.inj y z c (cm e1).1 (cm e2).1, fun y hy => ?_, fun y c z _ => absurd (show false = true from z) Bool.false_ne_true, fun h => I.ok.hd h, Around.frames_deeper (A := X.A.in1.in1) I.ok.frames, .inr ⟨rfl, by show cenv.frame = some cenv.locals; rw [hce]; rfl⟩, fun b hb => ⟨?_, fun y c e z => ?_⟩, I.bs, Nat.le_trans I.ok.bsz I.sz, fun b o e hb => ?_, fun b hb z => ?_, I.stack, I.stkFree⟩
    · show ∃ c, cenv.cells.lookup y = some c
      have hy : cenv.scope.names.lookup y = some .cell ∨ cenv.scope.names.lookup y = some .free := hy
      rw [hsc] at hy
      rcases hy with hy | hy
      · exact absurd rfl (hcell _ (PySem.mem_of_lookup hy))
      · exact look hy
    · show b ≠ cenv.locals
      rw [hL]; exact Nat.ne_of_lt (hfp b hb).2
    · have e : cenv.cells.lookup y = some c := e
      exact (hfp b hb).1.2.2.2.2.1 y c (cm e).1 z
    · rcases (hfp b hb).1.2.2.2.1 with z | z
      · exact I.ok.noex b o e z
      · exact absurd (Nat.lt_of_lt_of_le (Heap.lt_size e) (Nat.le_trans I.ok.bsz z)) (Nat.lt_irrefl _)
    · rcases List.mem_cons.mp (I.stkSub b z) with z | z
      · exact (hfp b hb).1.2.1 z
      · exact (hfp b hb).1.2.2.1 z
  have nofr : a ∉ frs X.stack := fun z => by
    rcases List.mem_cons.mp (I.stkSub _ z) with e | e
    · have h1 := I.lt
      rw [← e] at h1
      exact absurd (Nat.lt_trans h1 ha) (Nat.lt_irrefl _)
    · exact I.nofs (Nat.le_of_lt ha) e
  refine ⟨okB, ho, hb, Un.kept kp, ⟨m, ?_, fun i y av e1 e2 e3 => ?_⟩, fun y c e => ?_, ?_, fun y c e => ?_, fun p hp => ?_, I.hok.kept kp, by rw [wipe_length]; exact I.len⟩
  · show Heap.Ns _ cenv.locals _
    rw [hL]
    exact hns
  · obtain ⟨e2, hne⟩ := wipe_some e2
    have e3 : Vis cenv.scope y := e3
    rw [hsc] at e3
    have no : ∀ k, scope.names.lookup y = some k → ¬ (k = .local ∨ k = .cell) := fun k hk hh => by
      rcases ok.own _ (PySem.mem_of_lookup hk) hh with e' | e'
      · obtain ⟨p, hp, hpy⟩ := List.mem_map.mp e'
        have e3 := ok.ix p hp
        have : p.1 = y := hpy
        rw [this] at e3
        exact hne (List.mem_map.mpr ⟨p, hp, nodup_ix hN e3 e1⟩)
      · exact e' (List.mem_of_getElem? e1)
    have hfr : scope.names.lookup y = some .free := by
      rcases e3 with e3 | e3 | e3
      · exact absurd (.inl rfl) (no _ e3)
      · exact absurd (.inr rfl) (no _ e3)
      · exact e3
    obtain ⟨m', hn, hl⟩ := I.loc
    have hvis : Vis X.env.scope y := (ok.free _ (PySem.mem_of_lookup hfr) rfl).elim (fun k => .inr (.inl k)) (fun k => .inr (.inr k))
    obtain ⟨w', r, q⟩ := hl i y av e1 e2 hvis
    obtain ⟨c, h1⟩ := look hfr
    refine ⟨w', r, .inr ⟨.inr (by show cenv.scope.names.lookup y = _; rw [hsc]; exact hfr), c, h1, ?_⟩⟩
    have h2 := (cm h1).1
    rcases q with ⟨k, _⟩ | ⟨_, c', e', z⟩
    · have k : X.env.scope.names.lookup y = some .local := k
      rcases ok.free _ (PySem.mem_of_lookup hfr) rfl with k' | k' <;> rw [show X.env.scope.names.lookup y = _ from k'] at k <;> cases k
    · rw [h2] at e'; cases e'
      exact z.keeps kp
  · have e : cenv.cells.lookup y = some c := e
    obtain ⟨w', z⟩ := I.cell y c (cm e).1
    exact ⟨w', z.keeps kp⟩
  · show H cenv.locals = none
    rw [hL]; exact I.hok.fresh (Nat.le_refl _)
  · have e : cenv.cells.lookup y = some c := e
    exact I.freeC y c (cm e).1
  · have hp : p = (a, o) := by simpa using hp
    subst hp
    exact ⟨hga, I.hok.fresh (Nat.le_of_lt ha), by show a ≠ cenv.locals; rw [hL]; exact Nat.ne_of_gt ha, nofr, hod⟩
end
structure GenK (scope : Scope) : Prop where
  co : scope.isCoroutine = false
  cell : ∀ y ∈ scope.names, y.2 ≠ .cell
  dot : scope.names.lookup (".0" : Str) = some NameKind.local
def genKB (scope : Scope) : Bool := !scope.isCoroutine && (scope.names.all fun y => !decide (y.2 = .cell)) && decide (scope.names.lookup (".0" : Str) = some NameKind.local)
theorem genK_by {scope : Scope} (h : genKB scope = true) : GenK scope := by
  unfold genKB at h
  simp only [Bool.and_eq_true, Bool.not_eq_true', List.all_eq_true, decide_eq_true_eq, decide_eq_false_iff_not] at h
  exact ⟨h.1.1, h.1.2, h.2⟩
def GTurn (ev : Bool) (g : TG) (te : TE) (vs : List Nat) (σ : St) (Qx : Bool → Hp → Prop) (J : It) (H2 : Hp) : Prop :=
  ∃ W : Nat → Nat → Hp → Prop, (∃ m, W 0 m H2) ∧ ∀ i m H, W i m H → (J.stop i H ∧ Qx ev H) ∨ (J.go i H ∧ ∃ Nx : Hp → Prop, (∀ H', Nx H' → ∃ m', m' < m ∧ W (i + 1) m' H') ∧ ∀ x H', J.yld i H x H' → g x (wipe σ vs) H' fun σ2 H3 => wipe σ2 vs = wipe σ vs ∧
      te σ2 H3 fun y H4 => ∃ b, y = .bl b ∧ if b = ev then Nx H4 else Qx b H4)
def tGen (ev : Bool) (P : Addr) (wi : TI) (g : TG) (te : TE) (vs : List Nat) : TE := fun σ H Q => wi σ H fun J H1 => GxR.TabG H1 P ∧ ∀ H2, GxR.Tabbed P H1 H2 → GTurn ev g te vs σ (fun b H' => Q (.bl b) H') J H2
section
variable {X : Cx} {pins : List (Addr × Obj)} {σ : St} {H : Hp} {s : Shared}
theorem gen_make {ev : Bool} {c P : Addr} {elt tg iter : Expr} {scope : Scope} {own : List (Str × Nat)} {gpos : Pos} {wi : TI} {g : TG} {te : TE} {k : Nat} {Qx : Bool → Hp → Prop} {Q' : Value → Shared → Prop}
    (hr : Room k X.A) (TB : LamX.TabB X.base X.mg c P) (hcode : X.env.code = .ref c) (hc : X.calm = true) (hN : X.N.Nodup) (hi : PI X tg iter wi) (ok : BlkOk X.N X.env.scope scope own) (gk : GenK scope)
    (hg : ∀ (s : Shared) (H : Hp) (cl : List (Str × Addr)) (C : Addr) (code : Value) (fp : List Addr) (pn : List (Addr × Obj)), PG (gCx X s H (genEnv scope cl C code builtinsNs X.env) fp pn) tg g)
    (he : ∀ (s : Shared) (H : Hp) (cl : List (Str × Addr)) (C : Addr) (code : Value) (fp : List Addr) (pn : List (Addr × Obj)), PE (gCx X s H (genEnv scope cl C code builtinsNs X.env) fp pn) elt te)
    (hs : ∀ v, genFold iter X.env v = pure v) (I : Inv X pins σ H s) (h : wi σ H fun J H1 => GxR.TabG H1 P ∧ ∀ H2, GxR.Tabbed P H1 H2 → GTurn ev g te (own.map (·.2)) σ Qx J H2)
    (hQ : ∀ (a : Addr) (gn m : Nat) (s4 s5 : Shared) (H4 : Hp) (cenv : Env) (fp : List Addr) (o : Obj), Inv X pins σ H4 s4 → (∀ b ∈ fp, FpOk X pins H4 b) → (∀ h : Heap, h.get? a = some o → h.IsGen a gn) →
      Sleeps X s4 H4 cenv fp [(a, o)] ev Qx a gn m s5 → Q' (.ref a) s5) :
    wpAny (model X.prog X.w) X.A (eval (.GeneratorExp elt [⟨tg, iter, [], 0⟩] scope gpos) X.env) Q' X.xe s := by
  have hfree : ∀ y ∈ scope.names, y.2 = .free → ∃ c, X.env.cells.lookup y.1 = some c := fun y hy e => by
    rcases ok.free y hy e with k | k
    · exact I.ok.has _ (.inl k)
    · exact I.ok.has _ (.inr k)
  refine wpAny_GeneratorExp_make gk.co (closure_ok hfree) gk.cell gk.dot ok.kind (by have := hr.dp; omega) ?_ hs
  refine thn (hi.run pins s σ H _ I h) fun xv s1 hx => thn hx fun itv s2 h2 => ?_
  obtain ⟨it, fp, tn, J, H2, e, I2, T, st2, f2, ⟨ps, hP, ht⟩, q2⟩ := h2
  subst e
  have hPs : s2.heap.get? P = some { cls := .none, data := .fields ps } := I2.hok P _ hP
  have cd : PySem.W.CodeHd s2.heap c P := TB.code.keeps I2.bk
  have nP : ∀ b ∈ fp, b ≠ P := fun b hb z => by
    have := (f2 b hb).1
    rw [z, hP] at this
    cases this
  have cont : ∀ (code : Value) (h3 : Heap) (tk : Nat) (ps' : Array Value), Heap.ExtBut P s2.heap h3 → s2.heap.objs.size ≤ h3.objs.size → h3.get? P = some { cls := .none, data := .fields ps' } → (∃ more, ps' = ps ++ more) → TriplesOk ps'.toList →
      wpAny (model X.prog X.w) X.A (builtinsFor X.env.globals X.env.builtins) (fun bi s₄ => ∀ (h' : Heap), (h'.Ns s₄.heap.objs.size fun y => if y = Str.ofString ".0" then some (.ref it) else none) → Heap.SameBut s₄.heap.objs.size (s₄.heap.push { cls := Value.type "frame", data := Data.dict #[] }) h' →
          Q' (Value.ref h'.objs.size) { heap := h'.push { cls := Value.type "generator", data := Data.fields #[Value.int (↑s₄.gens.size) 0, Value.str (Str.ofString "<genexpr>") (s₄.toks + 1), Value.str (X.env.qual ++ Str.ofString "<genexpr>") (s₄.toks + 1 + 1)] }, gens := s₄.gens.push (GenState.fresh (Code.compStart (elt.GeneratorExp [⟨tg, iter, [], 0⟩] scope gpos) 0 (.ref it) Value.none (genEnv scope (cloFrom X.env.cells scope.names []) s₄.heap.objs.size code bi X.env))), drawn := s₄.drawn, toks := s₄.toks + 1 + 1 + 1, os := s₄.os }) X.xe { s2 with heap := h3, toks := tk } := by
    intro code h3 tk ps' hx hsz hP3 hmore ht3
    obtain ⟨bm, ob, e1, e2, e3, e4, e5, e6, e7, e8⟩ := TB.bm
    have keep3 : ∀ b u, b ≠ P → s2.heap.get? b = some u → h3.get? b = some u := fun b u hb e => hx b u hb e
    refine wpAny_builtinsFor (m := X.mg) (by rw [I2.ok.glob]; exact (I2.mod.glob.keeps I2.bk).extBut hx TB.gP) e1 e2 (keep3 _ _ e4 (I2.bk _ _ e5)) e6 e7 e8 ?_
    intro h' hn' hs'
    obtain ⟨more, em⟩ := hmore
    have I4 := GxR.inv_tab (more := more) (h' := h3) (g' := s2.gens) (d' := s2.drawn) (t' := tk) I2 hP keep3 (by rw [← em]; exact hP3) I2.bare
    generalize hH4 : upd H2 P (.tbl (ps ++ more)) = H4 at I4
    have tb : GxR.Tabbed P H2 H4 := by
      rw [← hH4]
      exact ⟨⟨ps ++ more, upd_same, by rw [← em]; exact ht3⟩, fun b hb => upd_ne hb⟩
    obtain ⟨W, ⟨m0, w0⟩, turn⟩ := q2 H4 tb
    have f4 : ∀ b ∈ fp, FpOk X pins H4 b ∧ b < h3.objs.size := fun b hb => by
      obtain ⟨o, eo, _⟩ := T.obj _ _ st2 b hb
      refine ⟨⟨?_, (f2 b hb).2⟩, Nat.lt_of_lt_of_le (Heap.lt_size eo) hsz⟩
      rw [← hH4, upd_ne (nP b hb)]
      exact (f2 b hb).1
    have st3 : tn 0 h3 := T.keep _ _ _ st2 fun b hb o e => keep3 b o (nP b hb) e
    have hC : h'.objs.size = h3.objs.size + 1 := by rw [hs'.1, Heap.size_push]
    have kp' : ∀ b o, h3.get? b = some o → h'.get? b = some o := fun b o e => hs'.extBut b o (Nat.ne_of_lt (Heap.lt_size e)) (Heap.get?_push_of_some _ e)
    generalize hob : ({ cls := Value.type "generator", data := Data.fields #[Value.int (↑s2.gens.size) 0, Value.str (Str.ofString "<genexpr>") (tk + 1), Value.str (X.env.qual ++ Str.ofString "<genexpr>") (tk + 1 + 1)] } : Obj) = og
    have hbg : AllBare (s2.gens.push (GenState.fresh (Code.compStart (elt.GeneratorExp [⟨tg, iter, [], 0⟩] scope gpos) 0 (.ref it) Value.none (genEnv scope (cloFrom X.env.cells scope.names []) h3.objs.size code builtinsNs X.env)))) := AllBare.push I2.bare rfl
    generalize hcenv : genEnv scope (cloFrom X.env.cells scope.names []) h3.objs.size code builtinsNs X.env = cenv at hbg
    have goal := hQ h'.objs.size s2.gens.size (m0 + 1) { s2 with heap := h3, toks := tk }
      { heap := h'.push og, gens := s2.gens.push (GenState.fresh (Code.compStart (elt.GeneratorExp [⟨tg, iter, [], 0⟩] scope gpos) 0 (.ref it) Value.none cenv)), drawn := s2.drawn, toks := tk + 1 + 1 + 1, os := s2.os } H4 cenv fp og I4 (fun b hb => (f4 b hb).1)
      (fun h e => by subst hob; exact ⟨_, _, _, e, rfl, rfl, rfl⟩)
    show Q' (Value.ref h'.objs.size) _
    have hget : (h'.push og).get? h'.objs.size = some og := Heap.get?_push_size _ (by subst hob; rfl)
    have kp5 : ∀ b o, h3.get? b = some o → (h'.push og).get? b = some o := fun b o e => Heap.get?_push_of_some _ (kp' b o e)
    have I5 : Inv (gCx X { s2 with heap := h3, toks := tk } H4 cenv fp [(h'.objs.size, og)]) [] (wipe σ (own.map (·.2))) H4 { heap := h'.push og, gens := s2.gens.push (GenState.fresh (Code.compStart (elt.GeneratorExp [⟨tg, iter, [], 0⟩] scope gpos) 0 (.ref it) Value.none cenv)), drawn := s2.drawn, toks := tk + 1 + 1 + 1, os := s2.os } :=
      gen_begin (code := code) I4 ok hN gk.cell f4 hcenv.symm kp5 rfl hbg (hn'.push _) (by show h3.objs.size < h'.objs.size; omega) hget (fun v z => by subst hob; cases z)
    have hgoal := goal ⟨⟨og, _, _, hget, by subst hob; rfl, by subst hob; rfl, by subst hob; rfl⟩, I5.nolimit, hbg, _, Array.getElem?_push_size .., fun s'' wk => ⟨rfl, ?_⟩⟩
    · exact hgoal
    · have I6 := wk.inv I5
      have st6 : tn 0 s''.heap := by
        rw [wk.heap]
        exact T.keep _ _ _ st3 fun b _ o e => kp5 b o e
      have pg := hg { s2 with heap := h3, toks := tk } H4 (cloFrom X.env.cells scope.names []) h3.objs.size code fp [(h'.objs.size, og)]
      have pe := he { s2 with heap := h3, toks := tk } H4 (cloFrom X.env.cells scope.names []) h3.objs.size code fp [(h'.objs.size, og)]
      rw [hcenv] at pg pe
      refine seg_start T st6 (seg_loop (G0 := s2.gens.size + 1) hc (by rw [← hcenv]; exact gk.co) T pg pe (fun b hb p hp => ?_) turn m0 0 m0 H4 s'' s'' (Nat.le_refl _) w0 I6 st6 (fun b hb => (f4 b hb).1.1) ?_)
      · have hp : p = (h'.objs.size, og) := by simpa using hp
        subst hp
        show h'.objs.size ≠ b
        have h1 : b < h3.objs.size := (f4 b hb).2
        have h2 : h'.objs.size = h3.objs.size + 1 := hC
        exact Nat.ne_of_gt (by rw [h2]; exact Nat.lt_succ_of_lt h1)
      · have := wk.size
        simp only [Array.size_push] at this
        exact this
  refine ⟨I2.nolimit, ?_⟩
  cases hf : codeAmong gpos ps.toList with
  | none =>
    refine wpAny_genexprCodeX hcode (cd.code hPs ht) (cd.tab hPs) hf fun c' h' tk hx hge hlt hco' _ htab' _ => ?_
    obtain ⟨o1, vs, f1, tf, fl, tgg, inF, tx, tt, op, _, _, _, _, _, _, _, _, _, htr, _⟩ := hco'
    exact cont _ h' tk _ hx (Nat.le_trans hge (Nat.le_of_lt hlt)) htab'.2 ⟨_, rfl⟩ htr
  | some cv =>
    refine wpAny_genexprCode_hit hcode (cd.code hPs ht) hf ?_
    exact cont cv s2.heap s2.toks ps (Heap.ExtBut.refl _ _) (Nat.le_refl _) hPs ⟨#[], by simp⟩ ht
theorem back_to {s4 s' : Shared} {H4 H' : Hp} {σ' : St} {cenv : Env} {fp : List Addr} {pn : List (Addr × Obj)} (I4 : Inv X pins σ H4 s4) (f4 : ∀ b ∈ fp, FpOk X pins H4 b) (I : Inv (gCx X s4 H4 cenv fp pn) [] σ' H' s') : Inv X pins σ H' s' :=
  I4.call' (ch := fp) I.os I.base I.hok I.bare fun b hb => ⟨(f4 b hb).2.2.2.1, (f4 b hb).2.1, (f4 b hb).2.2.2.2.1, (f4 b hb).2.2.2.2.2⟩
theorem pe_allG {c P : Addr} {elt tg iter : Expr} {scope : Scope} {own : List (Str × Nat)} {p pos gpos : Pos} {wi : TI} {g : TG} {te : TE} {k : Nat}
    (hr : Room k X.A) (hgl : Gl X "all") (hm : X.mg "all" = none) (hb : bootBuiltins "all" = some (.builtin "all")) (TB : LamX.TabB X.base X.mg c P) (hcode : X.env.code = .ref c) (hc : X.calm = true) (hN : X.N.Nodup) (hi : PI X tg iter wi) (ok : BlkOk X.N X.env.scope scope own) (gk : GenK scope)
    (hg : ∀ (s : Shared) (H : Hp) (cl : List (Str × Addr)) (C : Addr) (code : Value) (fp : List Addr) (pn : List (Addr × Obj)), PG (gCx X s H (genEnv scope cl C code builtinsNs X.env) fp pn) tg g)
    (he : ∀ (s : Shared) (H : Hp) (cl : List (Str × Addr)) (C : Addr) (code : Value) (fp : List Addr) (pn : List (Addr × Obj)), PE (gCx X s H (genEnv scope cl C code builtinsNs X.env) fp pn) elt te)
    (hs : ∀ v, genFold iter X.env v = pure v := by intro _; rfl)
    (hst : starEach [.GeneratorExp elt [⟨tg, iter, [], 0⟩] scope gpos] X.env = (false, eval (.GeneratorExp elt [⟨tg, iter, [], 0⟩] scope gpos) X.env) :: starEach [] X.env := by rfl) :
    PE X (.Call (.Name "all" p) [.GeneratorExp elt [⟨tg, iter, [], 0⟩] scope gpos] [] pos) (tGen true P wi g te (own.map (·.2))) := by
  refine ⟨fun pins s σ H Q I h => ?_⟩
  refine wpAny_Call_Name_kw (ld_blt I hgl hm hb ?_)
  refine PyProof.Rows.callWith_builtin1 ?_ hst (by rfl)
  rw [hst]
  show wpAny _ _ (spliced ((false, eval (.GeneratorExp elt [⟨tg, iter, [], 0⟩] scope gpos) X.env) :: backTo pos (starEach [] X.env))) _ _ s
  refine Calls.spliced_cons (gen_make (ev := true) hr TB hcode hc hN hi ok gk hg he hs I h fun a gn m s4 s5 H4 cenv fp o I4 f4 hgen S => ?_)
  refine Calls.spliced_nil ?_
  refine call_function_tree F.kind_all F.plain_all F.entry_all (F.args_all1 _) ?_
  unfold Builtin.«all»
  refine wpAny_bind (m := oneArg "all" _) (wpAny_pure ?_)
  refine wpAny_bind (wpAny_pyIter_gen S.1 ?_)
  refine wpAny_pure ⟨plainId_quiet F.plain_all_loop _, all_loop (St := Sleeps X s4 H4 cenv fp [(a, o)] true _ a gn) (fun m s S => ?_) m s5 S⟩
  refine wpAny_mono (sleeps_next hr.hd hr.depth rfl hgen S) (fun r s' hr => ?_) fun _ _ z => z
  cases r with
  | none =>
    obtain ⟨σ', H', J, q⟩ := hr
    exact ⟨.bl true, H', back_to I4 f4 J, rfl, q⟩
  | some v =>
    obtain ⟨b, hv, hb⟩ := hr
    refine ⟨b, hv, ?_⟩
    by_cases hbt : b = true
    · rw [if_pos hbt] at hb ⊢
      exact hb
    · rw [if_neg hbt] at hb ⊢
      obtain ⟨σ', H', J, q⟩ := hb
      exact ⟨.bl b, H', back_to I4 f4 J, rfl, q⟩
end
end GA
namespace DN
open PySem PySem.Spec PyProof.Rows L2
abbrev St := L2.St
mutual
inductive Dp (K : PySem.W.Frag) (H : Hp) : V → PyData → Prop
  | non : Dp K H .non .none
  | bl (b : Bool) : Dp K H (.bl b) (.bool b)
  | int (i : Int) : Dp K H (.int i) (.int i)
  | str (x : Str) : Dp K H (.str x) (.str x)
  | lst {a : Addr} {xs : List V} {ds : List PyData} : SqL K H a xs → DpAll K H xs ds → Dp K H (.ref a) (.list ds)
  | tup {a : Addr} {xs : List V} {ds : List PyData} : SqT K H a xs → DpAll K H xs ds → Dp K H (.ref a) (.tuple ds)
  | dct {a : Addr} : H a = some (.dK []) → Dp K H (.ref a) (.dict [])
inductive DpAll (K : PySem.W.Frag) (H : Hp) : List V → List PyData → Prop
  | nil : DpAll K H [] []
  | cons {v : V} {vs : List V} {d : PyData} {ds : List PyData} : Dp K H v d → DpAll K H vs ds → DpAll K H (v :: vs) (d :: ds)
end
mutual
theorem Dp.toC {K : PySem.W.Frag} {H : Hp} : ∀ {v : V} {d : PyData}, Dp K H v d → PyData.canLay0 d = true → L2.Dp K H v d
  | _, _, .non, _ => .non
  | _, _, .bl b, _ => .bl b
  | _, _, .int i, _ => .int i
  | _, _, .str s, _ => .str s
  | _, _, .lst s a, h => .lst s (DpAll.toC a (by unfold PyData.canLay0 at h; exact h))
  | _, _, .tup s a, h => .tup s (DpAll.toC a (by unfold PyData.canLay0 at h; exact h))
  | _, _, .dct _, h => by unfold PyData.canLay0 at h; cases h
theorem DpAll.toC {K : PySem.W.Frag} {H : Hp} : ∀ {vs : List V} {ds : List PyData}, DpAll K H vs ds → PyData.canLayAll0 ds = true → L2.DpAll K H vs ds
  | _, _, .nil, _ => .nil
  | _, _, .cons h t, c => by
    unfold PyData.canLayAll0 at c
    rw [Bool.and_eq_true] at c
    exact .cons (Dp.toC h c.1) (DpAll.toC t c.2)
end
theorem Dp.toL {K : PySem.W.Frag} {H : Hp} {v : V} {d : PyData} (h : Dp K H v d) (s : SeqAt.shaped d = true) : L2.Dp K H v d := h.toC (SeqAt.canLay_of_shaped s)
def hide (H : Hp) (O : List Addr) : Hp := fun b => if b ∈ O then none else H b
theorem hide_some {H : Hp} {O : List Addr} {b : Addr} {o : HO} (h : hide H O b = some o) : b ∉ O ∧ H b = some o := by
  unfold hide at h
  split at h
  · cases h
  · exact ⟨by assumption, h⟩
theorem hide_of {H : Hp} {O : List Addr} {b : Addr} {o : HO} (n : b ∉ O) (h : H b = some o) : hide H O b = some o := by
  unfold hide
  rw [if_neg n]
  exact h
def Xt (H H' : Hp) : Prop := ∀ b o, H b = some o → H' b = some o ∨ ∃ ps qs, o = .tbl ps ∧ H' b = some (.tbl qs)
theorem Xt.get {H H' : Hp} (x : Xt H H') : ∀ b o, H b = some o → (∀ ps, o ≠ .tbl ps) → H' b = some o := fun b o h n => (x b o h).elim id fun ⟨ps, _, e, _⟩ => absurd e (n ps)
theorem Xt.refl (H : Hp) : Xt H H := fun _ _ h => .inl h
theorem Xt.trans {H H1 H2 : Hp} (a : Xt H H1) (b : Xt H1 H2) : Xt H H2 := fun c o h => by
  rcases a c o h with e | ⟨ps, qs, e, e1⟩
  · exact b c o e
  · rcases b c _ e1 with e2 | ⟨ps', qs', _, e2⟩
    · exact .inr ⟨ps, qs, e, e2⟩
    · exact .inr ⟨ps, qs', e, e2⟩
theorem Xt.upd {H : Hp} {p : Addr} {o : HO} (h : H p = none) : Xt H (upd H p o) := fun b u e => by
  rw [upd_ne (ne_of_none e h)]
  exact .inl e
theorem Xt.there {H H' : Hp} (x : Xt H H') {b : Addr} (h : H' b = none) : H b = none := by
  cases e : H b with
  | none => rfl
  | some o =>
    rcases x b o e with q | ⟨_, _, _, q⟩ <;> rw [h] at q <;> cases q
structure TsT where
  gs : List Addr
  ls : List (Addr × Str)
def Tb (Ts : TsT) (H : Hp) : Prop := (∀ P ∈ Ts.gs, GxR.TabG H P) ∧ (∀ P ∈ Ts.ls, LamX.TabS H P.1 P.2) ∧ ∀ P ∈ Ts.ls, P.1 ∉ Ts.gs ∧ ∀ Q ∈ Ts.ls, Q.1 = P.1 → Q = P
theorem Tb.upd {Ts : TsT} {H : Hp} {p : Addr} {o : HO} (t : Tb Ts H) (h : ∀ u, H p = some u → (∀ ps, u ≠ .tbl ps) ∧ ∀ c q, u ≠ LamX.CodeO c q) : Tb Ts (upd H p o) := by
  obtain ⟨t1, t2, t3⟩ := t
  refine ⟨fun P hP => ?_, fun P hP => ?_, t3⟩
  · obtain ⟨ps, e, q⟩ := t1 P hP
    refine ⟨ps, ?_, q⟩
    rw [upd_ne (fun z => (h _ (by rw [← z]; exact e)).1 ps rfl)]
    exact e
  · obtain ⟨ps, e, q, r⟩ := t2 P hP
    refine ⟨ps, ?_, q, fun pos cv hc => ?_⟩
    · rw [upd_ne (fun z => (h _ (by rw [← z]; exact e)).1 ps rfl)]
      exact e
    · obtain ⟨c, e1, e2⟩ := r pos cv hc
      refine ⟨c, e1, ?_⟩
      rw [upd_ne (fun z => (h _ (by rw [← z]; exact e2)).2 c P.2 rfl)]
      exact e2
theorem lst_noc {xs : List V} : (∀ ps, HO.lst xs ≠ .tbl ps) ∧ ∀ c q, HO.lst xs ≠ LamX.CodeO c q := ⟨(fun _ z => nomatch z), fun c q (z : HO.lst xs = LamX.CodeO c q) => by unfold LamX.CodeO at z; cases z⟩
theorem Tb.kept {Ts : TsT} {H H' : Hp} (t : Tb Ts H) (k : ∀ b o, H b = some o → H' b = some o) : Tb Ts H' :=
  ⟨fun P hP => let ⟨ps, e, q⟩ := t.1 P hP; ⟨ps, k _ _ e, q⟩, fun P hP => (t.2.1 P hP).ext k, t.2.2⟩
theorem Tb.new {Ts : TsT} {H : Hp} {p : Addr} {o : HO} (t : Tb Ts H) (h : H p = none) : Tb Ts (L2.upd H p o) := t.upd fun u z => by rw [h] at z; cases z
theorem sqL_mono {K : PySem.W.Frag} {H H' : Hp} {a : Addr} {xs : List V} (h : ∀ o, (∀ ps, o ≠ .tbl ps) → H a = some o → H' a = some o) (s : SqL K H a xs) : SqL K H' a xs := by
  rcases s with (e | ⟨o, e⟩) | e
  · exact .inl (.inl (h _ (fun _ z => nomatch z) e))
  · exact .inl (.inr ⟨o, h _ (fun _ z => nomatch z) e⟩)
  · exact .inr e
theorem sqT_mono {K : PySem.W.Frag} {H H' : Hp} {a : Addr} {xs : List V} (h : ∀ o, (∀ ps, o ≠ .tbl ps) → H a = some o → H' a = some o) (s : SqT K H a xs) : SqT K H' a xs := by
  rcases s with (e | ⟨o, e⟩) | e
  · exact .inl (.inl (h _ (fun _ z => nomatch z) e))
  · exact .inl (.inr ⟨o, h _ (fun _ z => nomatch z) e⟩)
  · exact .inr e
mutual
theorem Dp.mono {K : PySem.W.Frag} {H H' : Hp} (x : Xt H H') : ∀ {v : V} {d : PyData}, Dp K H v d → Dp K H' v d
  | _, _, .non => .non
  | _, _, .bl b => .bl b
  | _, _, .int i => .int i
  | _, _, .str s => .str s
  | _, _, .lst s a => .lst (sqL_mono (fun o n e => x.get _ o e n) s) (DpAll.mono x a)
  | _, _, .tup s a => .tup (sqT_mono (fun o n e => x.get _ o e n) s) (DpAll.mono x a)
  | _, _, .dct e => .dct (x.get _ _ e (fun _ z => nomatch z))
theorem DpAll.mono {K : PySem.W.Frag} {H H' : Hp} (x : Xt H H') : ∀ {vs : List V} {ds : List PyData}, DpAll K H vs ds → DpAll K H' vs ds
  | _, _, .nil => .nil
  | _, _, .cons h t => .cons (Dp.mono x h) (DpAll.mono x t)
end
theorem hide_mono {H H' : Hp} {O : List Addr} (x : Xt H H') : Xt (hide H O) (hide H' O) := fun b o h => by
  obtain ⟨h1, h2⟩ := hide_some h
  rcases x b o h2 with e | ⟨ps, qs, e, e1⟩
  · exact .inl (hide_of h1 e)
  · exact .inr ⟨ps, qs, e, hide_of h1 e1⟩
theorem hide_sub {H : Hp} {O O' : List Addr} (s : ∀ b ∈ O', b ∈ O) : Xt (hide H O) (hide H O') := fun b o h => by
  obtain ⟨h1, h2⟩ := hide_some h
  exact .inl (hide_of (fun z => h1 (s b z)) h2)
theorem hide_out {H : Hp} {O : List Addr} : Xt (hide H O) H := fun b o h => .inl (hide_some h).2
theorem hide_upd {H : Hp} {O : List Addr} {a : Addr} {o : HO} (h : a ∈ O) : Xt (hide H O) (hide (upd H a o) O) := fun b u e => by
  obtain ⟨h1, h2⟩ := hide_some e
  exact .inl <| hide_of h1 (by rw [upd_ne (fun z => h1 (by rw [z]; exact h))]; exact h2)
theorem DpAll.len {K : PySem.W.Frag} {H : Hp} : ∀ {vs : List V} {ds : List PyData}, DpAll K H vs ds → vs.length = ds.length
  | _, _, .nil => rfl
  | _, _, .cons _ t => by rw [List.length_cons, List.length_cons, DpAll.len t]
theorem DpAll.get {K : PySem.W.Frag} {H : Hp} : ∀ {vs : List V} {ds : List PyData} {i : Nat} {v : V}, DpAll K H vs ds → vs[i]? = some v → ∃ d, ds[i]? = some d ∧ Dp K H v d
  | _, _, _, _, .nil, e => by simp at e
  | _, _, 0, _, .cons h _, e => by simp at e; subst e; exact ⟨_, rfl, h⟩
  | _, _, i + 1, v, .cons _ t, e => by
    obtain ⟨d, h1, h2⟩ := DpAll.get (i := i) (v := v) t (by simpa using e)
    exact ⟨d, by simpa using h1, h2⟩
theorem DpAll.get' {K : PySem.W.Frag} {H : Hp} : ∀ {vs : List V} {ds : List PyData} {i : Nat} {d : PyData}, DpAll K H vs ds → ds[i]? = some d → ∃ v, vs[i]? = some v ∧ Dp K H v d
  | _, _, _, _, .nil, e => by simp at e
  | _, _, 0, _, .cons h _, e => by simp at e; subst e; exact ⟨_, rfl, h⟩
  | _, _, i + 1, v, .cons _ t, e => by
    obtain ⟨d, h1, h2⟩ := DpAll.get' (i := i) t (by simpa using e)
    exact ⟨d, by simpa using h1, h2⟩
theorem DpAll.app {K : PySem.W.Frag} {H : Hp} : ∀ {vs ws : List V} {ds es : List PyData}, DpAll K H vs ds → DpAll K H ws es → DpAll K H (vs ++ ws) (ds ++ es)
  | _, _, _, _, .nil, s => s
  | _, _, _, _, .cons h t, s => .cons h (DpAll.app t s)
theorem DpAll.drop {K : PySem.W.Frag} {H : Hp} : ∀ {vs : List V} {ds : List PyData} (n : Nat), DpAll K H vs ds → DpAll K H (vs.drop n) (ds.drop n)
  | _, _, 0, r => r
  | _, _, _ + 1, .nil => .nil
  | _, _, n + 1, .cons _ t => DpAll.drop n t
theorem DpAll.ints {K : PySem.W.Frag} {H : Hp} : ∀ {vs : List V} {ns : List Int}, DpAll K H vs (ns.map .int) → vs = ns.map V.int
  | _, [], .nil => rfl
  | _, n :: ns, .cons h t => by
    cases h
    rw [DpAll.ints t]
    rfl
theorem DpAll.of_ints {K : PySem.W.Frag} {H : Hp} : ∀ (ns : List Int), DpAll K H (ns.map V.int) (ns.map .int)
  | [] => .nil
  | n :: ns => .cons (.int n) (DpAll.of_ints ns)
inductive Slot where
  | no | dat (d : PyData) | own (ds : List PyData)
abbrev En := List Slot
structure Rep (K : PySem.W.Frag) (Ts : TsT) (He : Hp) (O : List Addr) (σ : St) (H : Hp) (en : En) : Prop where
  len : en.length = σ.length
  dat : ∀ (i : Nat) (d : PyData), en[i]? = some (Slot.dat d) → ∃ v, σ[i]? = some (some v) ∧ Dp K (hide H O) v d
  own : ∀ (i : Nat) (ds : List PyData), en[i]? = some (Slot.own ds) → ∃ a vs, σ[i]? = some (some (V.ref a)) ∧ a ∈ O ∧ He a = none ∧ H a = some (.lst vs) ∧ DpAll K (hide H O) vs ds
  inj : ∀ (i j : Nat) (ds es : List PyData) (a : Addr), en[i]? = some (Slot.own ds) → en[j]? = some (Slot.own es) → σ[i]? = some (some (V.ref a)) → σ[j]? = some (some (V.ref a)) → i = j
  occ : ∀ b ∈ O, H b ≠ none ∧ ∀ ps, H b ≠ some (.tbl ps)
  ext : Xt He H
  tabs : Tb Ts H
section
variable {K : PySem.W.Frag} {Ts : TsT} {He : Hp} {O : List Addr} {σ : St} {H H' : Hp} {en : En}
theorem Rep.go (r : Rep K Ts He O σ H en) (x : Xt H H') (t : Tb Ts H') : Rep K Ts He O σ H' en :=
  ⟨r.len, fun i d e => let ⟨v, a, b⟩ := r.dat i d e; ⟨v, a, Dp.mono (hide_mono x) b⟩,
    fun i ds e => let ⟨a, vs, h1, h2, h3, h4, h5⟩ := r.own i ds e; ⟨a, vs, h1, h2, h3, x.get a _ h4 (fun _ z => nomatch z), DpAll.mono (hide_mono x) h5⟩,
    r.inj, fun b hb => by
      obtain ⟨h1, h2⟩ := r.occ b hb
      cases e : H b with
      | none => exact absurd e h1
      | some o =>
        have q := x.get b o e fun ps z => h2 ps (by rw [e, z])
        rw [q]
        exact ⟨by simp, fun ps z => h2 ps (by rw [e]; exact z)⟩, r.ext.trans x, t⟩
theorem Rep.hid (r : Rep K Ts He O σ H en) {D : Addr} (hD : H D = none) {o : HO} (no : ∀ ps, o ≠ .tbl ps) : Rep K Ts He (D :: O) σ (upd H D o) en := by
  have x : Xt H (upd H D o) := Xt.upd hD
  have nD : ∀ b u, H b = some u → b ≠ D := fun b u e => ne_of_none e hD
  have hx : Xt (hide H O) (hide (upd H D o) (D :: O)) := fun b u e => by
    obtain ⟨h1, h2⟩ := hide_some e
    refine .inl (hide_of (fun z => ?_) (by rw [upd_ne (nD b u h2)]; exact h2))
    rcases List.mem_cons.mp z with z | z
    · exact nD b u h2 z
    · exact h1 z
  refine ⟨r.len, fun i d e => let ⟨v, a, b⟩ := r.dat i d e; ⟨v, a, Dp.mono hx b⟩,
    fun i ds e => let ⟨a, vs, h1, h2, h3, h4, h5⟩ := r.own i ds e; ⟨a, vs, h1, List.mem_cons_of_mem _ h2, h3, x.get a _ h4 (fun _ z => nomatch z), DpAll.mono hx h5⟩,
    r.inj, fun b hb => ?_, r.ext.trans x, r.tabs.new hD⟩
  rcases List.mem_cons.mp hb with z | z
  · subst z
    rw [upd_same]
    exact ⟨by simp, fun ps z => no ps (Option.some.inj z)⟩
  · have hne : b ≠ D := fun e => (r.occ b z).1 (by rw [e]; exact hD)
    rw [upd_ne hne]
    exact r.occ b z
end
def tD (K : PySem.W.Frag) (Ts : TsT) (f : En → Option PyData) : TE := fun σ H Q => ∃ He O en d, Rep K Ts He O σ H en ∧ f en = some d ∧ ∀ v H', Xt H H' → Tb Ts H' → Dp K (hide H' O) v d → Q v H'
def DpB (K : PySem.W.Frag) (H : Hp) (O : List Addr) (v : V) (d : PyData) : Prop := Dp K (hide H O) v d ∨ ∃ a vs ds, v = .ref a ∧ d = .list ds ∧ H a = some (.lst vs) ∧ DpAll K (hide H O) vs ds
def tB (K : PySem.W.Frag) (Ts : TsT) (f : En → Option PyData) : TE := fun σ H Q => ∃ He O en d, Rep K Ts He O σ H en ∧ f en = some d ∧ ∀ v H', Xt H H' → Tb Ts H' → DpB K H' O v d → Q v H'
def tDs (K : PySem.W.Frag) (Ts : TsT) (f : En → Option (List PyData)) : TA := fun σ H Q => ∃ He O en ds, Rep K Ts He O σ H en ∧ f en = some ds ∧ ∀ vs H', Xt H H' → Tb Ts H' → DpAll K (hide H' O) vs ds → Q vs H'
def tT (K : PySem.W.Frag) (Ts : TsT) (f : En → Option Bool) : TT := fun σ H Q => ∃ He O en b, Rep K Ts He O σ H en ∧ f en = some b ∧ ∀ H', Xt H H' → Tb Ts H' → Q b H'
abbrev DE (X : Cx) (Ts : TsT) (e : Expr) (f : En → Option PyData) : Prop := PE X e (tD X.K Ts f)
abbrev DB (X : Cx) (Ts : TsT) (e : Expr) (f : En → Option PyData) : Prop := PE X e (tB X.K Ts f)
abbrev DA (X : Cx) (Ts : TsT) (es : List Expr) (f : En → Option (List PyData)) : Prop := PA X es (tDs X.K Ts f)
abbrev DT (X : Cx) (Ts : TsT) (e : Expr) (f : En → Option Bool) : Prop := PT X e (tT X.K Ts f)
abbrev DW (X : Cx) (Ts : TsT) (e : Expr) (f : En → Option Bool) : Prop := PW X e (tT X.K Ts f)
theorem PE.imp {X : Cx} {e : Expr} {t t' : TE} (h : PE X e t) (w : ∀ σ H Q, t' σ H Q → t σ H Q) : PE X e t' := ⟨fun pins s σ H Q I q => h.run pins s σ H Q I (w σ H Q q)⟩
theorem PT.imp {X : Cx} {e : Expr} {t t' : TT} (h : PT X e t) (w : ∀ σ H Q, t' σ H Q → t σ H Q) : PT X e t' := ⟨fun pins s σ H Q I q => h.run pins s σ H Q I (w σ H Q q)⟩
theorem PW.imp {X : Cx} {e : Expr} {t t' : TT} (h : PW X e t) (w : ∀ σ H Q, t' σ H Q → t σ H Q) : PW X e t' := ⟨fun wh pins s σ H Q I q => h.run wh pins s σ H Q I (w σ H Q q)⟩
theorem PA.imp {X : Cx} {es : List Expr} {t t' : TA} (h : PA X es t) (w : ∀ σ H Q, t' σ H Q → t σ H Q) : PA X es t' := ⟨fun pos pins s σ H Q I q => h.run pos pins s σ H Q I (w σ H Q q)⟩
theorem PS.imp {X : Cx} {st : Stmt} {t t' : TS} (h : PS X st t) (w : ∀ D σ H, t' D σ H → t D σ H) : PS X st t' := ⟨fun pins s σ H D I q => h.run pins s σ H D I (w D σ H q)⟩
theorem PSs.imp {X : Cx} {st : List Stmt} {t t' : TS} (h : PSs X st t) (w : ∀ D σ H, t' D σ H → t D σ H) : PSs X st t' := ⟨fun pins s σ H D I q => h.run pins s σ H D I (w D σ H q)⟩
section
variable {K : PySem.W.Frag} {Ts : TsT} {He : Hp} {O : List Addr} {σ : St} {H : Hp} {en : En} {f : En → Option PyData} {d : PyData}
theorem tD.of (r : Rep K Ts He O σ H en) (hf : f en = some d) {Q : VK} (h : ∀ v H', Xt H H' → Rep K Ts He O σ H' en → Dp K (hide H' O) v d → Q v H') : tD K Ts f σ H Q :=
  ⟨He, O, en, d, r, hf, fun v H' x t q => h v H' x (r.go x t) q⟩
theorem tB.of (r : Rep K Ts He O σ H en) (hf : f en = some d) {Q : VK} (h : ∀ v H', Xt H H' → Rep K Ts He O σ H' en → DpB K H' O v d → Q v H') : tB K Ts f σ H Q :=
  ⟨He, O, en, d, r, hf, fun v H' x t q => h v H' x (r.go x t) q⟩
theorem tDs.of {f : En → Option (List PyData)} {ds : List PyData} (r : Rep K Ts He O σ H en) (hf : f en = some ds) {Q : List V → Hp → Prop} (h : ∀ v H', Xt H H' → Rep K Ts He O σ H' en → DpAll K (hide H' O) v ds → Q v H') : tDs K Ts f σ H Q :=
  ⟨He, O, en, ds, r, hf, fun v H' x t q => h v H' x (r.go x t) q⟩
theorem tT.of {f : En → Option Bool} {b : Bool} (r : Rep K Ts He O σ H en) (hf : f en = some b) {Q : Bool → Hp → Prop} (h : ∀ H', Xt H H' → Rep K Ts He O σ H' en → Q b H') : tT K Ts f σ H Q :=
  ⟨He, O, en, b, r, hf, fun H' x t => h H' x (r.go x t)⟩
end
def fVar (i : Nat) : En → Option PyData := fun en => match en[i]? with
  | some (Slot.dat d) => some d
  | _ => none
def fOwn (i : Nat) : En → Option PyData := fun en => match en[i]? with
  | some (Slot.own ds) => some (.list ds)
  | some (Slot.dat d) => some d
  | _ => none
def fLit (d : PyData) : En → Option PyData := fun _ => some d
section
variable {X : Cx} {Ts : TsT} {pos : Pos}
theorem d_var (i : Nat) {x : Str} (hN : X.N[i]? = some x := by rfl) (hv : Vis X.env.scope x := by first | exact Or.inl rfl | exact Or.inr (Or.inl rfl) | exact Or.inr (Or.inr rfl)) (hd : (x == ("__debug__" : Str)) = false := by decide)
    (hcd : (x == ("__classdict__" : Str)) = false := by decide) : DE X Ts (.Name x pos) (fVar i) := PE.imp (pe_var hN hv hd hcd) fun σ H Q ⟨He, O, en, d, r, hf, k⟩ => by
  unfold fVar at hf
  split at hf
  · rename_i d' e
    cases hf
    obtain ⟨v, h1, h2⟩ := r.dat i _ e
    exact ⟨v, h1, k v H (Xt.refl H) r.tabs h2⟩
  · cases hf
theorem b_own (i : Nat) {x : Str} (hN : X.N[i]? = some x := by rfl) (hv : Vis X.env.scope x := by first | exact Or.inl rfl | exact Or.inr (Or.inl rfl) | exact Or.inr (Or.inr rfl)) (hd : (x == ("__debug__" : Str)) = false := by decide)
    (hcd : (x == ("__classdict__" : Str)) = false := by decide) : DB X Ts (.Name x pos) (fOwn i) := PE.imp (pe_var hN hv hd hcd) fun σ H Q ⟨He, O, en, d, r, hf, k⟩ => by
  unfold fOwn at hf
  split at hf
  · rename_i ds e
    cases hf
    obtain ⟨a, vs, h1, h2, h3, h4, h5⟩ := r.own i _ e
    exact ⟨.ref a, h1, k _ H (Xt.refl H) r.tabs (.inr ⟨a, vs, ds, rfl, rfl, h4, h5⟩)⟩
  · rename_i d' e
    cases hf
    obtain ⟨v, h1, h2⟩ := r.dat i _ e
    exact ⟨v, h1, k v H (Xt.refl H) r.tabs (.inl h2)⟩
  · cases hf
theorem d_b {e : Expr} {f : En → Option PyData} (h : DE X Ts e f) : DB X Ts e f := PE.imp h fun σ H Q ⟨He, O, en, d, r, hf, k⟩ => ⟨He, O, en, d, r, hf, fun v H' x t q => k v H' x t (.inl q)⟩
theorem d_int {i j} : DE X Ts (.Constant (.int i) j pos) (fLit (.int i)) := PE.imp pe_int fun σ H Q ⟨He, O, en, d, r, hf, k⟩ => by cases hf; exact k _ H (Xt.refl H) r.tabs (.int i)
theorem d_bl {b j} : DE X Ts (.Constant (.bool b) j pos) (fLit (.bool b)) := PE.imp pe_bl fun σ H Q ⟨He, O, en, d, r, hf, k⟩ => by cases hf; exact k _ H (Xt.refl H) r.tabs (.bl b)
theorem d_non {j} : DE X Ts (.Constant .none j pos) (fLit .none) := PE.imp pe_non fun σ H Q ⟨He, O, en, d, r, hf, k⟩ => by cases hf; exact k _ H (Xt.refl H) r.tabs .non
theorem d_glob {x : Str} {i : Int} {t : Tok} (hg : Gl X x) (hm : X.mg x = some (.int i t)) (hd : (x == ("__debug__" : Str)) = false := by decide) : DE X Ts (.Name x pos) (fLit (.int i)) :=
  PE.imp (pe_glob (v := .int i) hg hm ⟨t, rfl⟩ hd) fun σ H Q ⟨He, O, en, d, r, hf, k⟩ => by cases hf; exact k _ H (Xt.refl H) r.tabs (.int i)
end
def f2 (g : PyData → PyData → Option PyData) (f1 f2 : En → Option PyData) : En → Option PyData := fun en => (f1 en).bind fun x => (f2 en).bind fun y => g x y
def f1 (g : PyData → Option PyData) (f : En → Option PyData) : En → Option PyData := fun en => (f en).bind g
def gI (g : Int → Int → PyData) : PyData → PyData → Option PyData
  | .int i, .int j => some (g i j)
  | _, _ => none
def gIc (c : Int → Int → Bool) (g : Int → Int → PyData) : PyData → PyData → Option PyData
  | .int i, .int j => if c i j = true then some (g i j) else none
  | _, _ => none
section
variable {X : Cx} {Ts : TsT} {pos : Pos} {a b : Expr} {fa fb : En → Option PyData}
theorem f2_some {g : PyData → PyData → Option PyData} {p q : En → Option PyData} {en : En} {d : PyData} (h : f2 g p q en = some d) : ∃ x y, p en = some x ∧ q en = some y ∧ g x y = some d := by
  unfold f2 at h
  obtain ⟨x, h1, h⟩ := Option.bind_eq_some_iff.mp h
  obtain ⟨y, h2, h⟩ := Option.bind_eq_some_iff.mp h
  exact ⟨x, y, h1, h2, h⟩
theorem f1_some {g : PyData → Option PyData} {p : En → Option PyData} {en : En} {d : PyData} (h : f1 g p en = some d) : ∃ x, p en = some x ∧ g x = some d := Option.bind_eq_some_iff.mp h
theorem w_2 {r : R2} {g : PyData → PyData → Option PyData} {K : PySem.W.Frag}
    (k : ∀ x y v w d H O Q, g x y = some d → Dp K (hide H O) v x → Dp K (hide H O) w y → Tb Ts H → (∀ b ∈ O, H b ≠ none) → (∀ u H', Xt H H' → Tb Ts H' → Dp K (hide H' O) u d → Q u H') → r v w H Q) :
    ∀ σ H Q, tD K Ts (f2 g fa fb) σ H Q → tOp r (tD K Ts fa) (tD K Ts fb) σ H Q :=
  fun σ H Q ⟨He, O, en, d, rp, hf, kk⟩ => by
    obtain ⟨x, y, h1, h2, hg⟩ := f2_some hf
    refine tD.of rp h1 fun v H1 x1 r1 q1 => tD.of r1 h2 fun w H2 x2 r2 q2 => ?_
    exact k x y v w d H2 O Q hg (Dp.mono (hide_mono x2) q1) q2 r2.tabs (fun b hb => (r2.occ b hb).1) fun u H' x3 t3 q3 => kk u H' (x1.trans (x2.trans x3)) t3 q3
theorem w_i {C : Int → Int → Prop} {c : Int → Int → Bool} {g : Int → Int → PyData} {gv : Int → Int → V} {K : PySem.W.Frag} (hC : ∀ i j, c i j = true → C i j) (hv : ∀ i j K H, Dp K H (gv i j) (g i j)) :
    ∀ σ H Q, tD K Ts (f2 (gIc c g) fa fb) σ H Q → tOp (rI C gv) (tD K Ts fa) (tD K Ts fb) σ H Q :=
  w_2 fun x y v w d H O Q hg q1 q2 ht _ kk => by
    cases q1 <;> cases q2 <;> simp only [gIc] at hg <;> try cases hg
    rename_i i j
    split at hg
    · rename_i hc
      cases hg
      exact ⟨i, j, rfl, rfl, hC i j hc, kk _ H (Xt.refl H) ht (hv ..)⟩
    · cases hg
theorem w_i0 {g : Int → Int → PyData} {gv : Int → Int → V} {K : PySem.W.Frag} (hv : ∀ i j K H, Dp K H (gv i j) (g i j)) :
    ∀ σ H Q, tD K Ts (f2 (gI g) fa fb) σ H Q → tOp (rI0 gv) (tD K Ts fa) (tD K Ts fb) σ H Q :=
  w_2 fun x y v w d H O Q hg q1 q2 ht _ kk => by
    cases q1 <;> cases q2 <;> simp only [gI] at hg <;> try cases hg
    rename_i i j
    exact ⟨i, j, rfl, rfl, kk _ H (Xt.refl H) ht (hv ..)⟩
theorem d_i {e : Expr} {C : Int → Int → Prop} {c : Int → Int → Bool} {g : Int → Int → PyData} {gv : Int → Int → V} (hC : ∀ i j, c i j = true → C i j) (hv : ∀ i j K H, Dp K H (gv i j) (g i j))
    (h : PE X e (tOp (rI C gv) (tD X.K Ts fa) (tD X.K Ts fb))) : DE X Ts e (f2 (gIc c g) fa fb) := PE.imp h (w_i hC hv)
theorem d_i0 {e : Expr} {g : Int → Int → PyData} {gv : Int → Int → V} (hv : ∀ i j K H, Dp K H (gv i j) (g i j)) (h : PE X e (tOp (rI0 gv) (tD X.K Ts fa) (tD X.K Ts fb))) : DE X Ts e (f2 (gI g) fa fb) := PE.imp h (w_i0 hv)
def fSub := f2 (gI fun i j => .int (i - j))
theorem d_sub (ha : DE X Ts a fa) (hb : DE X Ts b fb) : DE X Ts (.BinOp a .Sub b pos) (fSub fa fb) := d_i0 (fun _ _ _ _ => .int _) (pe_op op_sub ha hb)
def cMul (i j : Int) : Bool := decide (i.natAbs.log2 + j.natAbs.log2 < 1000000)
def fMul := f2 (gIc cMul fun i j => .int (i * j))
theorem d_mul (ha : DE X Ts a fa) (hb : DE X Ts b fb) : DE X Ts (.BinOp a .Mult b pos) (fMul fa fb) := d_i (fun i j h => show CMulW i j from @of_decide_eq_true (i.natAbs.log2 + j.natAbs.log2 < 1000000) _ h) (fun _ _ _ _ => .int _) (pe_op op_mulW ha hb)
def cDiv (_ j : Int) : Bool := decide (0 < j ∧ j.natAbs.log2 < 9000)
def fDiv := f2 (gIc cDiv fun i j => .int (i / j))
theorem d_div (ha : DE X Ts a fa) (hb : DE X Ts b fb) : DE X Ts (.BinOp a .FloorDiv b pos) (fDiv fa fb) := d_i (fun i j h => show CDivW i j from @of_decide_eq_true (0 < j ∧ j.natAbs.log2 < 9000) _ h) (fun _ _ _ _ => .int _) (pe_op op_fdivW ha hb)
def cMod (_ j : Int) : Bool := decide (j ≠ 0)
def fMod := f2 (gIc cMod fun i j => .int (i.fmod j))
theorem d_mod (ha : DE X Ts a fa) (hb : DE X Ts b fb) : DE X Ts (.BinOp a .Mod b pos) (fMod fa fb) := d_i (fun i j h => of_decide_eq_true (show decide (j ≠ 0) = true from h)) (fun _ _ _ _ => .int _) (pe_op op_modN ha hb)
def gNeg : PyData → Option PyData
  | .int i => some (.int (-i))
  | _ => none
def fNeg := f1 gNeg
theorem d_neg (ha : DE X Ts a fa) : DE X Ts (.UnaryOp .USub a pos) (fNeg fa) := PE.imp (pe_un un_neg ha) fun σ H Q ⟨He, O, en, d, r, hf, k⟩ => by
  obtain ⟨x, h1, h2⟩ := f1_some hf
  refine tD.of r h1 fun v H1 x1 r1 q1 => ?_
  cases q1 <;> simp only [gNeg] at h2 <;> try cases h2
  exact ⟨_, rfl, k _ H1 x1 r1.tabs (.int _)⟩
def fGt := f2 (gI fun i j => .bool (decide (j < i)))
def fGe := f2 (gI fun i j => .bool (decide (j ≤ i)))
theorem d_gt (ha : DE X Ts a fa) (hb : DE X Ts b fb) : DE X Ts (.Compare a [.Gt] [b] pos) (fGt fa fb) := d_i0 (fun _ _ _ _ => .bl _) (pe_cmpR op_gt ha hb (nomark _))
theorem d_ge (ha : DE X Ts a fa) (hb : DE X Ts b fb) : DE X Ts (.Compare a [.GtE] [b] pos) (fGe fa fb) := d_i0 (fun _ _ _ _ => .bl _) (pe_cmpR op_ge ha hb (nomark _))
def gEq : PyData → PyData → Option PyData := fun x y => if (SeqAt.shaped x && SeqAt.shaped y) = true then some (.bool (PyData.eqv x y)) else none
def gNe : PyData → PyData → Option PyData := fun x y => if (SeqAt.shaped x && SeqAt.shaped y) = true then some (.bool (!PyData.eqv x y)) else none
def fEq := f2 gEq
def fNe := f2 gNe
theorem w_eq {K : PySem.W.Frag} : ∀ σ H Q, tD K Ts (fEq fa fb) σ H Q → tOp (rEqD K) (tD K Ts fa) (tD K Ts fb) σ H Q :=
  w_2 fun x y v w d H O Q hg q1 q2 ht _ kk => by
    unfold gEq at hg
    split at hg
    · rename_i hs
      rw [Bool.and_eq_true] at hs
      cases hg
      exact ⟨x, y, (Dp.mono hide_out q1).toL hs.1, (Dp.mono hide_out q2).toL hs.2, hs.1, hs.2, kk _ H (Xt.refl H) ht (.bl _)⟩
    · cases hg
theorem w_ne {K : PySem.W.Frag} : ∀ σ H Q, tD K Ts (fNe fa fb) σ H Q → tOp (rNeD K) (tD K Ts fa) (tD K Ts fb) σ H Q :=
  w_2 fun x y v w d H O Q hg q1 q2 ht _ kk => by
    unfold gNe at hg
    split at hg
    · rename_i hs
      rw [Bool.and_eq_true] at hs
      cases hg
      exact ⟨x, y, (Dp.mono hide_out q1).toL hs.1, (Dp.mono hide_out q2).toL hs.2, hs.1, hs.2, kk _ H (Xt.refl H) ht (.bl _)⟩
    · cases hg
theorem d_eq {k : Nat} (hr : Room k X.A) (ha : DE X Ts a fa) (hb : DE X Ts b fb) : DE X Ts (.Compare a [.Eq] [b] pos) (fEq fa fb) := PE.imp (pe_cmpR (op_eqD hr.units) ha hb (nomark _)) w_eq
def isNone : PyData → Bool
  | .none => true
  | _ => false
theorem isNone_of {K : PySem.W.Frag} {H : Hp} {v : V} {d : PyData} (h : Dp K H v d) : decide (v = .non) = isNone d := by
  cases h <;> rfl
def gIsN : PyData → PyData → Option PyData := fun x y => if isNone y = true then some (.bool (isNone x)) else none
def fIsN := f2 gIsN
theorem non_of {K : PySem.W.Frag} {H : Hp} {v : V} {d : PyData} (h : Dp K H v d) (e : isNone d = true) : v = .non := by
  cases h <;> first | rfl | cases e
theorem w_isN {K : PySem.W.Frag} : ∀ σ H Q, tD K Ts (fIsN fa fb) σ H Q → tOp (fun x y H Q => y = .non ∧ Q (.bl (decide (x = .non))) H) (tD K Ts fa) (tD K Ts fb) σ H Q :=
  w_2 fun x y v w d H O Q hg q1 q2 ht _ kk => by
    unfold gIsN at hg
    split at hg
    · rename_i hs
      cases hg
      refine ⟨non_of q2 hs, ?_⟩
      rw [isNone_of q1]
      exact kk _ H (Xt.refl H) ht (.bl _)
    · cases hg
def fT (f : En → Option PyData) : En → Option Bool := fun en => match f en with
  | some (.bool b) => some b
  | _ => none
theorem fT_some {f : En → Option PyData} {en : En} {b : Bool} (h : fT f en = some b) : f en = some (.bool b) := by
  unfold fT at h
  split at h
  · rename_i e
    cases h
    exact e
  · cases h
theorem dt_of {e : Expr} {t : TE} {f : En → Option PyData} (h : PT X e (tTest t)) (w : ∀ σ H Q, tD X.K Ts f σ H Q → t σ H Q) : DT X Ts e (fT f) := PT.imp h fun σ H Q ⟨He, O, en, b, r, hf, k⟩ =>
  w σ H _ ⟨He, O, en, .bool b, r, fT_some hf, fun v H' x t q => by cases q; exact ⟨b, rfl, k H' x t⟩⟩
theorem dt_val {e : Expr} {f : En → Option PyData} (h : DE X Ts e f) (he : ∀ whole, isTrue e X.env whole = (do let v ← whole; standAt e.pos; holding [v] (truthy v)) := by intro _; rfl) : DT X Ts e (fT f) :=
  PT.imp (pt_val h he) fun σ H Q ⟨He, O, en, b, r, hf, k⟩ => ⟨He, O, en, .bool b, r, fT_some hf, fun v H' x t q => by cases q; exact ⟨b, rfl, k H' x t⟩⟩
theorem dt_gt (ha : DE X Ts a fa) (hb : DE X Ts b fb) : DT X Ts (.Compare a [.Gt] [b] pos) (fT (fGt fa fb)) := dt_of (pt_cmpR op_gt ha hb (nomark _)) (w_i0 fun _ _ _ _ => .bl _)
theorem dt_ge (ha : DE X Ts a fa) (hb : DE X Ts b fb) : DT X Ts (.Compare a [.GtE] [b] pos) (fT (fGe fa fb)) := dt_of (pt_cmpR op_ge ha hb (nomark _)) (w_i0 fun _ _ _ _ => .bl _)
theorem dt_eq {k : Nat} (hr : Room k X.A) (ha : DE X Ts a fa) (hb : DE X Ts b fb) : DT X Ts (.Compare a [.Eq] [b] pos) (fT (fEq fa fb)) := dt_of (pt_cmpR (op_eqD hr.units) ha hb (nomark _)) w_eq
theorem dt_ne {k : Nat} (hr : Room k X.A) (ha : DE X Ts a fa) (hb : DE X Ts b fb) : DT X Ts (.Compare a [.NotEq] [b] pos) (fT (fNe fa fb)) := dt_of (pt_cmpR (op_neD hr.units) ha hb (nomark _)) w_ne
theorem dt_isN (ha : DE X Ts a fa) (hb : DE X Ts b fb) : DT X Ts (.Compare a [.Is] [b] pos) (fT (fIsN fa fb)) := dt_of (pt_cmpR op_isN ha hb (nomark _)) w_isN
def fChain (g1 g2 : PyData → PyData → Option PyData) (fa fb fc : En → Option PyData) : En → Option PyData := fun en => (fa en).bind fun x => (fb en).bind fun y => (g1 x y).bind fun z => match z with
  | .bool true => (fc en).bind fun w => g2 y w
  | .bool false => some (.bool false)
  | _ => none
def gLe := gI fun i j => .bool (decide (i ≤ j))
theorem w_chain {g1 g2 : Int → Int → Bool} {c : Expr} {fc : En → Option PyData} {K : PySem.W.Frag} : ∀ σ H Q, tD K Ts (fChain (gI fun i j => .bool (g1 i j)) (gI fun i j => .bool (g2 i j)) fa fb fc) σ H Q →
    tChain (rI0 fun i j => .bl (g1 i j)) (rI0 fun i j => .bl (g2 i j)) (tD K Ts fa) (tD K Ts fb) (tD K Ts fc) σ H Q := fun σ H Q ⟨He, O, en, d, rp, hf, kk⟩ => by
  unfold fChain at hf
  obtain ⟨x, h1, hf1⟩ := Option.bind_eq_some_iff.mp hf
  obtain ⟨y, h2, hf2⟩ := Option.bind_eq_some_iff.mp hf1
  obtain ⟨z, h3, hf3⟩ := Option.bind_eq_some_iff.mp hf2
  clear hf hf1 hf2
  refine tD.of rp h1 fun v H1 x1 r1 q1 => tD.of r1 h2 fun w H2 x2 r2 q2 => ?_
  obtain ⟨i, j, rfl, rfl, rfl⟩ : ∃ i j, x = .int i ∧ y = .int j ∧ z = .bool (g1 i j) := by
    cases x <;> cases y <;> simp only [gI] at h3 <;> first | (cases h3; exact ⟨_, _, rfl, rfl, rfl⟩) | cases h3
  cases q1
  cases q2
  have hf := hf3
  refine ⟨i, j, rfl, rfl, g1 i j, rfl, ?_⟩
  cases hg : g1 i j with
  | true =>
    rw [hg] at hf
    obtain ⟨u, h4, hf⟩ := Option.bind_eq_some_iff.mp hf
    refine iteT (tD.of r2 h4 fun w' H3 x3 r3 q3 => ?_)
    cases q3 <;> simp only [gI] at hf <;> try cases hf
    exact ⟨_, _, rfl, rfl, kk _ H3 (x1.trans (x2.trans x3)) r3.tabs (.bl _)⟩
  | false =>
    rw [hg] at hf
    cases hf
    exact iteF (kk _ H2 (x1.trans x2) r2.tabs (.bl _))
theorem d_lele {c : Expr} {fc : En → Option PyData} (ha : DE X Ts a fa) (hb : DE X Ts b fb) (hc : DE X Ts c fc) (hm : lastMarks [.LtE, .LtE] [b, c] = false := by with_unfolding_all rfl) :
    DE X Ts (.Compare a [.LtE, .LtE] [b, c] pos) (fChain gLe gLe fa fb fc) := PE.imp (pe_chain op_le op_le ha hb hc hm) (w_chain (c := c))
theorem dt_lele {c : Expr} {fc : En → Option PyData} (ha : DE X Ts a fa) (hb : DE X Ts b fb) (hc : DE X Ts c fc) (hm : lastMarks [.LtE, .LtE] [b, c] = false := by with_unfolding_all rfl) :
    DT X Ts (.Compare a [.LtE, .LtE] [b, c] pos) (fT (fChain gLe gLe fa fb fc)) := dt_of (pt_chain op_le op_le ha hb hc hm) (w_chain (c := c))
def fAnd (f g : En → Option PyData) : En → Option PyData := fun en => match f en with
  | some (.bool true) => g en
  | some (.bool false) => some (.bool false)
  | _ => none
def fNot (f : En → Option PyData) : En → Option PyData := fun en => match f en with
  | some (.bool b) => some (.bool (!b))
  | _ => none
variable {rest : List Expr}
theorem d_one {op} {f : En → Option PyData} (h : DE X Ts a f) : DE X Ts (.BoolOp op [a] pos) f := pe_one h
theorem d_and {ga : En → Option PyData} (ha : DE X Ts a fa) (hb : DE X Ts (.BoolOp .And (b :: rest) pos) ga) : DE X Ts (.BoolOp .And (a :: b :: rest) pos) (fAnd fa ga) := PE.imp (pe_and ha hb) fun σ H Q ⟨He, O, en, d, rp, hf, kk⟩ => by
  unfold fAnd at hf
  split at hf
  · rename_i e
    exact tD.of rp e fun v H1 x1 r1 q1 => by cases q1; exact ⟨true, rfl, iteT (tD.of r1 hf fun w H2 x2 r2 q2 => kk w H2 (x1.trans x2) r2.tabs q2)⟩
  · rename_i e
    cases hf
    exact tD.of rp e fun v H1 x1 r1 q1 => by cases q1; exact ⟨false, rfl, iteF (kk _ H1 x1 r1.tabs (.bl _))⟩
  · cases hf
theorem d_not (ha : DE X Ts a fa) : DE X Ts (.UnaryOp .Not a pos) (fNot fa) := PE.imp (pe_not ha) fun σ H Q ⟨He, O, en, d, rp, hf, kk⟩ => by
  unfold fNot at hf
  split at hf
  · rename_i b e
    cases hf
    exact tD.of rp e fun v H1 x1 r1 q1 => by cases q1; exact ⟨b, rfl, kk _ H1 x1 r1.tabs (.bl _)⟩
  · cases hf
def kAnd (f g : En → Option Bool) : En → Option Bool := fun en => match f en with
  | some true => g en
  | some false => some false
  | none => none
def kOr (f g : En → Option Bool) : En → Option Bool := fun en => match f en with
  | some true => some true
  | some false => g en
  | none => none
def kNot (f : En → Option Bool) : En → Option Bool := fun en => (f en).map (!·)
variable {ta tb : En → Option Bool}
theorem dw_and1 (ha : DT X Ts a ta) : DW X Ts (.BoolOp .And [a] pos) ta := pw_and1 ha
theorem dw_or1 (ha : DT X Ts a ta) : DW X Ts (.BoolOp .Or [a] pos) ta := pw_or1 ha
theorem dw_and (ha : DT X Ts a ta) (hb : DW X Ts (.BoolOp .And (b :: rest) pos) tb) : DW X Ts (.BoolOp .And (a :: b :: rest) pos) (kAnd ta tb) := PW.imp (pw_and ha hb) fun σ H Q ⟨He, O, en, d, rp, hf, kk⟩ => by
  unfold kAnd at hf
  split at hf
  · rename_i e
    exact tT.of rp e fun H1 x1 r1 => iteT (tT.of r1 hf fun H2 x2 r2 => kk H2 (x1.trans x2) r2.tabs)
  · rename_i e
    cases hf
    exact tT.of rp e fun H1 x1 r1 => iteF (kk H1 x1 r1.tabs)
  · cases hf
theorem dw_or (ha : DT X Ts a ta) (hb : DW X Ts (.BoolOp .Or (b :: rest) pos) tb) : DW X Ts (.BoolOp .Or (a :: b :: rest) pos) (kOr ta tb) := PW.imp (pw_or ha hb) fun σ H Q ⟨He, O, en, d, rp, hf, kk⟩ => by
  unfold kOr at hf
  split at hf
  · rename_i e
    cases hf
    exact tT.of rp e fun H1 x1 r1 => iteT (kk H1 x1 r1.tabs)
  · rename_i e
    exact tT.of rp e fun H1 x1 r1 => iteF (tT.of r1 hf fun H2 x2 r2 => kk H2 (x1.trans x2) r2.tabs)
  · cases hf
theorem dt_w {e : Expr} (h : DW X Ts e ta) : DT X Ts e ta := h.pt
theorem dt_not (ha : DT X Ts a ta) : DT X Ts (.UnaryOp .Not a pos) (kNot ta) := PT.imp (pt_not ha) fun σ H Q ⟨He, O, en, d, rp, hf, kk⟩ => by
  unfold kNot at hf
  obtain ⟨b, h1, h2⟩ := Option.map_eq_some_iff.mp hf
  subst h2
  exact tT.of rp h1 fun H1 x1 r1 => kk H1 x1 r1.tabs
def fIf (t : En → Option Bool) (f g : En → Option PyData) : En → Option PyData := fun en => match t en with
  | some true => f en
  | some false => g en
  | none => none
theorem d_if {c : Expr} (hc : DT X Ts c ta) (ha : DE X Ts a fa) (hb : DE X Ts b fb) : DE X Ts (.IfExp c a b pos) (fIf ta fa fb) := PE.imp (pe_ifExp hc ha hb) fun σ H Q ⟨He, O, en, d, rp, hf, kk⟩ => by
  unfold fIf at hf
  split at hf
  · rename_i e
    exact tT.of rp e fun H1 x1 r1 => iteT (tD.of r1 hf fun w H2 x2 r2 q2 => kk w H2 (x1.trans x2) r2.tabs q2)
  · rename_i e
    exact tT.of rp e fun H1 x1 r1 => iteF (tD.of r1 hf fun w H2 x2 r2 q2 => kk w H2 (x1.trans x2) r2.tabs q2)
  · cases hf
end
def fNil : En → Option (List PyData) := fun _ => some []
def fCons (f : En → Option PyData) (g : En → Option (List PyData)) : En → Option (List PyData) := fun en => (f en).bind fun x => (g en).bind fun xs => some (x :: xs)
section
variable {X : Cx} {Ts : TsT} {pos : Pos} {e : Expr} {es : List Expr} {f : En → Option PyData} {g : En → Option (List PyData)}
theorem da_nil : DA X Ts [] fNil := PA.imp pa_nil fun σ H Q ⟨He, O, en, ds, rp, hf, kk⟩ => by
  cases hf
  exact kk [] H (Xt.refl H) rp.tabs .nil
theorem fCons_some {en : En} {ds : List PyData} (h : fCons f g en = some ds) : ∃ x xs, f en = some x ∧ g en = some xs ∧ ds = x :: xs := by
  unfold fCons at h
  obtain ⟨x, h1, h⟩ := Option.bind_eq_some_iff.mp h
  obtain ⟨y, h2, h⟩ := Option.bind_eq_some_iff.mp h
  cases h
  exact ⟨x, y, h1, h2, rfl⟩
theorem da_cons (ha : DE X Ts e f) (hr : DA X Ts es g) (hs : starEach (e :: es) X.env = (false, eval e X.env) :: starEach es X.env := by rfl) : DA X Ts (e :: es) (fCons f g) := PA.imp (pa_cons ha hr hs) fun σ H Q ⟨He, O, en, ds, rp, hf, kk⟩ => by
  obtain ⟨x, xs, h1, h2, rfl⟩ := fCons_some hf
  exact tD.of rp h1 fun v H1 x1 r1 q1 => tDs.of r1 h2 fun vs H2 x2 r2 q2 => kk _ H2 (x1.trans x2) r2.tabs (.cons (Dp.mono (hide_mono x2) q1) q2)
theorem new_out {O : List Addr} {H : Hp} {p : Addr} (occ : ∀ b ∈ O, H b ≠ none ∧ ∀ ps, H b ≠ some (.tbl ps)) (h : H p = none) : p ∉ O := fun z => (occ p z).1 h
theorem small64 {n : Nat} (h : n ≤ 64) : n ≤ sizeLine := Nat.le_of_lt (small1000 (by omega))
theorem tup_new {K : PySem.W.Frag} {H : Hp} {O : List Addr} {p : Addr} {xs : List V} {ds : List PyData} (hp : H p = none) (np : p ∉ O) (q : DpAll K (hide H O) xs ds) : Dp K (hide (upd H p (.tup xs)) O) (.ref p) (.tuple ds) :=
  .tup (.inl (.inl (hide_of np upd_same))) (DpAll.mono (hide_mono (Xt.upd hp)) q)
theorem lst_new {K : PySem.W.Frag} {H : Hp} {O : List Addr} {p : Addr} {xs : List V} {ds : List PyData} (hp : H p = none) (np : p ∉ O) (q : DpAll K (hide H O) xs ds) : Dp K (hide (upd H p (.lst xs)) O) (.ref p) (.list ds) :=
  .lst (.inl (.inl (hide_of np upd_same))) (DpAll.mono (hide_mono (Xt.upd hp)) q)
def fTup (g : En → Option (List PyData)) : En → Option PyData := fun en => (g en).bind fun ds => if ds.length ≤ 64 then some (.tuple ds) else none
def fLst (g : En → Option (List PyData)) : En → Option PyData := fun en => (g en).bind fun ds => if ds.length ≤ 64 then some (.list ds) else none
theorem fTup_some {en : En} {d : PyData} (h : fTup g en = some d) : ∃ ds, g en = some ds ∧ ds.length ≤ 64 ∧ d = .tuple ds := by
  unfold fTup at h
  obtain ⟨x, h1, h⟩ := Option.bind_eq_some_iff.mp h
  split at h
  · cases h; exact ⟨x, h1, by assumption, rfl⟩
  · cases h
theorem fLst_some {en : En} {d : PyData} (h : fLst g en = some d) : ∃ ds, g en = some ds ∧ ds.length ≤ 64 ∧ d = .list ds := by
  unfold fLst at h
  obtain ⟨x, h1, h⟩ := Option.bind_eq_some_iff.mp h
  split at h
  · cases h; exact ⟨x, h1, by assumption, rfl⟩
  · cases h
theorem d_tup {x1} (h : DA X Ts es g) : DE X Ts (.Tuple es x1 pos) (fTup g) := PE.imp (pe_tup h) fun σ H Q ⟨He, O, en, d, rp, hf, kk⟩ => by
  obtain ⟨ds, h1, hl, rfl⟩ := fTup_some hf
  exact tDs.of rp h1 fun vs H1 x1 r1 q1 => ⟨by rw [DpAll.len q1]; exact small64 hl, fun p np => kk _ _ (x1.trans (Xt.upd np)) (r1.tabs.new np) (tup_new np (new_out r1.occ np) q1)⟩
theorem d_lst (h : DA X Ts es g) : DE X Ts (.List es pos) (fLst g) := PE.imp (pe_lst h) fun σ H Q ⟨He, O, en, d, rp, hf, kk⟩ => by
  obtain ⟨ds, h1, hl, rfl⟩ := fLst_some hf
  exact tDs.of rp h1 fun vs H1 x1 r1 q1 => ⟨by rw [DpAll.len q1]; exact small64 hl, fun p np => kk _ _ (x1.trans (Xt.upd np)) (r1.tabs.new np) (lst_new np (new_out r1.occ np) q1)⟩
def spD (K : PySem.W.Frag) (Ts : TsT) (n : Nat) (F : List PyData → Option PyData) : Sp := fun vs H Q _ => vs.length = n ∧ ∃ O ds d, DpAll K (hide H O) vs ds ∧ Tb Ts H ∧ (∀ b ∈ O, H b ≠ none ∧ ∀ ps, H b ≠ some (.tbl ps)) ∧ F ds = some d ∧
  ∀ v H', Xt H H' → Tb Ts H' → Dp K (hide H' O) v d → Q v H'
theorem spD.imp {K : PySem.W.Frag} {Ts : TsT} {n : Nat} {F G : List PyData → Option PyData} (h : ∀ ds d, G ds = some d → F ds = some d) : ∀ vs H Q E, spD K Ts n G vs H Q E → spD K Ts n F vs H Q E :=
  fun vs H Q E ⟨h1, O, ds, d, a, b, c, e, k⟩ => ⟨h1, O, ds, d, a, b, c, h ds d e, k⟩
def fCall (n : Nat) (F : List PyData → Option PyData) (g : En → Option (List PyData)) : En → Option PyData := fun en => (g en).bind fun ds => if ds.length = n then F ds else none
structure DFn (X : Cx) (Ts : TsT) (k : Nat) (x : Str) (n : Nat) (F : List PyData → Option PyData) : Prop where
  ex : ∃ f fd ps dvs us dd G, X.mg x = some (.ref f) ∧ PySem.W.keepIn X.K (.ref f) = true ∧ Binds X.K fd ps us ∧ Vals dvs us ∧ (∀ H, DpAll X.K H dvs dd) ∧ FnOk X.prog X.w X.K X.mg X.base CX0 k f fd ps (spD X.K Ts (n + dd.length) G) ∧ ∀ xs d, xs.length = n → F xs = some d → G (xs ++ dd) = some d
theorem d_call {k j n : Nat} {x : Str} {p : Pos} {F : List PyData → Option PyData} (hr : Room j X.A) (hF : DFn X Ts k x n F) (hk : k ≤ j) (hg : Gl X x) (ha : DA X Ts (e :: es) g) (hdb : (x == ("__debug__" : Str)) = false := by decide)
    (he : starEach (e :: es) X.env = (false, eval e X.env) :: starEach es X.env := by rfl) (hpl : (backTo pos (starEach es X.env)).any (·.1) = false := by rfl) : DE X Ts (.Call (.Name x p) (e :: es) [] pos) (fCall n F g) := by
  obtain ⟨f, fd, ps, dvs, us, dd, G, h1, h2, h3, h3v, h3d, h4, h5⟩ := hF.ex
  refine PE.imp (pe_call h4 (hr.mono hk) hg h1 h2 h3 h3v pass0 ha hdb he hpl) fun σ H Q ⟨He, O, en, d, rp, hf, kk⟩ => ?_
  unfold fCall at hf
  obtain ⟨ds, q1, hf⟩ := Option.bind_eq_some_iff.mp hf
  split at hf
  · rename_i hl
    refine tDs.of rp q1 fun vs H1 x1 r1 qs => ?_
    exact ⟨by rw [List.length_append, DpAll.len qs, hl, DpAll.len (h3d H1)], O, ds ++ dd, d, DpAll.app qs (h3d _), r1.tabs, r1.occ, h5 ds d hl hf, fun v H' x t q => kk v H' (x1.trans x) t q⟩
  · cases hf
end
theorem DpB.seq {K : PySem.W.Frag} {H : Hp} {O : List Addr} {v : V} {d : PyData} (h : DpB K H O v d) :
    (∃ b, v = .bl b ∧ d = .bool b) ∨ (v = .non ∧ d = .none) ∨ (∃ i, v = .int i ∧ d = .int i) ∨ (∃ s, v = .str s ∧ d = .str s) ∨
    (∃ a vs ds, v = .ref a ∧ d = .list ds ∧ SqL K H a vs ∧ DpAll K (hide H O) vs ds) ∨ (∃ a vs ds, v = .ref a ∧ d = .tuple ds ∧ SqT K H a vs ∧ DpAll K (hide H O) vs ds) ∨ d = .dict [] := by
  rcases h with h | ⟨a, vs, ds, rfl, rfl, h1, h2⟩
  · cases h with
    | non => exact .inr (.inl ⟨rfl, rfl⟩)
    | bl b => exact .inl ⟨b, rfl, rfl⟩
    | int i => exact .inr (.inr (.inl ⟨i, rfl, rfl⟩))
    | str s => exact .inr (.inr (.inr (.inl ⟨s, rfl, rfl⟩)))
    | lst s a => exact .inr (.inr (.inr (.inr (.inl ⟨_, _, _, rfl, rfl, sqL_mono (fun o n e => (hide_some e).2) s, a⟩))))
    | tup s a => exact .inr (.inr (.inr (.inr (.inr (.inl ⟨_, _, _, rfl, rfl, sqT_mono (fun o n e => (hide_some e).2) s, a⟩)))))
    | dct _ => exact .inr (.inr (.inr (.inr (.inr (.inr rfl)))))
  · exact .inr (.inr (.inr (.inr (.inl ⟨_, _, _, rfl, rfl, .inl (.inl h1), h2⟩))))
theorem DpB.lst {K : PySem.W.Frag} {H : Hp} {O : List Addr} {v : V} {ds : List PyData} (h : DpB K H O v (.list ds)) : ∃ a vs, v = .ref a ∧ SqL K H a vs ∧ DpAll K (hide H O) vs ds := by
  rcases h.seq with ⟨_, _, e⟩ | ⟨_, e⟩ | ⟨_, _, e⟩ | ⟨_, _, e⟩ | ⟨a, vs, es, rfl, e, h1, h2⟩ | ⟨a, vs, es, rfl, e, h1, h2⟩ | e <;> cases e
  exact ⟨a, vs, rfl, h1, h2⟩
theorem DpB.tup {K : PySem.W.Frag} {H : Hp} {O : List Addr} {v : V} {ds : List PyData} (h : DpB K H O v (.tuple ds)) : ∃ a vs, v = .ref a ∧ SqT K H a vs ∧ DpAll K (hide H O) vs ds := by
  rcases h.seq with ⟨_, _, e⟩ | ⟨_, e⟩ | ⟨_, _, e⟩ | ⟨_, _, e⟩ | ⟨a, vs, es, rfl, e, h1, h2⟩ | ⟨a, vs, es, rfl, e, h1, h2⟩ | e <;> cases e
  exact ⟨a, vs, rfl, h1, h2⟩
def items : PyData → Option (List PyData)
  | .list ds => some ds
  | .tuple ds => some ds
  | _ => none
def intsOf : List PyData → Option (List Int)
  | [] => some []
  | .int i :: r => (intsOf r).map (i :: ·)
  | _ :: _ => none
theorem intsOf_some : ∀ {ds : List PyData} {ns : List Int}, intsOf ds = some ns → ds = ns.map .int
  | [], ns, h => by cases h; rfl
  | .int i :: r, ns, h => by
    obtain ⟨m, h1, rfl⟩ := Option.map_eq_some_iff.mp h
    rw [intsOf_some h1]
    rfl
  | .none :: r, ns, h => by cases h
  | .bool _ :: r, ns, h => by cases h
  | .str _ :: r, ns, h => by cases h
  | .list _ :: r, ns, h => by cases h
  | .tuple _ :: r, ns, h => by cases h
  | .dict _ :: r, ns, h => by cases h
theorem intsOf_map (ns : List Int) : intsOf (ns.map .int) = some ns := by
  induction ns with
  | nil => rfl
  | cons n r ih => simp [intsOf, ih]
section
variable {X : Cx} {Ts : TsT} {pos p : Pos} {e e2 : Expr} {f g : En → Option PyData}
theorem b_arg1 {id : String} {r : List V → Hp → VK → Prop} {x : Str} {gg : PyData → Option PyData} (hc : CallR X (.builtin id) r) (hg : Gl X x) (hm : X.mg x = none) (hv : bootBuiltins x = some (.builtin id)) (ha : DB X Ts e f)
    (k : ∀ d z v H O Q, gg d = some z → DpB X.K H O v d → Tb Ts H → (∀ b ∈ O, H b ≠ none ∧ ∀ ps, H b ≠ some (.tbl ps)) → (∀ u H', Xt H H' → Tb Ts H' → Dp X.K (hide H' O) u z → Q u H') → r [v] H Q)
    (hn : x ≠ "__name__" := by decide) (hdb : (x == ("__debug__" : Str)) = false := by decide) (he : starEach [e] X.env = (false, eval e X.env) :: starEach [] X.env := by rfl) :
    DE X Ts (.Call (.Name x p) [e] [] pos) (f1 gg f) := PE.imp (pe_callB (t := tCons (tB X.K Ts f) tNil) hc hg hm hv (pa_cons ha pa_nil he) hn hdb he (by rfl)) fun σ H Q ⟨He, O, en, d, rp, hf, kk⟩ => by
  obtain ⟨x, h1, h2⟩ := f1_some hf
  exact tB.of rp h1 fun v H1 x1 r1 q1 => k x d v H1 O Q h2 q1 r1.tabs r1.occ fun u H' x t q => kk u H' (x1.trans x) t q
theorem b_argT {T : String} {r : List V → Hp → VK → Prop} {x : Str} {gg : PyData → Option PyData} (hc : CallR X (.type T) r) (hg : Gl X x) (hm : X.mg x = none) (hv : bootBuiltins x = some (.type T)) (ha : DB X Ts e f)
    (k : ∀ d z v H O Q, gg d = some z → DpB X.K H O v d → Tb Ts H → (∀ b ∈ O, H b ≠ none ∧ ∀ ps, H b ≠ some (.tbl ps)) → (∀ u H', Xt H H' → Tb Ts H' → Dp X.K (hide H' O) u z → Q u H') → r [v] H Q)
    (hn : x ≠ "__name__" := by decide) (hdb : (x == ("__debug__" : Str)) = false := by decide) (he : starEach [e] X.env = (false, eval e X.env) :: starEach [] X.env := by rfl) :
    DE X Ts (.Call (.Name x p) [e] [] pos) (f1 gg f) := PE.imp (pe_callTy (t := tCons (tB X.K Ts f) tNil) hc hg hm hv (pa_cons ha pa_nil he) hn hdb he (by rfl)) fun σ H Q ⟨He, O, en, d, rp, hf, kk⟩ => by
  obtain ⟨x, h1, h2⟩ := f1_some hf
  exact tB.of rp h1 fun v H1 x1 r1 q1 => k x d v H1 O Q h2 q1 r1.tabs r1.occ fun u H' x t q => kk u H' (x1.trans x) t q
def gLen : PyData → Option PyData
  | .list ds => some (.int ds.length)
  | .tuple ds => some (.int ds.length)
  | _ => none
def fLen := f1 gLen
theorem d_len (hg : Gl X "len") (hm : X.mg "len" = none) (ha : DB X Ts e f) (he : starEach [e] X.env = (false, eval e X.env) :: starEach [] X.env := by rfl) : DE X Ts (.Call (.Name "len" p) [e] [] pos) (fLen f) :=
  b_arg1 call_len hg hm PySem.boot_len ha (he := he) fun d z v H O Q hz q t occ kk => by
    cases d with
    | list ds =>
      cases hz
      obtain ⟨a, vs, rfl, h1, h2⟩ := q.lst
      exact ⟨_, ds.length, rfl, .inl ⟨vs, h1, (DpAll.len h2).symm⟩, kk _ H (Xt.refl H) t (.int _)⟩
    | tuple ds =>
      cases hz
      obtain ⟨a, vs, rfl, h1, h2⟩ := q.tup
      exact ⟨_, ds.length, rfl, .inr ⟨vs, h1, (DpAll.len h2).symm⟩, kk _ H (Xt.refl H) t (.int _)⟩
    | _ => cases hz
def rSumT (K : PySem.W.Frag) : List V → Hp → VK → Prop := fun vs H Q => ∃ (a : Addr) (ns : List Int), vs = [V.ref a] ∧ (SqL K H a (ns.map V.int) ∨ SqT K H a (ns.map V.int)) ∧ Q (.int ns.sum) H
theorem cr_sumT (hc : X.calm = true) : CallR X (.builtin "sum") (rSumT X.K) := by
  intro pins s σ H vs us Q I r h
  obtain ⟨a, ns, rfl, hs | hs, q⟩ := h
  · exact cr_sum hc pins s σ H _ us Q I r ⟨a, ns, rfl, hs, q⟩
  · obtain ⟨its, rv, ⟨o, ho, hcl, n, hd⟩, _⟩ := I.tuple hs
    rw [Vals.ref1 r]
    have hi : IntsAre its ns := rv.ints
    obtain ⟨xs, hx⟩ := hi.allInts.items
    have hn : numsOf its.toArray.toList = ns := by rw [show its.toArray.toList = its from rfl, hi.numsOf]
    rw [hx] at hd hn
    rw [nums_intItems] at hn
    refine PySem.W.ktm_sumG (I.ok.hd hc) ⟨o, ho, hcl, n, hd⟩ fun h' tk t' hk => ?_
    refine ⟨.int ns.sum, H, I.kept hk, ⟨t', ?_⟩, q⟩
    rw [preSum_eq, List.take_of_length_le (by simp), hn]
def gSum : PyData → Option PyData := fun d => (items d).bind fun ds => (intsOf ds).map fun ns => .int ns.sum
def fSum := f1 gSum
theorem gSum_some {d z : PyData} (h : gSum d = some z) : ∃ ns : List Int, (d = .list (ns.map .int) ∨ d = .tuple (ns.map .int)) ∧ z = .int ns.sum := by
  unfold gSum at h
  obtain ⟨ds, h1, h2⟩ := Option.bind_eq_some_iff.mp h
  obtain ⟨ns, h3, rfl⟩ := Option.map_eq_some_iff.mp h2
  have e := intsOf_some h3
  subst e
  cases d <;> simp only [items] at h1 <;> cases h1
  · exact ⟨ns, .inl rfl, rfl⟩
  · exact ⟨ns, .inr rfl, rfl⟩
theorem d_sum (hc : X.calm = true) (hg : Gl X "sum") (hm : X.mg "sum" = none) (hb : bootBuiltins "sum" = some (.builtin "sum")) (ha : DB X Ts e f) (he : starEach [e] X.env = (false, eval e X.env) :: starEach [] X.env := by rfl) : DE X Ts (.Call (.Name "sum" p) [e] [] pos) (fSum f) :=
  b_arg1 (cr_sumT hc) hg hm hb ha (he := he) fun d z v H O Q hz q t occ kk => by
    obtain ⟨ns, rfl | rfl, rfl⟩ := gSum_some hz
    · obtain ⟨a, vs, rfl, h1, h2⟩ := q.lst
      obtain rfl := DpAll.ints h2
      exact ⟨a, ns, rfl, .inl h1, kk _ H (Xt.refl H) t (.int _)⟩
    · obtain ⟨a, vs, rfl, h1, h2⟩ := q.tup
      obtain rfl := DpAll.ints h2
      exact ⟨a, ns, rfl, .inr h1, kk _ H (Xt.refl H) t (.int _)⟩
theorem d_args2 {id : String} {r : List V → Hp → VK → Prop} {x : Str} {gg : PyData → PyData → Option PyData} (hc : CallR X (.builtin id) r) (hg : Gl X x) (hm : X.mg x = none) (hv : bootBuiltins x = some (.builtin id)) (ha : DE X Ts e f) (hb : DE X Ts e2 g)
    (k : ∀ d d' z v w H O Q, gg d d' = some z → Dp X.K (hide H O) v d → Dp X.K (hide H O) w d' → Tb Ts H → (∀ u H', Xt H H' → Tb Ts H' → Dp X.K (hide H' O) u z → Q u H') → r [v, w] H Q)
    (hn : x ≠ "__name__" := by decide) (hdb : (x == ("__debug__" : Str)) = false := by decide) (he : starEach [e, e2] X.env = (false, eval e X.env) :: starEach [e2] X.env := by rfl) (he2 : starEach [e2] X.env = (false, eval e2 X.env) :: starEach [] X.env := by rfl) (hpl : (backTo pos (starEach [e2] X.env)).any (·.1) = false := by rfl) :
    DE X Ts (.Call (.Name x p) [e, e2] [] pos) (f2 gg f g) := PE.imp (pe_callB (t := tCons (tD X.K Ts f) (tCons (tD X.K Ts g) tNil)) hc hg hm hv (pa_cons ha (pa_cons hb pa_nil he2) he) hn hdb he hpl) fun σ H Q ⟨He, O, en, d, rp, hf, kk⟩ => by
  obtain ⟨x, y, h1, h2, h3⟩ := f2_some hf
  exact tD.of rp h1 fun v H1 x1 r1 q1 => tD.of r1 h2 fun w H2 x2 r2 q2 => k x y d v w H2 O Q h3 (Dp.mono (hide_mono x2) q1) q2 r2.tabs fun u H' x3 t q => kk u H' (x1.trans (x2.trans x3)) t q
def fMin2 := f2 (gI fun i j => .int (if j < i then j else i))
theorem d_min2 (hc : X.calm = true) (hg : Gl X "min") (hm : X.mg "min" = none) (hv : bootBuiltins "min" = some (.builtin "min")) (ha : DE X Ts e f) (hb : DE X Ts e2 g)
    (he : starEach [e, e2] X.env = (false, eval e X.env) :: starEach [e2] X.env := by rfl) (he2 : starEach [e2] X.env = (false, eval e2 X.env) :: starEach [] X.env := by rfl) (hpl : (backTo pos (starEach [e2] X.env)).any (·.1) = false := by rfl) :
    DE X Ts (.Call (.Name "min" p) [e, e2] [] pos) (fMin2 f g) := d_args2 (call_min2 hc) hg hm hv ha hb (he := he) (he2 := he2) (hpl := hpl) fun d d' z v w H O Q hz q1 q2 t kk => by
  cases q1 <;> cases q2 <;> simp only [gI] at hz <;> try cases hz
  exact ⟨_, _, rfl, kk _ H (Xt.refl H) t (.int _)⟩
def gTuple : PyData → Option PyData := fun d => (items d).map .tuple
def fTuple := f1 gTuple
theorem d_tuple (hg : Gl X "tuple") (hm : X.mg "tuple" = none) (hv : bootBuiltins "tuple" = some (.type "tuple")) (ha : DB X Ts e f) (he : starEach [e] X.env = (false, eval e X.env) :: starEach [] X.env := by rfl) : DE X Ts (.Call (.Name "tuple" p) [e] [] pos) (fTuple f) :=
  b_argT call_tuple_of hg hm hv ha (he := he) fun d z v H O Q hz q t occ kk => by
    cases d <;> simp only [gTuple, items, Option.map_some, Option.map_none] at hz <;> try cases hz
    · obtain ⟨a, vs, rfl, h1, h2⟩ := q.lst
      exact ⟨a, vs, rfl, .inl ⟨h1, fun l nl => kk _ _ (Xt.upd nl) (t.new nl) (tup_new nl (new_out occ nl) h2)⟩⟩
    · rcases q with q | ⟨_, _, _, _, e, _⟩
      · cases q with
        | tup s a => exact ⟨_, _, rfl, .inr ⟨sqT_mono (fun o n e => (hide_some e).2) s, kk _ H (Xt.refl H) t (.tup s a)⟩⟩
      · cases e
def gAbs : PyData → Option PyData
  | .int i => some (.int (if i < 0 then -i else i))
  | _ => none
def fAbs := f1 gAbs
theorem d_abs (hg : Gl X "abs") (hm : X.mg "abs" = none) (hv : bootBuiltins "abs" = some (.builtin "abs")) (ha : DE X Ts e f) (he : starEach [e] X.env = (false, eval e X.env) :: starEach [] X.env := by rfl) : DE X Ts (.Call (.Name "abs" p) [e] [] pos) (fAbs f) :=
  b_arg1 call_abs hg hm hv (d_b ha) (he := he) fun d z v H O Q hz q t occ kk => by
    cases d <;> simp only [gAbs] at hz <;> try cases hz
    rcases q with q | ⟨_, _, _, _, e, _⟩
    · cases q
      exact ⟨_, rfl, kk _ H (Xt.refl H) t (.int _)⟩
    · cases e
def gInt : PyData → Option PyData
  | .int i => some (.int i)
  | .bool k => some (.int (if k then 1 else 0))
  | _ => none
def fInt := f1 gInt
theorem d_toInt (hg : Gl X "int") (hm : X.mg "int" = none) (hv : bootBuiltins "int" = some (.type "int")) (ha : DE X Ts e f) (he : starEach [e] X.env = (false, eval e X.env) :: starEach [] X.env := by rfl) : DE X Ts (.Call (.Name "int" p) [e] [] pos) (fInt f) :=
  b_argT call_int1 hg hm hv (d_b ha) (he := he) fun d z v H O Q hz q t occ kk => by
    cases d with
    | int i =>
      cases hz
      rcases q with q | ⟨_, _, _, _, e, _⟩
      · cases q
        exact .inl ⟨_, rfl, kk _ H (Xt.refl H) t (.int _)⟩
      · cases e
    | bool k =>
      cases hz
      rcases q with q | ⟨_, _, _, _, e, _⟩
      · cases q
        exact .inr ⟨_, rfl, kk _ H (Xt.refl H) t (.int _)⟩
      · cases e
    | _ => cases hz
def pyTy : PyData → String
  | .none => "NoneType"
  | .bool _ => "bool"
  | .int _ => "int"
  | .str _ => "str"
  | .list _ => "list"
  | .tuple _ => "tuple"
  | .dict _ => "dict"
theorem tyX_of {K : PySem.W.Frag} {H : Hp} {v : V} {d : PyData} (h : Dp K H v d) : TyX K H v (.type (pyTy d)) := by
  cases h with
  | non => exact .base .non
  | bl b => exact .base (.bl b)
  | int i => exact .base (.int i)
  | str s => exact .base (.str s)
  | lst s a =>
    rcases s with (s | ⟨o, s⟩) | ⟨o, its, n, h1, h2, _⟩
    · exact .base (.lst s)
    · exact .base (.frz s)
    · exact .kList h1 h2
  | tup s a =>
    rcases s with (s | ⟨o, s⟩) | ⟨o, its, n, h1, h2, _⟩
    · exact .base (.tup s)
    · exact .fTuple s
    · exact .kTuple h1 h2
  | dct e => exact .base (.dK e)
def fIsi (q : PyData → Bool) := f1 (fun d => some (.bool (q d)))
def isInt : PyData → Bool
  | .int _ => true
  | .bool _ => true
  | _ => false
def isBool : PyData → Bool
  | .bool _ => true
  | _ => false
def isTup : PyData → Bool
  | .tuple _ => true
  | _ => false
def isLst : PyData → Bool
  | .list _ => true
  | _ => false
def isStr : PyData → Bool
  | .str _ => true
  | _ => false
theorem isi_int : ∀ d, kitB (pyTy d) "int" = some (isInt d) := fun d => by cases d <;> (simp only [pyTy, isInt]; decide +kernel)
theorem isi_bool : ∀ d, kitB (pyTy d) "bool" = some (isBool d) := fun d => by cases d <;> (simp only [pyTy, isBool]; decide +kernel)
theorem isi_tuple : ∀ d, kitB (pyTy d) "tuple" = some (isTup d) := fun d => by cases d <;> (simp only [pyTy, isTup]; decide +kernel)
theorem isi_list : ∀ d, kitB (pyTy d) "list" = some (isLst d) := fun d => by cases d <;> (simp only [pyTy, isLst]; decide +kernel)
theorem isi_str : ∀ d, kitB (pyTy d) "str" = some (isStr d) := fun d => by cases d <;> (simp only [pyTy, isStr]; decide +kernel)
theorem d_isi {T : String} {x : Str} {q : PyData → Bool} {px : Pos} (hq : ∀ d, kitB (pyTy d) T = some (q d)) (hg : Gl X "isinstance") (hm : X.mg "isinstance" = none) (hv : bootBuiltins "isinstance" = some (.builtin "isinstance"))
    (hgT : Gl X x) (hmT : X.mg x = none) (hvT : bootBuiltins x = some (.type T)) (ha : DE X Ts e f) (hnT : x ≠ "__name__" := by decide) (hdT : (x == ("__debug__" : Str)) = false := by decide)
    (he : starEach [e, .Name x px] X.env = (false, eval e X.env) :: starEach [.Name x px] X.env := by rfl) (he2 : starEach [.Name x px] X.env = (false, eval (.Name x px) X.env) :: starEach [] X.env := by rfl) (hpl : (backTo pos (starEach [.Name x px] X.env)).any (·.1) = false := by rfl) :
    DE X Ts (.Call (.Name "isinstance" p) [e, .Name x px] [] pos) (fIsi q f) :=
  PE.imp (pe_callB (t := tCons (tD X.K Ts f) (tCons (tC (.ty T)) tNil)) call_isi hg hm hv (pa_cons ha (pa_cons (pe_bltn (v := .ty T) hgT hmT hvT rfl hnT hdT) pa_nil he2) he) (by decide) (by decide) he hpl) fun σ H Q ⟨He, O, en, d, rp, hf, kk⟩ => by
    obtain ⟨x, h1, h2⟩ := f1_some hf
    cases h2
    exact tD.of rp h1 fun v H1 x1 r1 q1 => ⟨v, .ty T, _, _, q x, rfl, .ty T, tyX_of (Dp.mono hide_out q1), kit_ty (hq x), kk _ H1 x1 r1.tabs (.bl _)⟩
def gIx : PyData → PyData → Option PyData := fun d i => match i with
  | .int i => (items d).bind fun ds => atI ds i
  | _ => none
def fIx := f2 gIx
theorem atI_dp {K : PySem.W.Frag} {H : Hp} {vs : List V} {ds : List PyData} {i : Int} {d : PyData} (h : DpAll K H vs ds) (e : atI ds i = some d) : ∃ v, atI vs i = some v ∧ Dp K H v d := by
  unfold atI at e ⊢
  rw [DpAll.len h]
  obtain ⟨j, h1, h2⟩ := Option.bind_eq_some_iff.mp e
  obtain ⟨v, h3, h4⟩ := DpAll.get' h h2
  exact ⟨v, by rw [h1]; exact h3, h4⟩
theorem b_ix (ha : DB X Ts e f) (hb : DE X Ts e2 g) (hs : PlainIx e2 := by exact fun _ _ => rfl) : DE X Ts (.Subscript e e2 pos) (fIx f g) := PE.imp (pe_ix ix_seq ha hb hs) fun σ H Q ⟨He, O, en, d, rp, hf, kk⟩ => by
  obtain ⟨x, y, h1, h2, h3⟩ := f2_some hf
  refine tB.of rp h1 fun v H1 x1 r1 q1 => tD.of r1 h2 fun w H2 x2 r2 q2 => ?_
  unfold gIx at h3
  cases q2 <;> try cases h3
  rename_i i
  obtain ⟨ds, h4, h5⟩ := Option.bind_eq_some_iff.mp h3
  cases x <;> simp only [items] at h4 <;> cases h4
  · obtain ⟨a, vs, rfl, s, qs⟩ := q1.lst
    obtain ⟨u, h6, h7⟩ := atI_dp qs h5
    exact .inl ⟨a, vs, i, u, rfl, rfl, sqL_mono (fun o n e => x2.get _ o e n) s, h6, kk u H2 (x1.trans x2) r2.tabs (Dp.mono (hide_mono x2) h7)⟩
  · obtain ⟨a, vs, rfl, s, qs⟩ := q1.tup
    obtain ⟨u, h6, h7⟩ := atI_dp qs h5
    exact .inr (.inl ⟨a, vs, i, u, rfl, rfl, sqT_mono (fun o n e => x2.get _ o e n) s, h6, kk u H2 (x1.trans x2) r2.tabs (Dp.mono (hide_mono x2) h7)⟩)
def fGcd := f2 (gI fun i j => .int ((Nat.gcd i.natAbs j.natAbs : Nat) : Int))
end
def gD (K : PySem.W.Frag) (Ts : TsT) (vs : List Nat) (b : PyData → En → Option En) : TG := fun x σ H Q => ∃ He O en d en', Rep K Ts He O σ H en ∧ Dp K (hide H O) x d ∧ b d en = some en' ∧ ∀ σ', Rep K Ts He O σ' H en' → wipe σ' vs = wipe σ vs → Q σ' H
abbrev DG (X : Cx) (Ts : TsT) (tg : Expr) (vs : List Nat) (b : PyData → En → Option En) : Prop := PG X tg (gD X.K Ts vs b)
theorem PG.imp {X : Cx} {tg : Expr} {g g' : TG} (h : PG X tg g) (w : ∀ x σ H Q, g' x σ H Q → g x σ H Q) : PG X tg g' := ⟨fun pins s σ H v u Q I r q => h.run pins s σ H v u Q I r (w v σ H Q q)⟩
def bName (i : Nat) : PyData → En → Option En := fun d en => if i < en.length then some (en.set i (.dat d)) else none
theorem Rep.setD {K : PySem.W.Frag} {Ts : TsT} {He : Hp} {O : List Addr} {σ : St} {H : Hp} {en : En} (r : Rep K Ts He O σ H en) {i : Nat} {x : V} {d : PyData} (hi : i < en.length) (q : Dp K (hide H O) x d) : Rep K Ts He O (σ.set i (some x)) H (en.set i (.dat d)) := by
  have hs : i < σ.length := by rw [← r.len]; exact hi
  refine ⟨by simp [r.len], fun j e h => ?_, fun j ds h => ?_, fun j k ds es a h1 h2 h3 h4 => ?_, r.occ, r.ext, r.tabs⟩
  · by_cases hj : i = j
    · subst hj
      rw [List.getElem?_set_self hi] at h
      cases h
      exact ⟨x, by rw [List.getElem?_set_self hs], q⟩
    · rw [List.getElem?_set_ne hj] at h
      obtain ⟨v, a, b⟩ := r.dat j e h
      exact ⟨v, by rw [List.getElem?_set_ne hj]; exact a, b⟩
  · by_cases hj : i = j
    · subst hj
      rw [List.getElem?_set_self hi] at h
      cases h
    · rw [List.getElem?_set_ne hj] at h
      obtain ⟨a, vs, h1, h2⟩ := r.own j ds h
      exact ⟨a, vs, by rw [List.getElem?_set_ne hj]; exact h1, h2⟩
  · have hj : i ≠ j := fun e => by subst e; rw [List.getElem?_set_self hi] at h1; cases h1
    have hk : i ≠ k := fun e => by subst e; rw [List.getElem?_set_self hi] at h2; cases h2
    rw [List.getElem?_set_ne hj] at h1 h3
    rw [List.getElem?_set_ne hk] at h2 h4
    exact r.inj j k ds es a h1 h2 h3 h4
theorem wipe_comm (σ : St) (i : Nat) (y : Option V) : ∀ vs : List Nat, i ∈ vs → wipe (σ.set i y) vs = wipe σ vs
  | [], h => by cases h
  | v :: vs, h => by
    unfold wipe
    by_cases hv : i ∈ vs
    · rw [wipe_comm σ i y vs hv]
    · have hvi : i = v := by
        rcases List.mem_cons.mp h with e | e
        · exact e
        · exact absurd e hv
      subst hvi
      have key : ∀ us : List Nat, i ∉ us → wipe (σ.set i y) us = (wipe σ us).set i y := by
        intro us
        induction us with
        | nil => intro _; rfl
        | cons u us ih =>
          intro hn
          have h1 : i ≠ u := fun e => hn (by rw [e]; exact List.mem_cons_self)
          have h2 : i ∉ us := fun e => hn (List.mem_cons_of_mem _ e)
          show (wipe (σ.set i y) us).set u none = ((wipe σ us).set u none).set i y
          rw [ih h2, List.set_comm _ _ h1]
      rw [key vs hv, List.set_set]
theorem wipe_in {σ : St} {i : Nat} : ∀ {vs : List Nat}, i ∈ vs → i < σ.length → (wipe σ vs)[i]? = some none
  | v :: vs, h, hl => by
    unfold wipe
    by_cases hv : v = i
    · subst hv
      rw [List.getElem?_set_self (by rw [wipe_length]; exact hl)]
    · rw [List.getElem?_set_ne hv]
      rcases List.mem_cons.mp h with e | e
      · exact absurd e.symm hv
      · exact wipe_in e hl
theorem wipe_wipe (σ : St) (vs : List Nat) : wipe (wipe σ vs) vs = wipe σ vs := by
  apply List.ext_getElem?
  intro i
  by_cases h : i ∈ vs
  · by_cases hl : i < σ.length
    · rw [wipe_in h (by rw [wipe_length]; exact hl), wipe_in h hl]
    · rw [List.getElem?_eq_none (by rw [wipe_length, wipe_length]; omega), List.getElem?_eq_none (by rw [wipe_length]; omega)]
  · rw [wipe_out h]
section
variable {X : Cx} {Ts : TsT} {pos : Pos}
theorem dg_name (i : Nat) {x : Str} {vs : List Nat} (hN : X.N.Nodup) (hi : X.N[i]? = some x) (hx : Loc X.env.scope x) (hv : i ∈ vs) (hf : X.fn x = true ∨ X.env.scope.names.lookup x = some .local := by first | exact .inl rfl | exact .inr rfl | assumption) : DG X Ts (.Name x pos) vs (bName i) :=
  PG.imp (pg_name hN hi hx hf) fun v σ H Q ⟨He, O, en, d, en', r, q, hb, kk⟩ => by
    unfold bName at hb
    split at hb
    · rename_i hl
      cases hb
      exact kk _ (r.setD hl q) (wipe_comm σ i _ vs hv)
    · cases hb
def bNames : List Nat → List PyData → En → Option En
  | [], [], en => some en
  | i :: is, d :: ds, en => (bName i d en).bind fun e => bNames is ds e
  | _, _, _ => none
def gDs (K : PySem.W.Frag) (Ts : TsT) (vs : List Nat) (is : List Nat) : TGs := fun xs σ H Q => ∃ He O en ds en', Rep K Ts He O σ H en ∧ DpAll K (hide H O) xs ds ∧ bNames is ds en = some en' ∧ ∀ σ', Rep K Ts He O σ' H en' → wipe σ' vs = wipe σ vs → Q σ' H
theorem dgs_nil {vs : List Nat} : PGs X [] (gDs X.K Ts vs []) := ⟨fun pins s σ H xs us Q I r ⟨He, O, en, ds, en', rp, q, hb, kk⟩ => by
  cases q with
  | nil =>
    cases hb
    exact pgs_nil.run pins s σ H _ us Q I r ⟨rfl, kk σ rp rfl⟩
  | cons _ _ => cases hb⟩
theorem dgs_cons {e : Expr} {es : List Expr} {vs is : List Nat} {i : Nat} (h1 : DG X Ts e vs (bName i)) (h2 : PGs X es (gDs X.K Ts vs is)) (hs : (assignEach (e :: es) X.env).map (·.2) = assign e X.env :: (assignEach es X.env).map (·.2) := by rfl) : PGs X (e :: es) (gDs X.K Ts vs (i :: is)) :=
  ⟨fun pins s σ H xs us Q I r ⟨He, O, en, ds, en', rp, q, hb, kk⟩ => by
    cases q with
    | nil => cases hb
    | cons qd qt =>
      obtain ⟨e1, hb1, hb2⟩ := Option.bind_eq_some_iff.mp hb
      exact (pgs_cons h1 h2 hs).run pins s σ H _ us Q I r ⟨_, _, rfl, He, O, en, _, e1, rp, qd, hb1, fun σ' r' w' => ⟨He, O, e1, _, en', r', qt, hb2, fun σ2 r2 w2 => kk σ2 r2 (w2.trans w')⟩⟩⟩
def bTup (is : List Nat) : PyData → En → Option En := fun d en => match d with
  | .tuple ds => bNames is ds en
  | _ => none
theorem bNames_len : ∀ {is : List Nat} {ds : List PyData} {en en' : En}, bNames is ds en = some en' → ds.length = is.length
  | [], [], _, _, _ => rfl
  | i :: is, d :: ds, en, en', h => by
    obtain ⟨e1, _, h2⟩ := Option.bind_eq_some_iff.mp h
    rw [List.length_cons, List.length_cons, bNames_len h2]
  | [], _ :: _, _, _, h => by cases h
  | _ :: _, [], _, _, h => by cases h
theorem dg_tup {es : List Expr} {k : Nat} {vs is : List Nat} (hc : X.calm = true) (h : PGs X es (gDs X.K Ts vs is)) (hn : (assignEach es X.env).length = is.length := by rfl) (hst : (assignEach es X.env).findIdx? (·.1) = none := by rfl) : DG X Ts (.Tuple es k pos) vs (bTup is) :=
  PG.imp (pg_tup hc h hn hst) fun v σ H Q ⟨He, O, en, d, en', r, q, hb, kk⟩ => by
    cases d <;> try cases hb
    rename_i ds
    cases q with
    | tup s a =>
      exact ⟨_, _, rfl, sqT_mono (fun o n e => (hide_some e).2) s, by rw [DpAll.len a]; exact bNames_len hb, He, O, en, ds, en', r, a, hb, kk⟩
def Gives (K : PySem.W.Frag) (Ts : TsT) (J : It) (ds : List PyData) (H1 : Hp) (O : List Addr) : Prop :=
  ∀ O' H2, Xt (hide H1 O) (hide H2 O') → Xt (hide H1 O) H2 → (∀ b ∈ O', H2 b ≠ none ∧ ∀ ps, H2 b ≠ some (.tbl ps)) → (∀ i, i < ds.length → J.go i H2) ∧ J.stop ds.length H2 ∧
    ∀ i x H3, i < ds.length → J.yld i H2 x H3 → ∃ d, ds[i]? = some d ∧ Xt H2 H3 ∧ (Tb Ts H2 → Tb Ts H3) ∧ Dp K (hide H3 O') x d
def tI (K : PySem.W.Frag) (Ts : TsT) (f : En → Option (List PyData)) : TI := fun σ H R => ∃ He O en ds, Rep K Ts He O σ H en ∧ f en = some ds ∧ ∀ J H1, Xt H H1 → Tb Ts H1 → Gives K Ts J ds H1 O → R J H1
abbrev DI (X : Cx) (Ts : TsT) (tg iter : Expr) (f : En → Option (List PyData)) : Prop := PI X tg iter (tI X.K Ts f)
theorem PI.imp {X : Cx} {tg iter : Expr} {t t' : TI} (h : PI X tg iter t) (w : ∀ σ H R, t' σ H R → t σ H R) : PI X tg iter t' := ⟨fun pins s σ H R I q => h.run pins s σ H R I (w σ H R q)⟩
variable {tg e e2 : Expr} {f f2 : En → Option PyData}
def rangeD (lo : Int) (n : Nat) : List PyData := (List.range n).map fun (i : Nat) => PyData.int (lo + (i : Int))
def iRange1 (f : En → Option PyData) : En → Option (List PyData) := fun en => match f en with
  | some (.int j) => if -1000000 ≤ j ∧ j ≤ 1000000 then some (rangeD 0 j.toNat) else none
  | _ => none
theorem gives_range {K : PySem.W.Frag} {lo : Int} {n : Nat} {H1 : Hp} {O : List Addr} : Gives K Ts (Itr lo n) (rangeD lo n) H1 O := fun O' H2 _ _ _ => by
  have hl : (rangeD lo n).length = n := by simp [rangeD]
  refine ⟨fun i hi => by rw [hl] at hi; exact hi, by rw [hl]; exact Nat.le_refl _, fun i x H3 hi hy => ?_⟩
  obtain ⟨rfl, rfl⟩ := hy
  rw [hl] at hi
  exact ⟨.int (lo + i), by simp [rangeD, hi], Xt.refl _, id, .int _⟩
theorem di_range1 {p pos : Pos} (hg : Gl X "range") (hm : X.mg "range" = none) (ha : DE X Ts e f) (hs : starEach [e] X.env = [(false, eval e X.env)] := by rfl) : DI X Ts tg (.Call (.Name "range" p) [e] [] pos) (iRange1 f) :=
  PI.imp (pi_range1 (ta := tCons (tD X.K Ts f) tNil) hg hm (pa_cons ha pa_nil hs) hs) fun σ H R ⟨He, O, en, ds, rp, hf, kk⟩ => by
    unfold iRange1 at hf
    split at hf
    · rename_i j e
      split at hf
      · rename_i hj
        cases hf
        refine tD.of rp e fun v H1 x1 r1 q1 => ?_
        cases q1
        exact ⟨j, rfl, by omega, by omega, kk _ H1 x1 r1.tabs gives_range⟩
      · cases hf
    · cases hf
def wipeE (en : En) : List Nat → En
  | [] => en
  | v :: vs => (wipeE en vs).set v .no
theorem Rep.wipe {K : PySem.W.Frag} {He : Hp} {O : List Addr} {σ : St} {H : Hp} {en : En} (r : Rep K Ts He O σ H en) : ∀ vs : List Nat, Rep K Ts He O (L2.wipe σ vs) H (wipeE en vs)
  | [] => r
  | v :: vs => by
    have ih := Rep.wipe r vs
    show Rep K Ts He O ((L2.wipe σ vs).set v none) H ((wipeE en vs).set v .no)
    refine ⟨by simp [ih.len], fun j e h => ?_, fun j ds h => ?_, fun j k ds es a h1 h2 h3 h4 => ?_, ih.occ, ih.ext, ih.tabs⟩
    · have hj : v ≠ j := fun z => by
        subst z
        by_cases hl : v < (wipeE en vs).length
        · rw [List.getElem?_set_self hl] at h; cases h
        · rw [List.getElem?_eq_none (by simpa using hl)] at h; cases h
      rw [List.getElem?_set_ne hj] at h ⊢
      exact ih.dat j e h
    · have hj : v ≠ j := fun z => by
        subst z
        by_cases hl : v < (wipeE en vs).length
        · rw [List.getElem?_set_self hl] at h; cases h
        · rw [List.getElem?_eq_none (by simpa using hl)] at h; cases h
      rw [List.getElem?_set_ne hj] at h ⊢
      exact ih.own j ds h
    · have hno : ∀ i ds, ((wipeE en vs).set v Slot.no)[i]? = some (Slot.own ds) → v ≠ i := fun i ds h z => by
        subst z
        by_cases hl : v < (wipeE en vs).length
        · rw [List.getElem?_set_self hl] at h; cases h
        · rw [List.getElem?_eq_none (by simpa using hl)] at h; cases h
      have hj := hno j ds h1
      have hk := hno k es h2
      rw [List.getElem?_set_ne hj] at h1 h3
      rw [List.getElem?_set_ne hk] at h2 h4
      exact ih.inj j k ds es a h1 h2 h3 h4
def lcGo (b : PyData → En → Option En) (t : En → Option Bool) (f : En → Option PyData) (en : En) : List PyData → Option (List PyData)
  | [] => some []
  | d :: r => (b d en).bind fun e1 => (t e1).bind fun k => if k = true then (f e1).bind fun y => (lcGo b t f en r).map (y :: ·) else lcGo b t f en r
def fLc (it : En → Option (List PyData)) (b : PyData → En → Option En) (t : En → Option Bool) (f : En → Option PyData) (vs : List Nat) : En → Option PyData := fun en => (it en).bind fun ds =>
  if ds.length ≤ 1000000 then (lcGo b t f (wipeE en vs) ds).map .list else none
def kYes : En → Option Bool := fun _ => some true
theorem dts_nil : PTs X [] (tT X.K Ts kYes) := ⟨fun pins s σ H Q I ⟨He, O, en, b, rp, hf, kk⟩ => by
  cases hf
  exact pts_nil.run pins s σ H Q I (kk H (Xt.refl H) rp.tabs)⟩
theorem dts_one {c : Expr} {t : En → Option Bool} (h : DT X Ts c t) : PTs X [c] (tT X.K Ts t) := pts_one h
def tNew (K : PySem.W.Frag) (Ts : TsT) (f : En → Option PyData) : TE := fun σ H Q => ∃ He O en ds, Rep K Ts He O σ H en ∧ f en = some (.list ds) ∧ ∀ a vs H', Xt H H' → Tb Ts H' → H a = none → H' a = some (.lst vs) → DpAll K (hide H' (a :: O)) vs ds → Q (.ref a) H'
abbrev DNew (X : Cx) (Ts : TsT) (e : Expr) (f : En → Option PyData) : Prop := PE X e (tNew X.K Ts f)
theorem Rep.free {K : PySem.W.Frag} {He : Hp} {O : List Addr} {σ : St} {H : Hp} {en : En} (r : Rep K Ts He O σ H en) {a : Addr} (h : H a = none) : a ∉ O := fun z => (r.occ a z).1 h
theorem new_w {K : PySem.W.Frag} {f : En → Option PyData} {σ : St} {H : Hp} {Q : VK} (h : tD K Ts f σ H Q) (hl : ∀ en d, f en = some d → ∃ ds, d = .list ds) : tNew K Ts f σ H Q := by
  obtain ⟨He, O, en, d, rp, hf, kk⟩ := h
  obtain ⟨ds, rfl⟩ := hl en d hf
  exact ⟨He, O, en, ds, rp, hf, fun a vs H' x t na ha q => kk _ H' x t (.lst (.inl (.inl (hide_of (rp.free na) ha))) (DpAll.mono (hide_sub fun b hb => List.mem_cons_of_mem _ hb) q))⟩
theorem fLc_list {it : En → Option (List PyData)} {b : PyData → En → Option En} {t : En → Option Bool} {f : En → Option PyData} {vs : List Nat} : ∀ en d, fLc it b t f vs en = some d → ∃ ds, d = .list ds := fun en d h => by
  unfold fLc at h
  obtain ⟨ds, _, h⟩ := Option.bind_eq_some_iff.mp h
  split at h
  · obtain ⟨out, _, rfl⟩ := Option.map_eq_some_iff.mp h
    exact ⟨out, rfl⟩
  · cases h
theorem lc_w {K : PySem.W.Frag} {it : En → Option (List PyData)} {b : PyData → En → Option En} {t : En → Option Bool} {f : En → Option PyData} {vs : List Nat} {σ : St} {H : Hp} {Q : VK} (h : tNew K Ts (fLc it b t f vs) σ H Q) :
    tLc (tI K Ts it) (gD K Ts vs b) (tT K Ts t) (tD K Ts f) vs σ H Q := by
  obtain ⟨He, O, en, out, rp, hf, kk⟩ := h
  unfold fLc at hf
  obtain ⟨ds, h1, hf1⟩ := Option.bind_eq_some_iff.mp hf
  clear hf
  split at hf1
  · rename_i hlen
    obtain ⟨out', h2, h3⟩ := Option.map_eq_some_iff.mp hf1
    cases h3
    refine ⟨He, O, en, ds, rp, h1, fun J H1 x1 t1 gv D nD => ?_⟩
    have nDH : H D = none := x1.there nD
    have r1 := rp.go x1 t1
    have rD : Rep K Ts He (D :: O) σ (upd H1 D (.lst [])) en := r1.hid nD (fun _ z => nomatch z)
    refine ⟨fun i m H2 => m = ds.length - i ∧ i ≤ ds.length ∧ Xt H1 H2 ∧ Rep K Ts He (D :: O) (L2.wipe σ vs) H2 (wipeE en vs) ∧ ∃ acc done rest, H2 D = some (.lst acc) ∧ DpAll K (hide H2 (D :: O)) acc done ∧ acc.length ≤ i ∧ lcGo b t f (wipeE en vs) (ds.drop i) = some rest ∧ out = done ++ rest,
      ⟨ds.length, by simp, Nat.zero_le _, Xt.upd nD, rD.wipe vs, [], [], out, upd_same, .nil, Nat.zero_le _, by simpa using h2, rfl⟩, fun i m H2 hW => ?_⟩
    obtain ⟨rfl, hi, x12, r2, acc, done, rest, hD, ha, hal, hgo, hout⟩ := hW
    have xh : Xt (hide H1 O) (hide H2 (D :: O)) := fun b o e => by
      obtain ⟨e1, e2⟩ := hide_some e
      have nb : b ∉ D :: O := fun z => by
        rcases List.mem_cons.mp z with z | z
        · rw [z, nD] at e2; cases e2
        · exact e1 z
      rcases x12 b o e2 with q | ⟨ps, qs, e3, q⟩
      · exact .inl (hide_of nb q)
      · exact .inr ⟨ps, qs, e3, hide_of nb q⟩
    obtain ⟨g1, g2, g3⟩ := gv (D :: O) H2 xh (hide_out.trans x12) r2.occ
    by_cases hlt : i < ds.length
    · refine .inr ⟨g1 i hlt, fun H' => Xt H1 H' ∧ Rep K Ts He (D :: O) (L2.wipe σ vs) H' (wipeE en vs) ∧ ∃ acc done rest, H' D = some (.lst acc) ∧ DpAll K (hide H' (D :: O)) acc done ∧ acc.length ≤ i + 1 ∧ lcGo b t f (wipeE en vs) (ds.drop (i + 1)) = some rest ∧ out = done ++ rest,
        fun H' ⟨a, c⟩ => ⟨ds.length - (i + 1), by omega, rfl, hlt, a, c⟩, fun x H3 hy => ?_⟩
      obtain ⟨d, hd, x23, t23, qd⟩ := g3 i x H3 hlt hy
      have r3 := r2.go x23 (t23 r2.tabs)
      rw [List.drop_eq_getElem_cons hlt] at hgo
      have hd' : ds[i] = d := by rw [List.getElem?_eq_getElem hlt] at hd; exact Option.some.inj hd
      rw [hd'] at hgo
      unfold lcGo at hgo
      obtain ⟨e1, hb, hgo1⟩ := Option.bind_eq_some_iff.mp hgo
      obtain ⟨k, ht, hgo2⟩ := Option.bind_eq_some_iff.mp hgo1
      clear hgo hgo1
      refine ⟨He, D :: O, _, d, e1, r3, qd, hb, fun σ2 r4 hw => ⟨hw.trans (wipe_wipe _ _), ?_⟩⟩
      refine tT.of r4 ht fun H4 x34 r5 => ?_
      have x14 : Xt H2 H4 := x23.trans x34
      have hD4 : H4 D = some (.lst acc) := x14.get D _ hD (fun _ z => nomatch z)
      have ha4 := DpAll.mono (hide_mono (O := D :: O) x14) ha
      have rw4 : Rep K Ts He (D :: O) (L2.wipe σ vs) H4 (wipeE en vs) := r2.go x14 r5.tabs
      cases k with
      | false =>
        simp only [Bool.false_eq_true, if_false] at hgo2 ⊢
        exact ⟨x12.trans x14, rw4, acc, done, rest, hD4, ha4, by omega, hgo2, hout⟩
      | true =>
        simp only [if_true] at hgo2 ⊢
        obtain ⟨y, hy1, hgo3⟩ := Option.bind_eq_some_iff.mp hgo2
        obtain ⟨rest', hr1, hr2⟩ := Option.map_eq_some_iff.mp hgo3
        subst hr2
        refine tD.of r5 hy1 fun v H5 x45 r6 q6 => ?_
        have x25 : Xt H2 H5 := x14.trans x45
        have hD5 : H5 D = some (.lst acc) := x25.get D _ hD (fun _ z => nomatch z)
        have ha5 := DpAll.mono (hide_mono (O := D :: O) x25) ha
        have hDm : D ∈ D :: O := List.mem_cons_self
        have hu : Xt (hide H5 (D :: O)) (hide (upd H5 D (.lst (acc ++ [v]))) (D :: O)) := hide_upd hDm
        refine ⟨acc, hD5, by rw [sizeLine_eq]; omega, ?_, ?_, acc ++ [v], done ++ [y], rest', upd_same, DpAll.app (DpAll.mono hu ha5) (.cons (Dp.mono hu q6) .nil), by rw [List.length_append]; simp; omega, hr1, by rw [hout]; simp⟩
        · intro b o e
          have hne : b ≠ D := ne_of_none e nD
          rw [upd_ne hne]
          exact (x12.trans x25) b o e
        · have rw5 : Rep K Ts He (D :: O) (L2.wipe σ vs) H5 (wipeE en vs) := r2.go x25 r6.tabs
          have nown : ∀ j es a, (wipeE en vs)[j]? = some (Slot.own es) → (L2.wipe σ vs)[j]? = some (some (V.ref a)) → a ≠ D := fun j es a h1 h2 z => by
            obtain ⟨a', vs', g1, g2, g3, g4, _⟩ := (r1.wipe vs).own j es h1
            rw [h2] at g1
            cases g1
            rw [z, nD] at g4
            cases g4
          refine ⟨rw5.len, fun j dd h => let ⟨u, p, q⟩ := rw5.dat j dd h; ⟨u, p, Dp.mono hu q⟩, fun j es h => ?_, rw5.inj, fun bb hb => ?_, ?_, rw5.tabs.upd fun u z => by rw [hD5] at z; cases z; exact lst_noc⟩
          · obtain ⟨a, ws, p1, p2, p3, p4, p5⟩ := rw5.own j es h
            exact ⟨a, ws, p1, p2, p3, by rw [upd_ne (nown j es a h p1)]; exact p4, DpAll.mono hu p5⟩
          · by_cases z : bb = D
            · rw [z, upd_same]
              exact ⟨by simp, fun ps q => nomatch q⟩
            · rw [upd_ne z]
              exact rw5.occ bb hb
          · intro bb o e
            have e1 := rw5.ext bb o e
            have hne : bb ≠ D := fun z => by
              have := (rp.ext.trans x1).there (b := bb) (by rw [z]; exact nD)
              rw [this] at e
              cases e
            rw [upd_ne hne]
            exact e1
    · have hie : i = ds.length := by omega
      subst hie
      rw [List.drop_of_length_le (Nat.le_refl _)] at hgo
      cases hgo
      rw [List.append_nil] at hout
      subst hout
      exact .inl ⟨g2, kk D acc H2 (x1.trans x12) r2.tabs nDH hD ha⟩
  · cases hf1
end
abbrev BX (X : Cx) (scope : Scope) (s : Shared) (H : Hp) (C : Addr) (cl : List (Str × Addr)) (fp : List Addr) : Cx := X.blk s H scope (compEnvC scope cl C X.env) fp
section
variable {X : Cx} {Ts : TsT} {pos : Pos} {elt tg iter : Expr} {ifs : List Expr} {scope : Scope} {own : List (Str × Nat)} {it : En → Option (List PyData)} {b : PyData → En → Option En} {t : En → Option Bool} {f : En → Option PyData}
theorem n_lc (hc : X.calm = true) (hN : X.N.Nodup) (hi : DI X Ts tg iter it) (ok : BlkOk X.N X.env.scope scope own)
    (hg : ∀ s H C cl fp, DG (BX X scope s H C cl fp) Ts tg (own.map (·.2)) b) (ht : ∀ s H C cl fp, PTs (BX X scope s H C cl fp) ifs (tT X.K Ts t))
    (he : ∀ s H C cl fp, DE (BX X scope s H C cl fp) Ts elt f) (hs : ∀ x, foldedSetIterable iter X.env x = pure x := by intro _; rfl) : DNew X Ts (.ListComp elt [⟨tg, iter, ifs, 0⟩] scope pos) (fLc it b t f (own.map (·.2))) :=
  PE.imp (pe_lc hc hN hi ok (fun s H C cl fp => hg s H C cl fp) (fun s H C cl fp => ht s H C cl fp) (fun s H C cl fp => he s H C cl fp) hs) fun σ H Q h => lc_w h
theorem d_lc (hc : X.calm = true) (hN : X.N.Nodup) (hi : DI X Ts tg iter it) (ok : BlkOk X.N X.env.scope scope own)
    (hg : ∀ s H C cl fp, DG (BX X scope s H C cl fp) Ts tg (own.map (·.2)) b) (ht : ∀ s H C cl fp, PTs (BX X scope s H C cl fp) ifs (tT X.K Ts t))
    (he : ∀ s H C cl fp, DE (BX X scope s H C cl fp) Ts elt f) (hs : ∀ x, foldedSetIterable iter X.env x = pure x := by intro _; rfl) : DE X Ts (.ListComp elt [⟨tg, iter, ifs, 0⟩] scope pos) (fLc it b t f (own.map (·.2))) :=
  PE.imp (n_lc hc hN hi ok hg ht he hs) fun σ H Q h => new_w h fLc_list
def NoOwn (D : Addr) (τ : St) (en : En) : Prop := ∀ (j : Nat) (es : List PyData) (a : Addr), en[j]? = some (Slot.own es) → τ[j]? = some (some (V.ref a)) → a ≠ D
theorem wipeE_own {en : En} {vs : List Nat} {j : Nat} {es : List PyData} (h : (wipeE en vs)[j]? = some (Slot.own es)) : en[j]? = some (Slot.own es) ∧ j ∉ vs := by
  induction vs with
  | nil => exact ⟨h, by simp⟩
  | cons v vs ih =>
    have h : ((wipeE en vs).set v .no)[j]? = some (Slot.own es) := h
    have hj : v ≠ j := fun z => by
      subst z
      by_cases hl : v < (wipeE en vs).length
      · rw [List.getElem?_set_self hl] at h; cases h
      · rw [List.getElem?_eq_none (by simpa using hl)] at h; cases h
    rw [List.getElem?_set_ne hj] at h
    obtain ⟨h1, h2⟩ := ih h
    exact ⟨h1, by simp only [List.mem_cons, not_or]; exact ⟨fun e => hj e.symm, h2⟩⟩
theorem NoOwn.wipe {D : Addr} {τ : St} {en : En} (h : NoOwn D τ en) (vs : List Nat) : NoOwn D (L2.wipe τ vs) (wipeE en vs) := fun j es a h1 h2 => by
  obtain ⟨h3, h4⟩ := wipeE_own h1
  rw [wipe_out h4] at h2
  exact h j es a h3 h2
def allGo (ev : Bool) (b : PyData → En → Option En) (f : En → Option PyData) (en : En) : List PyData → Option PyData
  | [] => some (.bool ev)
  | d :: r => (b d en).bind fun e1 => match f e1 with
    | some (.bool k) => if k = ev then allGo ev b f en r else some (.bool k)
    | _ => none
def fAll (ev : Bool) (it : En → Option (List PyData)) (b : PyData → En → Option En) (f : En → Option PyData) (vs : List Nat) : En → Option PyData := fun en => (it en).bind fun ds => allGo ev b f (wipeE en vs) ds
theorem all_w {K : PySem.W.Frag} {ev : Bool} {P : Addr} {vs : List Nat} {σ : St} {H : Hp} {Q : VK} (hP : P ∈ Ts.gs) (h : tD K Ts (fAll ev it b f vs) σ H Q) : GA.tGen ev P (tI K Ts it) (gD K Ts vs b) (tD K Ts f) vs σ H Q := by
  obtain ⟨He, O, en, d0, rp, hf, kk⟩ := h
  unfold fAll at hf
  obtain ⟨ds, h1, h2⟩ := Option.bind_eq_some_iff.mp hf
  clear hf
  refine ⟨He, O, en, ds, rp, h1, fun J H1 x1 t1 gv => ⟨t1.1 P hP, fun Hn tb => ?_⟩⟩
  have xn : Xt H1 Hn := fun bb o e => by
    by_cases z : bb = P
    · obtain ⟨ps, e1, _⟩ := t1.1 P hP
      obtain ⟨qs, e2, _⟩ := tb.1
      rw [z] at e ⊢
      rw [e1] at e
      cases e
      exact .inr ⟨ps, qs, rfl, e2⟩
    · rw [tb.2 bb z]
      exact .inl e
  have tn : Tb Ts Hn := by
    refine ⟨fun P' hP' => ?_, fun P' hP' => ?_, t1.2.2⟩
    · by_cases z : P' = P
      · rw [z]; exact tb.1
      · obtain ⟨ps, e1, e2⟩ := t1.1 P' hP'
        exact ⟨ps, by rw [tb.2 P' z]; exact e1, e2⟩
    · have z : P'.1 ≠ P := fun z => (t1.2.2 P' hP').1 (by rw [z]; exact hP)
      obtain ⟨ps, e1, e2, e3⟩ := t1.2.1 P' hP'
      refine ⟨ps, by rw [tb.2 P'.1 z]; exact e1, e2, fun pos cv hc => ?_⟩
      obtain ⟨c, c1, c2⟩ := e3 pos cv hc
      refine ⟨c, c1, ?_⟩
      rw [tb.2 c (fun y => by
        obtain ⟨qs, q1, _⟩ := t1.1 P hP
        rw [y, q1] at c2
        unfold LamX.CodeO at c2
        cases c2)]
      exact c2
  refine ⟨fun i m H2 => m = ds.length - i ∧ i ≤ ds.length ∧ Xt H1 H2 ∧ Rep K Ts He O (L2.wipe σ vs) H2 (wipeE en vs) ∧ allGo ev b f (wipeE en vs) (ds.drop i) = some d0,
    ⟨ds.length, by simp, Nat.zero_le _, xn, ((rp.go x1 t1).go xn tn).wipe vs, by simpa using h2⟩, fun i m H2 hW => ?_⟩
  obtain ⟨rfl, hi, x12, r2, hgo⟩ := hW
  obtain ⟨g1, g2, g3⟩ := gv O H2 (hide_mono x12) (hide_out.trans x12) r2.occ
  by_cases hlt : i < ds.length
  · refine .inr ⟨g1 i hlt, fun H' => Xt H1 H' ∧ Rep K Ts He O (L2.wipe σ vs) H' (wipeE en vs) ∧ allGo ev b f (wipeE en vs) (ds.drop (i + 1)) = some d0, fun H' ⟨a, c⟩ => ⟨ds.length - (i + 1), by omega, rfl, hlt, a, c⟩, fun x H3 hy => ?_⟩
    obtain ⟨d, hd, x23, t23, qd⟩ := g3 i x H3 hlt hy
    have r3 := r2.go x23 (t23 r2.tabs)
    rw [List.drop_eq_getElem_cons hlt] at hgo
    have hd' : ds[i] = d := by rw [List.getElem?_eq_getElem hlt] at hd; exact Option.some.inj hd
    rw [hd'] at hgo
    unfold allGo at hgo
    obtain ⟨e1, hb, hgo1⟩ := Option.bind_eq_some_iff.mp hgo
    clear hgo
    refine ⟨He, O, _, d, e1, r3, qd, hb, fun σ2 r4 hw => ⟨hw.trans (wipe_wipe _ _), ?_⟩⟩
    split at hgo1
    · rename_i k hk
      refine tD.of r4 hk fun v H4 x34 r5 q5 => ?_
      cases q5
      refine ⟨k, rfl, ?_⟩
      by_cases hke : k = ev
      · rw [if_pos hke] at hgo1 ⊢
        exact ⟨x12.trans (x23.trans x34), r2.go (x23.trans x34) r5.tabs, hgo1⟩
      · rw [if_neg hke] at hgo1 ⊢
        cases hgo1
        exact kk _ H4 (x1.trans (x12.trans (x23.trans x34))) r5.tabs (.bl _)
    · cases hgo1
  · have hie : i = ds.length := by omega
    subst hie
    rw [List.drop_of_length_le (Nat.le_refl _)] at hgo
    cases hgo
    exact .inl ⟨g2, kk _ H2 (x1.trans x12) r2.tabs (.bl _)⟩
abbrev GX (X : Cx) (scope : Scope) (s : Shared) (H : Hp) (cl : List (Str × Addr)) (C : Addr) (code : Value) (fp : List Addr) (pn : List (Addr × Obj)) : Cx := GA.gCx X s H (genEnv scope cl C code builtinsNs X.env) fp pn
theorem d_all {c P : Addr} {p gpos : Pos} {k : Nat} (hr : Room k X.A) (hgl : Gl X "all") (hm : X.mg "all" = none) (hb : bootBuiltins "all" = some (.builtin "all")) (TB : LamX.TabB X.base X.mg c P) (hP : P ∈ Ts.gs) (hcode : X.env.code = .ref c) (hc : X.calm = true) (hN : X.N.Nodup)
    (hi : DI X Ts tg iter it) (ok : BlkOk X.N X.env.scope scope own) (gk : GA.GenK scope) (hg : ∀ s H cl C code fp pn, DG (GX X scope s H cl C code fp pn) Ts tg (own.map (·.2)) b) (he : ∀ s H cl C code fp pn, DE (GX X scope s H cl C code fp pn) Ts elt f)
    (hs : ∀ v, genFold iter X.env v = pure v := by intro _; rfl) (hst : starEach [.GeneratorExp elt [⟨tg, iter, [], 0⟩] scope gpos] X.env = (false, eval (.GeneratorExp elt [⟨tg, iter, [], 0⟩] scope gpos) X.env) :: starEach [] X.env := by rfl) :
    DE X Ts (.Call (.Name "all" p) [.GeneratorExp elt [⟨tg, iter, [], 0⟩] scope gpos] [] pos) (fAll true it b f (own.map (·.2))) :=
  PE.imp (GA.pe_allG hr hgl hm hb TB hcode hc hN hi ok gk (fun s H cl C code fp pn => hg s H cl C code fp pn) (fun s H cl C code fp pn => he s H cl C code fp pn) hs hst) fun σ H Q h => all_w hP h
end
inductive Fl where
  | nx (en : En) | rt (d : PyData) | bk (en : En) | ct (en : En)
def RepS (K : PySem.W.Frag) (Ts : TsT) (He : Hp) (O₀ : List Addr) (Vz : Hp) (σ : St) (H : Hp) (en : En) : Prop := ∃ O, (∀ b ∈ O₀, b ∈ O) ∧ (∀ b ∈ O₀, He b ≠ none) ∧ Rep K Ts He O σ H en ∧ Xt Vz (hide H O)
def Post (K : PySem.W.Frag) (Ts : TsT) (He : Hp) (O₀ : List Addr) (Vz : Hp) (D : Ends) : Fl → Prop
  | .nx en => ∀ σ' H', RepS K Ts He O₀ Vz σ' H' en → D.nx σ' H'
  | .rt d => ∀ v H', Xt He H' → Tb Ts H' → Dp K (hide H' O₀) v d → D.rt v H'
  | .bk en => ∀ σ' H', RepS K Ts He O₀ Vz σ' H' en → D.bk σ' H'
  | .ct en => ∀ σ' H', RepS K Ts He O₀ Vz σ' H' en → D.ct σ' H'
def tS (K : PySem.W.Frag) (Ts : TsT) (F : En → Option Fl) : TS := fun D σ H => ∃ He O₀ Vz en r, RepS K Ts He O₀ Vz σ H en ∧ F en = some r ∧ Post K Ts He O₀ Vz D r
abbrev DS (X : Cx) (Ts : TsT) (st : Stmt) (F : En → Option Fl) : Prop := PS X st (tS X.K Ts F)
abbrev DSs (X : Cx) (Ts : TsT) (st : List Stmt) (F : En → Option Fl) : Prop := PSs X st (tS X.K Ts F)
theorem RepS.go {K : PySem.W.Frag} {Ts : TsT} {He : Hp} {O₀ : List Addr} {σ : St} {H H' : Hp} {en : En} {Vz : Hp} (r : RepS K Ts He O₀ Vz σ H en) (x : Xt H H') (t : Tb Ts H') : RepS K Ts He O₀ Vz σ H' en :=
  let ⟨O, a, b, c, d⟩ := r; ⟨O, a, b, c.go x t, d.trans (hide_mono x)⟩
def sSeq (F G : En → Option Fl) : En → Option Fl := fun en => match F en with
  | some (.nx e) => G e
  | r => r
def sNil : En → Option Fl := fun en => some (.nx en)
def sSet (i : Nat) (f : En → Option PyData) : En → Option Fl := fun en => (f en).bind fun d => (bName i d en).map .nx
def sBind (b : PyData → En → Option En) (f : En → Option PyData) : En → Option Fl := fun en => (f en).bind fun d => (b d en).map .nx
def sOwn (i : Nat) (f : En → Option PyData) : En → Option Fl := fun en => match f en with
  | some (.list ds) => if i < en.length then some (.nx (en.set i (.own ds))) else none
  | _ => none
def sApp (i : Nat) (f : En → Option PyData) : En → Option Fl := fun en => (f en).bind fun d => match en[i]? with
  | some (.own ds) => if ds.length ≤ 1000000 then some (.nx (en.set i (.own (ds ++ [d])))) else none
  | _ => none
def sRel (i : Nat) : En → Option Fl := fun en => match en[i]? with
  | some (.own ds) => some (.nx (en.set i (.dat (.list ds))))
  | _ => none
def sIf (t : En → Option Bool) (F G : En → Option Fl) : En → Option Fl := fun en => match t en with
  | some true => F en
  | some false => G en
  | none => none
def sRet (f : En → Option PyData) : En → Option Fl := fun en => (f en).map .rt
def sExpr (f : En → Option PyData) : En → Option Fl := fun en => (f en).map fun _ => .nx en
def sNever : En → Option Fl := fun _ => none
def forGo (b : PyData → En → Option En) (F : En → Option Fl) : List PyData → En → Option Fl
  | [], en => some (.nx en)
  | d :: r, en => (b d en).bind fun e1 => match F e1 with
    | some (.nx e2) => forGo b F r e2
    | some (.ct e2) => forGo b F r e2
    | some (.bk e2) => some (.nx e2)
    | some (.rt v) => some (.rt v)
    | none => none
def sFor (it : En → Option (List PyData)) (b : PyData → En → Option En) (F : En → Option Fl) : En → Option Fl := fun en => (it en).bind fun ds => forGo b F ds en
def whGo (t : En → Option Bool) (F : En → Option Fl) : Nat → En → Option Fl
  | 0, _ => none
  | n + 1, en => match t en with
    | some true => match F en with
      | some (.nx e2) => whGo t F n e2
      | some (.ct e2) => whGo t F n e2
      | some (.bk e2) => some (.nx e2)
      | some (.rt v) => some (.rt v)
      | none => none
    | some false => some (.nx en)
    | none => none
def sWhile (n : En → Nat) (t : En → Option Bool) (F : En → Option Fl) : En → Option Fl := fun en => whGo t F (n en) en
def sPar (i j : Nat) (f g : En → Option PyData) : En → Option Fl := fun en => (f en).bind fun x => (g en).bind fun y => (bName i x en).bind fun e1 => (bName j y e1).map .nx
section
variable {X : Cx} {Ts : TsT} {pos : Pos} {st : Stmt} {rest : List Stmt} {F G : En → Option Fl} {e : Expr} {f g : En → Option PyData}
theorem s_nil : DSs X Ts [] sNil := PSs.imp pss_nil fun D σ H ⟨He, O₀, Vz, en, r, rp, hf, k⟩ => by
  cases hf
  exact k σ H rp
theorem s_cons (h1 : DS X Ts st F) (h2 : DSs X Ts rest G) : DSs X Ts (st :: rest) (sSeq F G) := PSs.imp (pss_cons h1 h2) fun D σ H ⟨He, O₀, Vz, en, r, rp, hf, k⟩ => by
  unfold sSeq at hf
  split at hf
  · rename_i e1 h
    exact ⟨He, O₀, Vz, en, _, rp, h, fun σ' H' r' => ⟨He, O₀, Vz, e1, r, r', hf, k⟩⟩
  · rename_i hn
    refine ⟨He, O₀, Vz, en, r, rp, hf, ?_⟩
    cases r with
    | nx e1 => exact absurd hf (hn e1)
    | rt d => exact k
    | bk e1 => exact k
    | ct e1 => exact k
theorem s_one (h1 : DS X Ts st F) : DSs X Ts [st] F := pss_one h1
theorem s_rel (i : Nat) (h : DSs X Ts rest G) : DSs X Ts rest (sSeq (sRel i) G) := PSs.imp h fun D σ H ⟨He, O₀, Vz, en, r, rp, hf, k⟩ => by
  unfold sSeq sRel at hf
  split at hf
  · rename_i e1 h1
    split at h1
    · rename_i ds hd
      cases h1
      refine ⟨He, O₀, Vz, _, r, ?_, hf, k⟩
      obtain ⟨O, a1, a2, rp, xv⟩ := rp
      obtain ⟨a, vs, p1, p2, p3, p4, p5⟩ := rp.own i ds hd
      have hi : i < en.length := (List.getElem?_eq_some_iff.mp hd).1
      have hsub : ∀ b ∈ O.filter (fun b => decide (b ≠ a)), b ∈ O := fun b hb => (List.mem_filter.mp hb).1
      have nA : a ∉ O.filter (fun b => decide (b ≠ a)) := fun z => by simpa using (List.mem_filter.mp z).2
      have hs : Xt (hide H O) (hide H (O.filter (fun b => decide (b ≠ a)))) := hide_sub hsub
      refine ⟨O.filter (fun b => decide (b ≠ a)), fun b hb => List.mem_filter.mpr ⟨a1 b hb, decide_eq_true fun z => a2 b hb (by rw [z]; exact p3)⟩, a2, ⟨by simp [rp.len], fun j d h => ?_, fun j es h => ?_, fun j k es es' aa h1 h2 h3 h4 => ?_, fun b hb => rp.occ b (hsub b hb), rp.ext, rp.tabs⟩, xv.trans hs⟩
      · by_cases hj : i = j
        · subst hj
          rw [List.getElem?_set_self hi] at h
          cases h
          exact ⟨.ref a, p1, .lst (.inl (.inl (hide_of nA p4))) (DpAll.mono hs p5)⟩
        · rw [List.getElem?_set_ne hj] at h
          obtain ⟨v, q1, q2⟩ := rp.dat j d h
          exact ⟨v, q1, Dp.mono hs q2⟩
      · have hj : i ≠ j := fun z => by subst z; rw [List.getElem?_set_self hi] at h; cases h
        rw [List.getElem?_set_ne hj] at h
        obtain ⟨a', vs', q1, q2, q3, q4, q5⟩ := rp.own j es h
        refine ⟨a', vs', q1, List.mem_filter.mpr ⟨q2, decide_eq_true fun z => hj ?_⟩, q3, q4, DpAll.mono hs q5⟩
        subst z
        exact rp.inj i j ds es a' hd h p1 q1
      · have hj : i ≠ j := fun z => by subst z; rw [List.getElem?_set_self hi] at h1; cases h1
        have hk : i ≠ k := fun z => by subst z; rw [List.getElem?_set_self hi] at h2; cases h2
        rw [List.getElem?_set_ne hj] at h1
        rw [List.getElem?_set_ne hk] at h2
        exact rp.inj j k es es' aa h1 h2 h3 h4
    · cases h1
  · rename_i hn
    split at hf
    · rename_i ds hd
      exact absurd (show (match en[i]? with
        | some (Slot.own ds) => some (Fl.nx (List.set en i (Slot.dat (PyData.list ds))))
        | x => none) = some (Fl.nx (List.set en i (Slot.dat (PyData.list ds)))) by rw [hd]) (hn _)
    · cases hf
theorem RepS.setD {K : PySem.W.Frag} {He : Hp} {O₀ O : List Addr} {σ : St} {H : Hp} {en e1 : En} {i : Nat} {x : V} {d : PyData} (a1 : ∀ b ∈ O₀, b ∈ O) (a2 : ∀ b ∈ O₀, He b ≠ none) (rp : Rep K Ts He O σ H en) (hb : bName i d en = some e1) (q : Dp K (hide H O) x d) {Vz : Hp} (xv : Xt Vz (hide H O)) : RepS K Ts He O₀ Vz (σ.set i (some x)) H e1 := by
  unfold bName at hb
  split at hb
  · rename_i hi
    cases hb
    exact ⟨O, a1, a2, rp.setD hi q, xv⟩
  · cases hb
theorem set_w {K : PySem.W.Frag} {i : Nat} : ∀ D σ H, tS K Ts (sSet i f) D σ H → tAsg (tD K Ts f) (gName i) D σ H := fun D σ H ⟨He, O₀, Vz, en, r, rp, hf, k⟩ => by
  unfold sSet at hf
  obtain ⟨d, h1, h2⟩ := Option.bind_eq_some_iff.mp hf
  obtain ⟨e1, h3, rfl⟩ := Option.map_eq_some_iff.mp h2
  obtain ⟨O, a1, a2, rp, xv⟩ := rp
  exact tD.of rp h1 fun v H1 x1 r1 q1 => k _ H1 (RepS.setD a1 a2 r1 h3 q1 (xv.trans (hide_mono x1)))
theorem s_set {i : Nat} {x : Str} {pos' : Pos} (hN : X.N.Nodup) (hi : X.N[i]? = some x) (hx : Loc X.env.scope x) (he : DE X Ts e f) (hs : swapsWith e (some (.Name x pos')) pos.line X.env = pure false := by rfl) (hf : X.fn x = true ∨ X.env.scope.names.lookup x = some .local := by first | exact .inl rfl | exact .inr rfl | assumption) :
    DS X Ts (.Assign [.Name x pos'] e pos) (sSet i f) := PS.imp (ps_set hN hi hx he hs hf) set_w
theorem s_bind {tg : Expr} {vs : List Nat} {b : PyData → En → Option En} (he : DE X Ts e f) (hg : DG X Ts tg vs b) (hs : swapsWithSole [tg] e pos.line X.env = pure false := by rfl) (hw : swappedStores [tg] e X.env = pure none := by rfl)
    (h1 : (assignEach [tg] X.env).map (·.2) = [assign tg X.env] := by rfl) : DS X Ts (.Assign [tg] e pos) (sBind b f) := PS.imp (ps_asg he hg hs hw h1) fun D σ H ⟨He, O₀, Vz, en, r, rp, hf, k⟩ => by
  unfold sBind at hf
  obtain ⟨d, h1, h2⟩ := Option.bind_eq_some_iff.mp hf
  obtain ⟨e1, h3, rfl⟩ := Option.map_eq_some_iff.mp h2
  obtain ⟨O, a1, a2, rp, xv⟩ := rp
  exact tD.of rp h1 fun v H1 x1 r1 q1 => ⟨He, O, en, d, e1, r1, q1, h3, fun σ' r' _ => k σ' H1 ⟨O, a1, a2, r', xv.trans (hide_mono x1)⟩⟩
theorem s_setLc {i : Nat} {y : Str} {py : Pos} {elt tg iter : Expr} {ifs : List Expr} {scope : Scope} {own : List (Str × Nat)} {spos : Pos} {it : En → Option (List PyData)} {b : PyData → En → Option En} {t : En → Option Bool} (hc : X.calm = true) (hN : X.N.Nodup) (hy : X.N[i]? = some y) (hyl : X.env.scope.names.lookup y = some .local)
    (hsw : swapsWith (.ListComp elt [⟨tg, iter, ifs, 0⟩] scope pos) (some (.Name y py)) spos.line X.env = pure true) (hi : DI X Ts tg iter it) (ok : BlkOk X.N X.env.scope scope own)
    (hg : ∀ s H C cl fp, DG (BX X scope s H C cl fp) Ts tg (own.map (·.2)) b) (ht : ∀ s H C cl fp, PTs (BX X scope s H C cl fp) ifs (tT X.K Ts t))
    (he : ∀ s H C cl fp, DE (BX X scope s H C cl fp) Ts elt f) (hs : ∀ x, foldedSetIterable iter X.env x = pure x := by intro _; rfl) :
    DS X Ts (.Assign [.Name y py] (.ListComp elt [⟨tg, iter, ifs, 0⟩] scope pos) spos) (sSet i (fLc it b t f (own.map (·.2)))) :=
  PS.imp (ps_setLc hc hN hy hyl hsw hi ok (fun s H C cl fp => hg s H C cl fp) (fun s H C cl fp => ht s H C cl fp) (fun s H C cl fp => he s H C cl fp) hs) fun D σ H h => by
    have h2 : tD X.K Ts (fLc it b t f (own.map (·.2))) σ H (fun x H1 => gName i x σ H1 D.nx) := set_w D σ H h
    exact lc_w (new_w h2 fLc_list)
theorem RepS.setO {K : PySem.W.Frag} {He : Hp} {O₀ O : List Addr} {σ : St} {H H1 : Hp} {en : En} {i : Nat} {a : Addr} {vs : List V} {ds : List PyData} (a1 : ∀ b ∈ O₀, b ∈ O) (a2 : ∀ b ∈ O₀, He b ≠ none) (rp : Rep K Ts He O σ H en) (hi : i < en.length) (x : Xt H H1) (t : Tb Ts H1) (na : H a = none) (ha : H1 a = some (.lst vs)) (q : DpAll K (hide H1 (a :: O)) vs ds) {Vz : Hp} (xv : Xt Vz (hide H O)) :
    RepS K Ts He O₀ Vz (σ.set i (some (.ref a))) H1 (en.set i (.own ds)) := by
  have r1 := rp.go x t
  have hs : i < σ.length := by rw [← rp.len]; exact hi
  have nA : a ∉ O := rp.free na
  have hHe : He a = none := rp.ext.there na
  have back : Xt (hide H O) (hide H1 (a :: O)) := fun b o e => by
    obtain ⟨e1, e2⟩ := hide_some e
    have nb : b ∉ a :: O := fun z => by
      rcases List.mem_cons.mp z with z | z
      · rw [z, na] at e2; cases e2
      · exact e1 z
    rcases x b o e2 with q | ⟨ps, qs, e3, q⟩
    · exact .inl (hide_of nb q)
    · exact .inr ⟨ps, qs, e3, hide_of nb q⟩
  refine ⟨a :: O, fun b hb => List.mem_cons_of_mem _ (a1 b hb), a2, ⟨by simp [rp.len], fun j d h => ?_, fun j es h => ?_, fun j k es es' aa h1 h2 h3 h4 => ?_, fun b hb => ?_, r1.ext, t⟩, xv.trans back⟩
  · have hj : i ≠ j := fun z => by subst z; rw [List.getElem?_set_self hi] at h; cases h
    rw [List.getElem?_set_ne hj] at h
    obtain ⟨v, q1, q2⟩ := rp.dat j d h
    exact ⟨v, by rw [List.getElem?_set_ne hj]; exact q1, Dp.mono back q2⟩
  · by_cases hj : i = j
    · subst hj
      rw [List.getElem?_set_self hi] at h
      cases h
      exact ⟨a, vs, by rw [List.getElem?_set_self hs], List.mem_cons_self, hHe, ha, q⟩
    · rw [List.getElem?_set_ne hj] at h
      obtain ⟨a', vs', q1, q2, q3, q4, q5⟩ := rp.own j es h
      exact ⟨a', vs', by rw [List.getElem?_set_ne hj]; exact q1, List.mem_cons_of_mem _ q2, q3, x.get a' _ q4 (fun _ z => nomatch z), DpAll.mono back q5⟩
  · have old : ∀ (j : Nat) (es : List PyData) (aa : Addr), i ≠ j → (en.set i (Slot.own ds))[j]? = some (Slot.own es) → (σ.set i (some (V.ref a)))[j]? = some (some (V.ref aa)) → aa ≠ a := fun j es aa hj h1 h2 z => by
      rw [List.getElem?_set_ne hj] at h1 h2
      obtain ⟨a', vs', q1, q2, _⟩ := rp.own j es h1
      rw [h2] at q1
      cases q1
      exact nA (z ▸ q2)
    by_cases hj : i = j
    · by_cases hk : i = k
      · exact hj.symm.trans hk
      · subst hj
        rw [List.getElem?_set_self hs] at h3
        cases h3
        exact absurd rfl (old k es' _ hk h2 h4)
    · by_cases hk : i = k
      · subst hk
        rw [List.getElem?_set_self hs] at h4
        cases h4
        exact absurd rfl (old j es _ hj h1 h3)
      · rw [List.getElem?_set_ne hj] at h1 h3
        rw [List.getElem?_set_ne hk] at h2 h4
        exact rp.inj j k es es' aa h1 h2 h3 h4
  · rcases List.mem_cons.mp hb with z | z
    · rw [z, ha]
      exact ⟨by simp, fun ps z => nomatch z⟩
    · exact r1.occ b z
theorem own_w {K : PySem.W.Frag} {i : Nat} : ∀ D σ H, tS K Ts (sOwn i f) D σ H → tNew K Ts f σ H (fun x H1 => gName i x σ H1 D.nx) := fun D σ H ⟨He, O₀, Vz, en, r, rp, hf, k⟩ => by
  unfold sOwn at hf
  split at hf
  · rename_i ds h1
    split at hf
    · rename_i hi
      cases hf
      obtain ⟨O, a1, a2, rp, xv⟩ := rp
      exact ⟨He, O, en, ds, rp, h1, fun a vs H' x t na ha q => k _ H' (RepS.setO a1 a2 rp hi x t na ha q xv)⟩
    · cases hf
  · cases hf
theorem s_own {i : Nat} {x : Str} {pos' : Pos} (hN : X.N.Nodup) (hi : X.N[i]? = some x) (hx : Loc X.env.scope x) (he : DNew X Ts e f) (hs : swapsWith e (some (.Name x pos')) pos.line X.env = pure false := by rfl) (hf : X.fn x = true ∨ X.env.scope.names.lookup x = some .local := by first | exact .inl rfl | exact .inr rfl | assumption) :
    DS X Ts (.Assign [.Name x pos'] e pos) (sOwn i f) := PS.imp (ps_set hN hi hx he hs hf) fun D σ H h => own_w D σ H h
theorem n_lst {es : List Expr} {gs : En → Option (List PyData)} (h : DA X Ts es gs) : DNew X Ts (.List es pos) (fLst gs) := PE.imp (pe_lst h) fun σ H Q ⟨He, O, en, ds, rp, hf, kk⟩ => by
  obtain ⟨ds', h1, hl, h2⟩ := fLst_some hf
  cases h2
  exact tDs.of rp h1 fun vs H1 x1 r1 q1 => ⟨by rw [DpAll.len q1]; exact small64 hl, fun p np => kk p vs _ (x1.trans (Xt.upd np)) (r1.tabs.new np) (x1.there np) upd_same (DpAll.mono (fun b o e => by
    obtain ⟨e1, e2⟩ := hide_some e
    have hne := ne_of_none e2 np
    exact .inl (hide_of (fun z => (List.mem_cons.mp z).elim hne e1) (by rw [upd_ne hne]; exact e2))) q1)⟩
theorem s_app {i : Nat} {x : Str} {px ap : Pos} (hN : X.N[i]? = some x := by rfl) (hv : Vis X.env.scope x := by first | exact Or.inl rfl | exact Or.inr (Or.inl rfl) | exact Or.inr (Or.inr rfl)) (ha : DE X Ts e f) (hd : (x == ("__debug__" : Str)) = false := by decide) (hcd : (x == ("__classdict__" : Str)) = false := by decide) {cpos : Pos}
    (hbase : attributeBase (.Name x px) "append" X.env (eval (.Name x px) X.env) = eval (.Name x px) X.env := by rfl)
    (hfew : ((backTo cpos (starEach [e] X.env)).all (fun x => !x.1) && (backToKw cpos (keywordEach [] X.env)).all (fun x => x.1.isSome) && decide ([e].length + ([] : List Keyword).length + (if ([] : List Keyword).isEmpty then 0 else 1) < 30)) = true := by rfl)
    (hline : (ap.endLine == cpos.line) = true := by rfl) (hs : starEach [e] X.env = (false, eval e X.env) :: starEach [] X.env := by rfl) (hplain : (backTo cpos (starEach [] X.env)).any (·.1) = false := by rfl)
    (hsw : swapsWith (.Call (.Attribute (.Name x px) "append" ap) [e] [] cpos) none pos.line X.env = pure false := by rfl) :
    DS X Ts (.Expr (.Call (.Attribute (.Name x px) "append" ap) [e] [] cpos) pos) (sApp i f) :=
  PS.imp (ps_expr (pe_bm (t := tCons (tD X.K Ts f) tNil) PySem.F.plainAttrs_list PySem.F.slot_list_append PySem.F.type_list_append mt_append (pe_var hN hv hd hcd) (pa_cons ha pa_nil hs) hbase hfew hline hs hplain) hsw) fun D σ H ⟨He, O₀, Vz, en, r, rp, hf, k⟩ => by
    unfold sApp at hf
    obtain ⟨d, h1, h2⟩ := Option.bind_eq_some_iff.mp hf
    split at h2
    · rename_i ds hd
      split at h2
      · rename_i hl
        cases h2
        obtain ⟨O, a1, a2, rp, xv⟩ := rp
        obtain ⟨a, vs, p1, p2, p3, p4, p5⟩ := rp.own i ds hd
        have hi : i < en.length := (List.getElem?_eq_some_iff.mp hd).1
        refine ⟨.ref a, p1, .inl ⟨rfl, _, .inl (.inl p4)⟩, tD.of rp h1 fun v H1 x1 r1 q1 => ?_⟩
        have p4' := x1.get a _ p4 (fun _ z => nomatch z)
        have p5' := DpAll.mono (hide_mono (O := O) x1) p5
        refine ⟨a, vs, v, rfl, rfl, p4', by rw [DpAll.len p5, sizeLine_eq]; omega, k σ _ ⟨O, a1, a2, ?_, xv.trans ((hide_mono x1).trans (hide_upd p2))⟩⟩
        have hu : Xt (hide H1 O) (hide (upd H1 a (.lst (vs ++ [v]))) O) := hide_upd p2
        refine ⟨by simp [rp.len], fun j d' h => ?_, fun j es h => ?_, fun j kk es es' aa h1 h2 h3 h4 => ?_, fun b hb => ?_, fun b o e => ?_, r1.tabs.upd fun u z => by rw [p4'] at z; cases z; exact lst_noc⟩
        · have hj : i ≠ j := fun z => by subst z; rw [List.getElem?_set_self hi] at h; cases h
          rw [List.getElem?_set_ne hj] at h
          obtain ⟨u, q1, q2⟩ := r1.dat j d' h
          exact ⟨u, q1, Dp.mono hu q2⟩
        · by_cases hj : i = j
          · subst hj
            rw [List.getElem?_set_self hi] at h
            cases h
            exact ⟨a, vs ++ [v], p1, p2, p3, upd_same, DpAll.app (DpAll.mono hu p5') (.cons (Dp.mono hu q1) .nil)⟩
          · rw [List.getElem?_set_ne hj] at h
            obtain ⟨a', vs', q1, q2, q3, q4, q5⟩ := r1.own j es h
            have hne : a' ≠ a := fun z => hj (by subst z; exact rp.inj i j ds es a' hd h p1 q1)
            exact ⟨a', vs', q1, q2, q3, by rw [upd_ne hne]; exact q4, DpAll.mono hu q5⟩
        · have toOwn : ∀ (j : Nat) (es : List PyData), (en.set i (Slot.own (ds ++ [d])))[j]? = some (Slot.own es) → ∃ es', en[j]? = some (Slot.own es') := fun j es h => by
            by_cases hj : i = j
            · subst hj; exact ⟨ds, hd⟩
            · rw [List.getElem?_set_ne hj] at h; exact ⟨es, h⟩
          obtain ⟨e1, g1⟩ := toOwn j es h1
          obtain ⟨e2, g2⟩ := toOwn kk es' h2
          exact rp.inj j kk e1 e2 aa g1 g2 h3 h4
        · by_cases z : b = a
          · rw [z, upd_same]
            exact ⟨by simp, fun ps z => nomatch z⟩
          · rw [upd_ne z]
            exact r1.occ b hb
        · have hne : b ≠ a := fun z => by rw [z, p3] at e; cases e
          rw [upd_ne hne]
          exact r1.ext b o e
      · cases h2
    · cases h2
theorem s_if {c : Expr} {a b : List Stmt} {t : En → Option Bool} (hc : DT X Ts c t) (ha : DSs X Ts a F) (hb : DSs X Ts b G) : DS X Ts (.If c a b pos) (sIf t F G) := PS.imp (ps_if hc ha hb) fun D σ H ⟨He, O₀, Vz, en, r, rp, hf, k⟩ => by
  unfold sIf at hf
  obtain ⟨O, a1, a2, rp, xv⟩ := rp
  split at hf
  · rename_i h
    exact tT.of rp h fun H1 x1 r1 => iteT ⟨He, O₀, Vz, en, r, ⟨O, a1, a2, r1, xv.trans (hide_mono x1)⟩, hf, k⟩
  · rename_i h
    exact tT.of rp h fun H1 x1 r1 => iteF ⟨He, O₀, Vz, en, r, ⟨O, a1, a2, r1, xv.trans (hide_mono x1)⟩, hf, k⟩
  · cases hf
theorem s_ret (he : DE X Ts e f) : DS X Ts (.Return (some e) pos) (sRet f) := PS.imp (ps_ret he) fun D σ H ⟨He, O₀, Vz, en, r, rp, hf, k⟩ => by
  unfold sRet at hf
  obtain ⟨d, h1, rfl⟩ := Option.map_eq_some_iff.mp hf
  obtain ⟨O, a1, a2, rp, xv⟩ := rp
  exact tD.of rp h1 fun v H1 x1 r1 q1 => k v H1 r1.ext r1.tabs (Dp.mono (hide_sub a1) q1)
theorem s_expr (he : DE X Ts e f) (hs : swapsWith e none pos.line X.env = pure false := by rfl) : DS X Ts (.Expr e pos) (sExpr f) := PS.imp (ps_expr he hs) fun D σ H ⟨He, O₀, Vz, en, r, rp, hf, k⟩ => by
  unfold sExpr at hf
  obtain ⟨d, h1, rfl⟩ := Option.map_eq_some_iff.mp hf
  obtain ⟨O, a1, a2, rp, xv⟩ := rp
  exact tD.of rp h1 fun v H1 x1 r1 q1 => k σ H1 ⟨O, a1, a2, r1, xv.trans (hide_mono x1)⟩
theorem s_never : DS X Ts st sNever := PS.imp ps_never fun D σ H ⟨He, O₀, Vz, en, r, rp, hf, k⟩ => by cases hf
theorem s_par {i j : Nat} {x y : Str} {a b : Expr} {px py pt : Pos} {kt k2 pt2} (hc : X.calm = true) (hN : X.N.Nodup) (hi : X.N[i]? = some x) (hj : X.N[j]? = some y) (hij : i ≠ j)
    (hx : X.env.scope.names.lookup x = some .local) (hy : X.env.scope.names.lookup y = some .local) (ha : DE X Ts a f) (hb : DE X Ts b g) (hw : swappedStores [.Tuple [.Name x px, .Name y py] kt pt] (.Tuple [a, b] k2 pt2) X.env = pure (some [x, y]))
    (hs1 : starEach [a, b] X.env = (false, eval a X.env) :: starEach [b] X.env := by rfl) (hs2 : starEach [b] X.env = (false, eval b X.env) :: starEach [] X.env := by rfl)
    (hs : swapsWithSole [.Tuple [.Name x px, .Name y py] kt pt] (.Tuple [a, b] k2 pt2) pos.line X.env = pure false := by rfl) : DS X Ts (.Assign [.Tuple [.Name x px, .Name y py] kt pt] (.Tuple [a, b] k2 pt2) pos) (sPar i j f g) :=
  PS.imp (ps_par hc hN hi hj hij hx hy (pa_cons ha (pa_cons hb pa_nil hs2) hs1) hw hs) fun D σ H ⟨He, O₀, Vz, en, r, rp, hf, k⟩ => by
    unfold sPar at hf
    obtain ⟨d1, h1, hf1⟩ := Option.bind_eq_some_iff.mp hf
    obtain ⟨d2, h2, hf2⟩ := Option.bind_eq_some_iff.mp hf1
    obtain ⟨e1, h3, hf3⟩ := Option.bind_eq_some_iff.mp hf2
    obtain ⟨e2, h4, rfl⟩ := Option.map_eq_some_iff.mp hf3
    obtain ⟨O, a1, a2, rp, xv⟩ := rp
    refine tD.of rp h1 fun v H1 x1 r1 q1 => tD.of r1 h2 fun w H2 x2 r2 q2 => ⟨v, w, rfl, k _ H2 ?_⟩
    unfold bName at h3 h4
    split at h3
    · rename_i hi'
      cases h3
      split at h4
      · rename_i hj'
        cases h4
        exact ⟨O, a1, a2, (r2.setD hi' (Dp.mono (hide_mono x2) q1)).setD hj' q2, xv.trans (hide_mono (x1.trans x2))⟩
      · cases h4
    · cases h3
theorem for_w {K : PySem.W.Frag} {vs : List Nat} {it : En → Option (List PyData)} {b : PyData → En → Option En} : ∀ D σ H, tS K Ts (sFor it b F) D σ H → tFor (tI K Ts it) (gD K Ts vs b) (tS K Ts F) D σ H := fun D σ H ⟨He, O₀, Vz, en, r, rp, hf, k⟩ => by
  unfold sFor at hf
  obtain ⟨ds, h1, h2⟩ := Option.bind_eq_some_iff.mp hf
  clear hf
  obtain ⟨O, a1, a2, rp, xv⟩ := rp
  refine ⟨He, O, en, ds, rp, h1, fun J H1 x1 t1 gv => ?_⟩
  have xv1 : Xt Vz (hide H1 O) := xv.trans (hide_mono x1)
  refine ⟨fun i m σ2 H2 => m = ds.length - i ∧ i ≤ ds.length ∧ ∃ en2, RepS K Ts He O₀ (hide H1 O) σ2 H2 en2 ∧ forGo b F (ds.drop i) en2 = some r,
    ⟨ds.length, by simp, Nat.zero_le _, en, ⟨O, a1, a2, rp.go x1 t1, Xt.refl _⟩, by simpa using h2⟩, fun i m σ2 H2 hW => ?_⟩
  obtain ⟨rfl, hi, en2, ⟨O2, b1, b2, r2, x12⟩, hgo⟩ := hW
  obtain ⟨g1, g2, g3⟩ := gv O2 H2 x12 (x12.trans hide_out) r2.occ
  have weak : ∀ {σ' H' en'}, RepS K Ts He O₀ (hide H1 O) σ' H' en' → RepS K Ts He O₀ Vz σ' H' en' := fun ⟨O', c1, c2, c3, c4⟩ => ⟨O', c1, c2, c3, xv1.trans c4⟩
  by_cases hlt : i < ds.length
  · rw [List.drop_eq_getElem_cons hlt] at hgo
    unfold forGo at hgo
    obtain ⟨e1, hb1, hgo1⟩ := Option.bind_eq_some_iff.mp hgo
    clear hgo
    refine .inr ⟨g1 i hlt, fun σ' H' => ∃ en2, RepS K Ts He O₀ (hide H1 O) σ' H' en2 ∧ forGo b F (ds.drop (i + 1)) en2 = some r, fun σ' H' c => ⟨ds.length - (i + 1), by omega, rfl, hlt, c⟩, fun x H3 hy => ?_⟩
    obtain ⟨d, hd, x23, t23, qd⟩ := g3 i x H3 hlt hy
    have r3 := r2.go x23 (t23 r2.tabs)
    have hd' : ds[i] = d := by rw [List.getElem?_eq_getElem hlt] at hd; exact Option.some.inj hd
    rw [hd'] at hb1
    refine ⟨He, O2, en2, d, e1, r3, qd, hb1, fun σ4 r4 _ => ?_⟩
    have rs4 : RepS K Ts He O₀ (hide H1 O) σ4 H3 e1 := ⟨O2, b1, b2, r4, x12.trans (hide_mono x23)⟩
    cases hF : F e1 with
    | none => rw [hF] at hgo1; cases hgo1
    | some fl =>
      rw [hF] at hgo1
      refine ⟨He, O₀, hide H1 O, e1, fl, rs4, hF, ?_⟩
      cases fl with
      | nx e2 => exact fun σ' H' r' => ⟨e2, r', hgo1⟩
      | ct e2 => exact fun σ' H' r' => ⟨e2, r', hgo1⟩
      | bk e2 =>
        cases hgo1
        exact fun σ' H' r' => k σ' H' (weak r')
      | rt v =>
        cases hgo1
        exact k
  · have hie : i = ds.length := by omega
    subst hie
    rw [List.drop_of_length_le (Nat.le_refl _)] at hgo
    cases hgo
    exact .inl ⟨g2, k σ2 H2 ⟨O2, b1, b2, r2, xv1.trans x12⟩⟩
theorem s_for {tg iter : Expr} {body : List Stmt} {vs : List Nat} {it : En → Option (List PyData)} {b : PyData → En → Option En} (hp : PassesOwn (model X.prog X.w) X.A X.env X.xe) (hc : X.calm = true) (hi : DI X Ts tg iter it) (hg : DG X Ts tg vs b) (hb : DSs X Ts body F)
    (hs : ∀ x, foldedSetIterable iter X.env x = pure x := by intro _; rfl) : DS X Ts (.For tg iter body [] pos) (sFor it b F) := PS.imp (ps_for hp hc hi hg hb hs) for_w
theorem while_w {K : PySem.W.Frag} {n : En → Nat} {t : En → Option Bool} : ∀ D σ H, tS K Ts (sWhile n t F) D σ H → tWhile (tT K Ts t) (tS K Ts F) D σ H := fun D σ H ⟨He, O₀, Vz, en, r, rp, hf, k⟩ => by
  unfold sWhile at hf
  refine ⟨fun m σ2 H2 => ∃ en2, RepS K Ts He O₀ Vz σ2 H2 en2 ∧ whGo t F m en2 = some r, ⟨n en, en, rp, hf⟩, fun m σ2 H2 ⟨en2, rs, hgo⟩ => ?_⟩
  cases m with
  | zero => cases hgo
  | succ m =>
    unfold whGo at hgo
    obtain ⟨O, a1, a2, rp2, xv⟩ := rs
    cases ht : t en2 with
    | none => rw [ht] at hgo; cases hgo
    | some c =>
      rw [ht] at hgo
      refine tT.of rp2 ht fun H3 x23 r3 => ?_
      have rs3 : RepS K Ts He O₀ Vz σ2 H3 en2 := ⟨O, a1, a2, r3, xv.trans (hide_mono x23)⟩
      cases c with
      | false =>
        cases hgo
        exact iteF (k σ2 H3 rs3)
      | true =>
        refine iteT ⟨fun σ' H' => ∃ en2, RepS K Ts He O₀ Vz σ' H' en2 ∧ whGo t F m en2 = some r, fun σ' H' c => ⟨m, Nat.lt_succ_self m, c⟩, ?_⟩
        cases hF : F en2 with
        | none => simp only [hF] at hgo; cases hgo
        | some fl =>
          simp only [hF] at hgo
          refine ⟨He, O₀, Vz, en2, fl, rs3, hF, ?_⟩
          cases fl with
          | nx e2 => exact fun σ' H' r' => ⟨e2, r', hgo⟩
          | ct e2 => exact fun σ' H' r' => ⟨e2, r', hgo⟩
          | bk e2 =>
            cases hgo
            exact k
          | rt v =>
            cases hgo
            exact k
theorem s_while {c : Expr} {body : List Stmt} {t : En → Option Bool} (n : En → Nat) (hp : PassesOwn (model X.prog X.w) X.A X.env X.xe) (hc : DT X Ts c t) (hb : DSs X Ts body F) : DS X Ts (.While c body [] pos) (sWhile n t F) := PS.imp (ps_while hp hc hb) while_w
end
def runD (n : Nat) (F : En → Option Fl) (ds : List PyData) : Option PyData := match F (ds.map .dat ++ List.replicate (n - ds.length) .no) with
  | some (.rt d) => some d
  | some (.nx _) => some .none
  | _ => none
structure DF (K : PySem.W.Frag) (x qual : Str) (st : Stmt) (f : Addr) (fd : FuncData) (cdv : Value) : Prop where
  ex : ∃ (oc : Value) (od : Option Addr) (dV kV doc pm : Value) (an : Option Addr) (ct : Value) (osl : Array (Option Value)),
    fd = PySem.W.fnOf x qual (defArgs st) (defBody st) (defScope st) dV kV doc pm an cdv ct ∧ K.lookup f = some ⟨oc, od, .func fd, osl⟩ ∧ PySem.W.codeIn K cdv qual = true
  kp : PySem.W.keepIn K (.ref f) = true
section
variable {P : Program} {w : World} {K : PySem.W.Frag} {mg : Str → Option Value} {base : Heap} {Ts : TsT}
theorem DF.ok {x qual : Str} {st : Stmt} {f : Addr} {fd : FuncData} {cdv : Value} {N ps : List Str} {k : Nat} {F : En → Option Fl} (D : DF K x qual st f fd cdv) (S : FnScope N ps (defScope st))
    (hbody : ∀ (A : Around) (outer : List Env) (s : Shared) (H : Hp) (E : XK), Room k (A.deeper (envOfC qual (defScope st) s.heap.objs.size f cdv)) → DSs (cxOf CX0 P w K mg base N qual (defScope st) f cdv A outer s H E).nox Ts (defBody st) F) :
    FnOk P w K mg base CX0 (k + 1) f fd ps (spD K Ts ps.length (runD N.length F)) := by
  obtain ⟨oc, od, dV, kV, doc, pm, an, ct, osl, rfl, lk, hcd⟩ := D.ex
  refine fn_of lk hcd S (fun vs H Q E h => h.1) fun A outer s H vs Q E hr hsp => ?_
  refine ⟨_, (hbody A outer s H E hr).nox, ?_⟩
  obtain ⟨hl, O, ds, d, q, t, occ, hF, kk⟩ := hsp
  unfold runD at hF
  have hlen := DpAll.len q
  have rp : Rep K Ts H O (L2.start N vs) H (ds.map .dat ++ List.replicate (N.length - ds.length) .no) := by
    refine ⟨by simp [L2.start, hlen], fun i d h => ?_, fun i es h => ?_, fun i j es es' a h => ?_, occ, Xt.refl H, t⟩
    · by_cases hi : i < ds.length
      · rw [List.getElem?_append_left (by simpa using hi), List.getElem?_map] at h
        obtain ⟨d', h1, h2⟩ := Option.map_eq_some_iff.mp h
        cases h2
        obtain ⟨v, h3, h4⟩ := DpAll.get' q h1
        refine ⟨v, ?_, h4⟩
        unfold L2.start
        rw [List.getElem?_append_left (by simp; omega), List.getElem?_map, h3]
        rfl
      · rw [List.getElem?_append_right (by simpa using hi), List.getElem?_replicate] at h
        split at h <;> cases h
    · by_cases hi : i < ds.length
      · rw [List.getElem?_append_left (by simpa using hi), List.getElem?_map] at h
        obtain ⟨d', h1, h2⟩ := Option.map_eq_some_iff.mp h
        cases h2
      · rw [List.getElem?_append_right (by simpa using hi), List.getElem?_replicate] at h
        split at h <;> cases h
    · by_cases hi : i < ds.length
      · rw [List.getElem?_append_left (by simpa using hi), List.getElem?_map] at h
        obtain ⟨d', h1, h2⟩ := Option.map_eq_some_iff.mp h
        cases h2
      · rw [List.getElem?_append_right (by simpa using hi), List.getElem?_replicate] at h
        split at h <;> cases h
  have rs : RepS K Ts H O (fun _ => none) (L2.start N vs) H (ds.map .dat ++ List.replicate (N.length - ds.length) .no) := ⟨O, fun b hb => hb, fun b hb => (occ b hb).1, rp, fun b o e => nomatch e⟩
  split at hF
  · rename_i d' hf
    cases hF
    exact ⟨H, O, _, _, _, rs, hf, fun v H' x t q => kk v H' x t q⟩
  · rename_i e' hf
    cases hF
    refine ⟨H, O, _, _, _, rs, hf, fun σ' H' r' => ?_⟩
    obtain ⟨O', a1, a2, r1, _⟩ := r'
    exact kk .non H' r1.ext r1.tabs .non
  · cases hF
theorem df_mk {x qual : Str} {st : Stmt} {f : Addr} {oc : Value} {od an : Option Addr} {osl : Array (Option Value)} {dV kV doc pm cdv ct : Value} (l : K.lookup f = some ⟨oc, od, .func (PySem.W.fnOf x qual (defArgs st) (defBody st) (defScope st) dV kV doc pm an cdv ct), osl⟩)
    (c : PySem.W.codeIn K cdv qual = true) (k : PySem.W.keepIn K (.ref f) = true) : DF K x qual st f (PySem.W.fnOf x qual (defArgs st) (defBody st) (defScope st) dV kV doc pm an cdv ct) cdv := ⟨⟨oc, od, dV, kV, doc, pm, an, ct, osl, rfl, l, c⟩, k⟩
end
section
variable {X : Cx} {Ts : TsT} {pos p : Pos} {tg e e2 : Expr} {f g : En → Option PyData}
def gPlus : PyData → PyData → Option PyData
  | .int i, .int j => some (.int (i + j))
  | .tuple xs, .tuple ys => if xs.length + ys.length ≤ 1000000 then some (.tuple (xs ++ ys)) else none
  | .list xs, .list ys => if xs.length + ys.length ≤ 1000000 then some (.list (xs ++ ys)) else none
  | _, _ => none
def fPlus := f2 gPlus
def rCatL (K : PySem.W.Frag) : R2 := fun x y H Q => ∃ a b xs ys, x = .ref a ∧ y = .ref b ∧ SqL K H a xs ∧ SqL K H b ys ∧ xs.length + ys.length ≤ sizeLine ∧ ∀ p, H p = none → Q (.ref p) (upd H p (.lst (xs ++ ys)))
theorem op_catL : OpR X (binaryOp .Add) (rCatL X.K) := by
  intro pins s σ H x y v u Q I rx ry h
  obtain ⟨a, b, xs, ys, rfl, rfl, ha, hb, hz, q⟩ := h
  cases rx
  cases ry
  obtain ⟨is1, r1, ⟨⟨c1, d1, t1, l1⟩, n1, g1, gc1, _, gd1⟩, _⟩ := I.list ha
  obtain ⟨is2, r2, ⟨⟨c2, d2, t2, l2⟩, n2, g2, gc2, _, gd2⟩, _⟩ := I.list hb
  simp only at gc1 gd1 gc2 gd2
  subst gc1 gd1 gc2 gd2
  have len1 := r1.length
  have len2 := r2.length
  have small : is1.toArray.size + is2.toArray.size ≤ sizeLine := by
    rw [List.size_toArray, List.size_toArray]
    omega
  refine concat_meets ⟨_, g1, rfl⟩ ⟨_, g2, rfl⟩ noFill_list_add seq_list_add PySem.F.slot_list_add PySem.F.entry_list_add (PySem.F.args_list_add_2 _ _)
    (list_addW a b is1.toArray is2.toArray n1 n2 d1 d2 l1 l2 small) ⟨g1, g2, ?_⟩
  have joined : is1.toArray ++ is2.toArray = (is1 ++ is2).toArray := by simp
  rw [joined]
  exact ⟨.ref _, _, I.lnew (t' := s.toks) (r1.append r2) (by rw [List.length_append]; omega), rfl, q _ I.fresh⟩
theorem op_plus : OpR X (binaryOp .Add) (fun x y H Q => rI0 (fun i j => .int (i + j)) x y H Q ∨ rCatA X.K x y H Q ∨ rCatL X.K x y H Q) := by
  intro pins s σ H x y v u Q I rx ry h
  rcases h with h | h | h
  · exact op_add pins s σ H x y v u Q I rx ry h
  · exact op_catA pins s σ H x y v u Q I rx ry h
  · exact op_catL pins s σ H x y v u Q I rx ry h
theorem d_plus (ha : DE X Ts e f) (hb : DE X Ts e2 g) : DE X Ts (.BinOp e .Add e2 pos) (fPlus f g) := PE.imp (pe_op op_plus ha hb) fun σ H Q ⟨He, O, en, d, rp, hf, kk⟩ => by
  obtain ⟨x, y, h1, h2, h3⟩ := f2_some hf
  refine tD.of rp h1 fun v H1 x1 r1 q1 => tD.of r1 h2 fun w H2 x2 r2 q2 => ?_
  have q1 := Dp.mono (hide_mono x2) q1
  cases x <;> cases y <;> simp only [gPlus] at h3 <;> try cases h3
  · cases q1
    cases q2
    exact .inl ⟨_, _, rfl, rfl, kk _ H2 (x1.trans x2) r2.tabs (.int _)⟩
  · split at h3
    · rename_i hl
      cases h3
      cases q1 with
      | lst s1 a1 =>
        cases q2 with
        | lst s2 a2 =>
          have l1 := DpAll.len a1
          have l2 := DpAll.len a2
          exact .inr (.inr ⟨_, _, _, _, rfl, rfl, sqL_mono (fun o n e => (hide_some e).2) s1, sqL_mono (fun o n e => (hide_some e).2) s2, by rw [l1, l2, sizeLine_eq]; omega, fun p np => kk _ _ (x1.trans (x2.trans (Xt.upd np))) (r2.tabs.new np) (lst_new np (new_out r2.occ np) (DpAll.app a1 a2))⟩)
    · cases h3
  · split at h3
    · rename_i hl
      cases h3
      cases q1 with
      | tup s1 a1 =>
        cases q2 with
        | tup s2 a2 =>
          have l1 := DpAll.len a1
          have l2 := DpAll.len a2
          refine .inr (.inl ⟨_, _, _, _, rfl, rfl, sqT_mono (fun o n e => (hide_some e).2) s1, sqT_mono (fun o n e => (hide_some e).2) s2, by rw [l1, l2, sizeLine_eq]; omega, fun e0 => ?_, fun _ e0 => ?_, fun _ _ p np => kk _ _ (x1.trans (x2.trans (Xt.upd np))) (r2.tabs.new np) (tup_new np (new_out r2.occ np) (DpAll.app a1 a2))⟩)
          · subst e0
            cases a1
            exact kk _ H2 (x1.trans x2) r2.tabs (.tup s2 a2)
          · subst e0
            cases a2
            rw [List.append_nil] at kk
            exact kk _ H2 (x1.trans x2) r2.tabs (.tup s1 a1)
    · cases h3
def iSq (K : PySem.W.Frag) (tl : TE) : TI := fun σ H R => tl σ H fun x H1 => (∃ a, x = .ref a ∧ (∃ xs, SqL K H1 a xs) ∧ R (Itl K a) H1) ∨ (∃ a, x = .ref a ∧ (∃ xs, SqT K H1 a xs) ∧ R (Itt K a) H1)
theorem pi_sq {l : Expr} {tl : TE} (hl : PE X l tl) : PI X tg l (iSq X.K tl) := by
  refine ⟨fun pins s σ H R I h => ?_⟩
  refine thn (hl.run pins s σ H _ I h) fun v s1 ⟨x, H1, I1, r1, q1⟩ => ?_
  rcases q1 with ⟨a, e, ⟨xs, hq⟩, q⟩ | ⟨a, e, ⟨xs, hq⟩, q⟩
  · subst e
    cases r1
    obtain ⟨its, rv, p, hz⟩ := I1.list hq
    refine wpAny_pyIter_list p.isList ?_
    refine ⟨s1.heap.objs.size, [s1.heap.objs.size], _, _, H1, rfl, I1.kept (t' := s1.toks) fun b o e => Heap.get?_push_of_some _ e, turn_list a _, ⟨_, Heap.get?_push_size _ rfl, rfl, rfl⟩, fun b hb => ?_, q⟩
    have e : b = s1.heap.objs.size := by simpa using hb
    subst e
    exact I1.fpOk (Nat.le_refl _) (I1.hok.fresh (Nat.le_refl _))
  · subst e
    cases r1
    obtain ⟨its, rv, p, hz⟩ := I1.tuple hq
    refine wpAny_pyIter_tuple (show s1.heap.IsTuple a its.toArray from p) ?_
    refine ⟨s1.heap.objs.size, [s1.heap.objs.size], _, _, H1, rfl, I1.kept (t' := s1.toks) fun b o e => Heap.get?_push_of_some _ e, turn_tuple a _, ⟨_, Heap.get?_push_size _ rfl, rfl, rfl⟩, fun b hb => ?_, q⟩
    have e : b = s1.heap.objs.size := by simpa using hb
    subst e
    exact I1.fpOk (Nat.le_refl _) (I1.hok.fresh (Nat.le_refl _))
def iSeq (f : En → Option PyData) : En → Option (List PyData) := fun en => (f en).bind items
theorem gives_list {K : PySem.W.Frag} {H1 : Hp} {O : List Addr} {l : Addr} {vs : List V} {ds : List PyData} (s : SqL K (hide H1 O) l vs) (a : DpAll K (hide H1 O) vs ds) : Gives K Ts (Itl K l) ds H1 O := fun O' H2 h1 h2 occ => by
  have s2 : SqL K H2 l vs := sqL_mono (fun o n e => h2.get _ o e n) s
  have a2 := DpAll.mono h1 a
  have hl := DpAll.len a
  refine ⟨fun i hi => ⟨vs, vs[i]'(by omega), s2, by simp [hl, hi]⟩, ⟨vs, s2, by omega⟩, fun i x H3 hi hy => ?_⟩
  obtain ⟨rfl, hx⟩ := hy
  obtain ⟨d, hd1, hd2⟩ := DpAll.get a2 (hx vs s2)
  exact ⟨d, hd1, Xt.refl _, id, hd2⟩
theorem gives_tup {K : PySem.W.Frag} {H1 : Hp} {O : List Addr} {l : Addr} {vs : List V} {ds : List PyData} (s : SqT K (hide H1 O) l vs) (a : DpAll K (hide H1 O) vs ds) : Gives K Ts (Itt K l) ds H1 O := fun O' H2 h1 h2 occ => by
  have s2 : SqT K H2 l vs := sqT_mono (fun o n e => h2.get _ o e n) s
  have a2 := DpAll.mono h1 a
  have hl := DpAll.len a
  refine ⟨fun i hi => ⟨vs, vs[i]'(by omega), s2, by simp [hl, hi]⟩, ⟨vs, s2, by omega⟩, fun i x H3 hi hy => ?_⟩
  obtain ⟨rfl, hx⟩ := hy
  obtain ⟨d, hd1, hd2⟩ := DpAll.get a2 (hx vs s2)
  exact ⟨d, hd1, Xt.refl _, id, hd2⟩
theorem di_seq (h : DE X Ts e f) : DI X Ts tg e (iSeq f) := PI.imp (pi_sq h) fun σ H R ⟨He, O, en, ds, rp, hf, kk⟩ => by
  unfold iSeq at hf
  obtain ⟨d, h1, h2⟩ := Option.bind_eq_some_iff.mp hf
  refine tD.of rp h1 fun v H1 x1 r1 q1 => ?_
  cases d <;> simp only [items] at h2 <;> cases h2
  · cases q1 with
    | lst s a => exact .inl ⟨_, rfl, ⟨_, sqL_mono (fun o n e => (hide_some e).2) s⟩, kk _ H1 x1 r1.tabs (gives_list s a)⟩
  · cases q1 with
    | tup s a => exact .inr ⟨_, rfl, ⟨_, sqT_mono (fun o n e => (hide_some e).2) s⟩, kk _ H1 x1 r1.tabs (gives_tup s a)⟩
theorem d_globE {x : Str} {i : Int} (hg : Gl X x) (hm : ∃ t, X.mg x = some (.int i t)) (hd : (x == ("__debug__" : Str)) = false := by decide) : DE X Ts (.Name x pos) (fLit (.int i)) := by
  obtain ⟨t, hm⟩ := hm
  exact d_glob hg hm hd
end
theorem room_gen {j : Nat} {A : Around} (r : Room (j + 1) A) (env : Env) : Room j (A.in1.in1.deeper env) :=
  ⟨r.hd, by have := r.dp; show A.depth + 1 + 3 * j + 5 < _; omega, by have := r.un; show A.units + 1 + 1 + 3 + 16 * j + 200 < _; omega⟩
structure CF (P : Program) (w : World) (K : PySem.W.Frag) (mg : Str → Option Value) (base : Heap) (Ts : TsT) (k : Nat) (x : Str) (n : Nat) (F : List PyData → Option PyData) : Prop where
  ex : ∃ f fd ps dvs us dd G, mg x = some (.ref f) ∧ PySem.W.keepIn K (.ref f) = true ∧ Binds K fd ps us ∧ Vals dvs us ∧ (∀ H, DpAll K H dvs dd) ∧ FnOk P w K mg base CX0 k f fd ps (spD K Ts (n + dd.length) G) ∧ ∀ xs d, xs.length = n → F xs = some d → G (xs ++ dd) = some d
theorem CF.imp {P : Program} {w : World} {K : PySem.W.Frag} {mg : Str → Option Value} {base : Heap} {Ts : TsT} {k : Nat} {x : Str} {n : Nat} {F G : List PyData → Option PyData} (c : CF P w K mg base Ts k x n F) (h : ∀ ds d, G ds = some d → F ds = some d) : CF P w K mg base Ts k x n G := by
  obtain ⟨f, fd, ps, dvs, us, dd, G', h1, h2, h3, h4, h5, h6, h7⟩ := c.ex
  exact ⟨f, fd, ps, dvs, us, dd, G', h1, h2, h3, h4, h5, h6, fun xs d hl e => h7 xs d hl (h xs d e)⟩
theorem CF.call {X : Cx} {Ts : TsT} {k : Nat} {x : Str} {n : Nat} {F : List PyData → Option PyData} (c : CF X.prog X.w X.K X.mg X.base Ts k x n F) : DFn X Ts k x n F := ⟨c.ex⟩
theorem CF.of {P : Program} {w : World} {K : PySem.W.Frag} {mg : Str → Option Value} {base : Heap} {Ts : TsT} {k : Nat} {x : Str} {n : Nat} {F : List PyData → Option PyData} {f : Addr} {fd : FuncData} {ps : List Str} (h1 : mg x = some (.ref f)) (h2 : PySem.W.keepIn K (.ref f) = true) (h3 : Binds K fd ps []) (h4 : FnOk P w K mg base CX0 k f fd ps (spD K Ts n F)) : CF P w K mg base Ts k x n F :=
  ⟨f, fd, ps, [], [], [], F, h1, h2, h3, .nil, fun _ => .nil, h4, fun xs d _ e => by rw [List.append_nil]; exact e⟩
def RowOk (rw : List PyData) : Prop := ∃ (ns : List Int) (i m c : Int), rw = [.list (ns.map .int), .int i, .int m, .int c] ∧ ns.length ≤ 63 ∧ 0 ≤ i ∧ 0 ≤ m ∧ m < 2147483647 ∧ 0 ≤ c
def WRep (K : PySem.W.Frag) (Ts : TsT) (ρ : Nat) (He : Hp) (O : List Addr) (σ : St) (H : Hp) (en : En) : Prop := ρ < en.length ∧ ∃ rw, RowOk rw ∧ Rep K Ts He O σ H (en.set ρ (.own rw))
def XtB (a : Addr) (H H' : Hp) : Prop := ∀ b o, b ≠ a → H b = some o → H' b = some o ∨ ∃ ps qs, o = .tbl ps ∧ H' b = some (.tbl qs)
theorem XtB.trans {a : Addr} {H H1 H2 : Hp} (x : XtB a H H1) (y : XtB a H1 H2) : XtB a H H2 := fun b o hb e => by
  rcases x b o hb e with q | ⟨ps, qs, e1, q⟩
  · exact y b o hb q
  · rcases y b _ hb q with q' | ⟨_, qs', _, q'⟩
    · exact .inr ⟨ps, qs, e1, q'⟩
    · exact .inr ⟨ps, qs', e1, q'⟩
theorem XtB.of {a : Addr} {H H1 : Hp} (x : Xt H H1) : XtB a H H1 := fun b o _ e => x b o e
def Xw (ρ : Nat) (σ : St) (O : List Addr) (H H' : Hp) : Prop := Xt (hide H O) (hide H' O) ∧ ∀ a, σ[ρ]? = some (some (V.ref a)) → XtB a H H'
theorem Xw.refl {ρ : Nat} {σ : St} {O : List Addr} (H : Hp) : Xw ρ σ O H H := ⟨Xt.refl _, fun _ _ => .of (Xt.refl _)⟩
theorem Xw.of {ρ : Nat} {σ : St} {O : List Addr} {H H' : Hp} (x : Xt H H') : Xw ρ σ O H H' := ⟨hide_mono x, fun _ _ => .of x⟩
theorem Xw.trans {ρ : Nat} {σ : St} {O : List Addr} {H H1 H2 : Hp} (x : Xw ρ σ O H H1) (y : Xw ρ σ O H1 H2) : Xw ρ σ O H H2 := ⟨x.1.trans y.1, fun a h => (x.2 a h).trans (y.2 a h)⟩
abbrev WF := En → (PyData → Prop) → Prop
def tW (K : PySem.W.Frag) (Ts : TsT) (ρ : Nat) (F : WF) : TE := fun σ H Q => ∃ He O en Qd, WRep K Ts ρ He O σ H en ∧ F en Qd ∧ ∀ d v H', Qd d → WRep K Ts ρ He O σ H' en → Dp K (hide H' O) v d → Xw ρ σ O H H' → Q v H'
def tWs (K : PySem.W.Frag) (Ts : TsT) (ρ : Nat) (F : En → (List PyData → Prop) → Prop) : TA := fun σ H Q => ∃ He O en Qd, WRep K Ts ρ He O σ H en ∧ F en Qd ∧ ∀ ds vs H', Qd ds → WRep K Ts ρ He O σ H' en → DpAll K (hide H' O) vs ds → Xw ρ σ O H H' → Q vs H'
def tWT (K : PySem.W.Frag) (Ts : TsT) (ρ : Nat) (F : En → (Bool → Prop) → Prop) : TT := fun σ H Q => ∃ He O en Qd, WRep K Ts ρ He O σ H en ∧ F en Qd ∧ ∀ b H', Qd b → WRep K Ts ρ He O σ H' en → Xw ρ σ O H H' → Q b H'
abbrev WE (X : Cx) (Ts : TsT) (ρ : Nat) (e : Expr) (F : WF) : Prop := PE X e (tW X.K Ts ρ F)
abbrev WA (X : Cx) (Ts : TsT) (ρ : Nat) (es : List Expr) (F : En → (List PyData → Prop) → Prop) : Prop := PA X es (tWs X.K Ts ρ F)
abbrev WT (X : Cx) (Ts : TsT) (ρ : Nat) (e : Expr) (F : En → (Bool → Prop) → Prop) : Prop := PT X e (tWT X.K Ts ρ F)
theorem WRep.tabs' {K : PySem.W.Frag} {Ts : TsT} {ρ : Nat} {He : Hp} {O : List Addr} {σ : St} {H : Hp} {en : En} (r : WRep K Ts ρ He O σ H en) : Tb Ts H := let ⟨_, _, _, r⟩ := r; r.tabs
theorem WRep.occ {K : PySem.W.Frag} {Ts : TsT} {ρ : Nat} {He : Hp} {O : List Addr} {σ : St} {H : Hp} {en : En} (r : WRep K Ts ρ He O σ H en) : ∀ b ∈ O, H b ≠ none ∧ ∀ ps, H b ≠ some (.tbl ps) := let ⟨_, _, _, r⟩ := r; r.occ
theorem WRep.go {K : PySem.W.Frag} {Ts : TsT} {ρ : Nat} {He : Hp} {O : List Addr} {σ : St} {H H' : Hp} {en : En} (r : WRep K Ts ρ He O σ H en) (x : Xt H H') (t : Tb Ts H') : WRep K Ts ρ He O σ H' en := let ⟨a, rw, b, c⟩ := r; ⟨a, rw, b, c.go x t⟩
def wP (ρ : Nat) (f : En → Option PyData) : WF := fun en Q => ∃ d, (∀ rw, f (en.set ρ (.own rw)) = some d) ∧ Q d
def wT (ρ : Nat) (f : En → Option Bool) : En → (Bool → Prop) → Prop := fun en Q => ∃ b, (∀ rw, f (en.set ρ (.own rw)) = some b) ∧ Q b
def Op2 (K : PySem.W.Frag) (Ts : TsT) (r : R2) (g : PyData → PyData → Option PyData) : Prop := ∀ x y v w d H O Q, g x y = some d → Dp K (hide H O) v x → Dp K (hide H O) w y → Tb Ts H → (∀ b ∈ O, H b ≠ none ∧ ∀ ps, H b ≠ some (.tbl ps)) → (∀ u H', Xt H H' → Tb Ts H' → Dp K (hide H' O) u d → Q u H') → r v w H Q
def w2 (g : PyData → PyData → Option PyData) (F G : WF) : WF := fun en Q => F en fun x => G en fun y => ∃ d, g x y = some d ∧ Q d
def w1 (g : PyData → Option PyData) (F : WF) : WF := fun en Q => F en fun x => ∃ d, g x = some d ∧ Q d
section
variable {K : PySem.W.Frag} {X : Cx} {Ts : TsT} {ρ : Nat} {pos p : Pos} {e e2 : Expr} {es : List Expr} {f : En → Option PyData} {F G : WF}
theorem we_pure (h : DE X Ts e f) : WE X Ts ρ e (wP ρ f) := PE.imp h fun σ H Q ⟨He, O, en, Qd, ⟨hl, rw, hr, rp⟩, ⟨d, hf, hq⟩, kk⟩ =>
  tD.of rp (hf rw) fun v H' x r' q => kk d v H' hq ⟨hl, rw, hr, r'⟩ q (Xw.of x)
theorem wt_pure {t : En → Option Bool} (h : DT X Ts e t) : WT X Ts ρ e (wT ρ t) := PT.imp h fun σ H Q ⟨He, O, en, Qd, ⟨hl, rw, hr, rp⟩, ⟨d, hf, hq⟩, kk⟩ =>
  tT.of rp (hf rw) fun H' x r' => kk d H' hq ⟨hl, rw, hr, r'⟩ (Xw.of x)
theorem ww_2 {r : R2} {g : PyData → PyData → Option PyData} (k : Op2 K Ts r g) : ∀ σ H Q, tW K Ts ρ (w2 g F G) σ H Q → tOp r (tW K Ts ρ F) (tW K Ts ρ G) σ H Q := fun σ H Q ⟨He, O, en, Qd, rp, hF, kk⟩ =>
  ⟨He, O, en, _, rp, hF, fun x v H1 hx r1 q1 x1 => ⟨He, O, en, _, r1, hx, fun y w H2 ⟨d, hg, hd⟩ r2 q2 x2 =>
    k x y v w d H2 O Q hg (Dp.mono x2.1 q1) q2 r2.tabs' r2.occ fun u H' x3 t3 q3 => kk d u H' hd (r2.go x3 t3) q3 (x1.trans (x2.trans (Xw.of x3)))⟩⟩
theorem op2_plus : Op2 X.K Ts (fun x y H Q => rI0 (fun i j => .int (i + j)) x y H Q ∨ rCatA X.K x y H Q ∨ rCatL X.K x y H Q) gPlus := fun x y v w d H O Q h3 q1 q2 ht occ kk => by
  cases x <;> cases y <;> simp only [gPlus] at h3 <;> try cases h3
  · cases q1
    cases q2
    exact .inl ⟨_, _, rfl, rfl, kk _ H (Xt.refl H) ht (.int _)⟩
  · split at h3
    · rename_i hl
      cases h3
      cases q1 with
      | lst s1 a1 =>
        cases q2 with
        | lst s2 a2 =>
          have l1 := DpAll.len a1
          have l2 := DpAll.len a2
          exact .inr (.inr ⟨_, _, _, _, rfl, rfl, sqL_mono (fun o n e => (hide_some e).2) s1, sqL_mono (fun o n e => (hide_some e).2) s2, by rw [l1, l2, sizeLine_eq]; omega, fun p np => kk _ _ (Xt.upd np) (ht.new np) (lst_new np (new_out occ np) (DpAll.app a1 a2))⟩)
    · cases h3
  · split at h3
    · rename_i hl
      cases h3
      cases q1 with
      | tup s1 a1 =>
        cases q2 with
        | tup s2 a2 =>
          have l1 := DpAll.len a1
          have l2 := DpAll.len a2
          refine .inr (.inl ⟨_, _, _, _, rfl, rfl, sqT_mono (fun o n e => (hide_some e).2) s1, sqT_mono (fun o n e => (hide_some e).2) s2, by rw [l1, l2, sizeLine_eq]; omega, fun e0 => ?_, fun _ e0 => ?_, fun _ _ p np => kk _ _ (Xt.upd np) (ht.new np) (tup_new np (new_out occ np) (DpAll.app a1 a2))⟩)
          · subst e0
            cases a1
            exact kk _ H (Xt.refl H) ht (.tup s2 a2)
          · subst e0
            cases a2
            rw [List.append_nil] at kk
            exact kk _ H (Xt.refl H) ht (.tup s1 a1)
    · cases h3
theorem we_plus (ha : WE X Ts ρ e F) (hb : WE X Ts ρ e2 G) : WE X Ts ρ (.BinOp e .Add e2 pos) (w2 gPlus F G) := PE.imp (pe_op op_plus ha hb) (ww_2 op2_plus)
def wNil : En → (List PyData → Prop) → Prop := fun _ Q => Q []
def wCons (F : WF) (G : En → (List PyData → Prop) → Prop) : En → (List PyData → Prop) → Prop := fun en Q => F en fun x => G en fun xs => Q (x :: xs)
variable {Gs : En → (List PyData → Prop) → Prop}
theorem wa_nil : WA X Ts ρ [] wNil := PA.imp pa_nil fun σ H Q ⟨He, O, en, Qd, rp, hF, kk⟩ => kk [] [] H hF rp .nil (Xw.refl _)
theorem wa_cons (ha : WE X Ts ρ e F) (hr : WA X Ts ρ es Gs) (hs : starEach (e :: es) X.env = (false, eval e X.env) :: starEach es X.env := by rfl) : WA X Ts ρ (e :: es) (wCons F Gs) := PA.imp (pa_cons ha hr hs) fun σ H Q ⟨He, O, en, Qd, rp, hF, kk⟩ =>
  ⟨He, O, en, _, rp, hF, fun x v H1 hx r1 q1 x1 => ⟨He, O, en, _, r1, hx, fun xs vs H2 hxs r2 q2 x2 => kk _ _ H2 hxs r2 (.cons (Dp.mono x2.1 q1) q2) (x1.trans x2)⟩⟩
def wTup (G : En → (List PyData → Prop) → Prop) : WF := fun en Q => G en fun ds => ds.length ≤ 64 ∧ Q (.tuple ds)
def wLst (G : En → (List PyData → Prop) → Prop) : WF := fun en Q => G en fun ds => ds.length ≤ 64 ∧ Q (.list ds)
theorem we_tup {x1} (h : WA X Ts ρ es Gs) : WE X Ts ρ (.Tuple es x1 pos) (wTup Gs) := PE.imp (pe_tup h) fun σ H Q ⟨He, O, en, Qd, rp, hF, kk⟩ =>
  ⟨He, O, en, _, rp, hF, fun ds vs H1 ⟨hl, hq⟩ r1 q1 x1 => ⟨by rw [DpAll.len q1]; exact small64 hl, fun p np => kk _ _ _ hq (r1.go (Xt.upd np) (r1.tabs'.new np)) (tup_new np (new_out r1.occ np) q1) (x1.trans (Xw.of (Xt.upd np)))⟩⟩
theorem we_lst (h : WA X Ts ρ es Gs) : WE X Ts ρ (.List es pos) (wLst Gs) := PE.imp (pe_lst h) fun σ H Q ⟨He, O, en, Qd, rp, hF, kk⟩ =>
  ⟨He, O, en, _, rp, hF, fun ds vs H1 ⟨hl, hq⟩ r1 q1 x1 => ⟨by rw [DpAll.len q1]; exact small64 hl, fun p np => kk _ _ _ hq (r1.go (Xt.upd np) (r1.tabs'.new np)) (lst_new np (new_out r1.occ np) q1) (x1.trans (Xw.of (Xt.upd np)))⟩⟩
def spW (K : PySem.W.Frag) (Ts : TsT) (n : Nat) (F : List PyData → (PyData → Prop) → Prop) : Sp := fun vs H Q _ => vs.length = n + 1 ∧ ∃ a vs' O ds rw ws Qd, vs = .ref a :: vs' ∧ a ∈ O ∧ H a = some (.lst ws) ∧ DpAll K (hide H O) ws rw ∧ RowOk rw ∧ DpAll K (hide H O) vs' ds ∧ Tb Ts H ∧
  (∀ b ∈ O, H b ≠ none ∧ ∀ ps, H b ≠ some (.tbl ps)) ∧ F ds Qd ∧ ∀ d v H' rw' ws', Qd d → RowOk rw' → H' a = some (.lst ws') → DpAll K (hide H' O) ws' rw' → XtB a H H' → Tb Ts H' → Dp K (hide H' O) v d → Q v H'
theorem spW.imp {n : Nat} {F G : List PyData → (PyData → Prop) → Prop} (h : ∀ ds Q, G ds Q → F ds Q) : ∀ vs H Q E, spW K Ts n G vs H Q E → spW K Ts n F vs H Q E :=
  fun vs H Q E ⟨h1, a, vs', O, ds, rw, ws, Qd, e1, e2, e3, e4, e5, e6, e7, e8, e9, k⟩ => ⟨h1, a, vs', O, ds, rw, ws, Qd, e1, e2, e3, e4, e5, e6, e7, e8, h ds Qd e9, k⟩
structure CW (P : Program) (w : World) (K : PySem.W.Frag) (mg : Str → Option Value) (base : Heap) (Ts : TsT) (k : Nat) (x : Str) (n : Nat) (F : List PyData → (PyData → Prop) → Prop) : Prop where
  ex : ∃ f fd ps, mg x = some (.ref f) ∧ PySem.W.keepIn K (.ref f) = true ∧ Binds K fd ps [] ∧ FnOk P w K mg base CX0 k f fd ps (spW K Ts n F)
theorem CW.imp {P : Program} {w : World} {mg : Str → Option Value} {base : Heap} {k : Nat} {x : Str} {n : Nat} {F G : List PyData → (PyData → Prop) → Prop} (c : CW P w K mg base Ts k x n F) (h : ∀ ds Q, G ds Q → F ds Q) : CW P w K mg base Ts k x n G := by
  obtain ⟨f, fd, ps, h1, h2, h3, h4⟩ := c.ex
  exact ⟨f, fd, ps, h1, h2, h3, h4.imp (spW.imp h)⟩
def wDraw (n : Nat) (Fn : List PyData → (PyData → Prop) → Prop) (G : En → (List PyData → Prop) → Prop) : WF := fun en Q => G en fun ds => ds.length = n ∧ Fn ds Q
theorem WRep.back {He : Hp} {O : List Addr} {σ : St} {H H' : Hp} {en : En} {a : Addr} {rw' : List PyData} {ws' : List V} (r : WRep K Ts ρ He O σ H en) (hs : σ[ρ]? = some (some (V.ref a))) (hr : RowOk rw') (ha : H' a = some (.lst ws')) (q : DpAll K (hide H' O) ws' rw') (x : XtB a H H') (t : Tb Ts H') : WRep K Ts ρ He O σ H' en ∧ Xt (hide H O) (hide H' O) := by
  obtain ⟨hl, rw, hr0, rp⟩ := r
  have hρ : (en.set ρ (Slot.own rw))[ρ]? = some (Slot.own rw) := by rw [List.getElem?_set_self hl]
  obtain ⟨a0, vs0, p1, p2, p3, p4, p5⟩ := rp.own ρ rw hρ
  rw [hs] at p1
  cases p1
  have xh : Xt (hide H O) (hide H' O) := fun b o e => by
    obtain ⟨e1, e2⟩ := hide_some e
    have hne : b ≠ a := fun z => e1 (z ▸ p2)
    rcases x b o hne e2 with q | ⟨ps, qs, e3, q⟩
    · exact .inl (hide_of e1 q)
    · exact .inr ⟨ps, qs, e3, hide_of e1 q⟩
  have toOwn : ∀ (j : Nat) (es : List PyData), (en.set ρ (Slot.own rw'))[j]? = some (Slot.own es) → ∃ es', (en.set ρ (Slot.own rw))[j]? = some (Slot.own es') := fun j es h => by
    by_cases hj : ρ = j
    · subst hj; exact ⟨rw, hρ⟩
    · rw [List.getElem?_set_ne hj] at h ⊢; exact ⟨es, h⟩
  refine ⟨⟨hl, rw', hr, ⟨by simpa using rp.len, fun j d h => ?_, fun j es h => ?_, fun j k es es' aa h1 h2 h3 h4 => ?_, fun b hb => ?_, fun b o e => ?_, t⟩⟩, xh⟩
  · have hj : ρ ≠ j := fun z => by subst z; rw [List.getElem?_set_self hl] at h; cases h
    rw [List.getElem?_set_ne hj] at h
    obtain ⟨v, q1, q2⟩ := rp.dat j d (by rw [List.getElem?_set_ne hj]; exact h)
    exact ⟨v, q1, Dp.mono xh q2⟩
  · by_cases hj : ρ = j
    · subst hj
      rw [List.getElem?_set_self hl] at h
      cases h
      exact ⟨a, ws', hs, p2, p3, ha, q⟩
    · rw [List.getElem?_set_ne hj] at h
      obtain ⟨a', vs', q1, q2, q3, q4, q5⟩ := rp.own j es (by rw [List.getElem?_set_ne hj]; exact h)
      have hne : a' ≠ a := fun z => hj (by subst z; exact rp.inj ρ j rw es a' hρ (by rw [List.getElem?_set_ne hj]; exact h) hs q1)
      rcases x a' _ hne q4 with q | ⟨_, _, z, _⟩
      · exact ⟨a', vs', q1, q2, q3, q, DpAll.mono xh q5⟩
      · cases z
  · obtain ⟨e1, g1⟩ := toOwn j es h1
    obtain ⟨e2, g2⟩ := toOwn k es' h2
    exact rp.inj j k e1 e2 aa g1 g2 h3 h4
  · by_cases z : b = a
    · rw [z, ha]
      exact ⟨by simp, fun ps z => nomatch z⟩
    · obtain ⟨n1, n2⟩ := rp.occ b hb
      cases e : H b with
      | none => exact absurd e n1
      | some o =>
        rcases x b o z e with q | ⟨ps, qs, e3, q⟩
        · rw [q]; exact ⟨by simp, fun ps z => n2 ps (by rw [e]; exact z)⟩
        · exact absurd (by rw [e, e3]) (n2 ps)
  · have hne : b ≠ a := fun z => by rw [z, p3] at e; cases e
    rcases rp.ext b o e with q | ⟨ps, qs, e3, q⟩
    · exact x b o hne q
    · rcases x b _ hne q with q' | ⟨_, qs', _, q'⟩
      · exact .inr ⟨ps, qs, e3, q'⟩
      · exact .inr ⟨ps, qs', e3, q'⟩
theorem WRep.at {He : Hp} {O : List Addr} {σ : St} {H : Hp} {en : En} (r : WRep K Ts ρ He O σ H en) : ∃ a rw ws, σ[ρ]? = some (some (V.ref a)) ∧ a ∈ O ∧ He a = none ∧ H a = some (.lst ws) ∧ DpAll K (hide H O) ws rw ∧ RowOk rw := by
  obtain ⟨hl, rw, hr, rp⟩ := r
  obtain ⟨a, vs, p1, p2, p3, p4, p5⟩ := rp.own ρ rw (by rw [List.getElem?_set_self hl])
  exact ⟨a, rw, vs, p1, p2, p3, p4, p5, hr⟩
theorem we_draw {k j n : Nat} {x y : Str} {py : Pos} {Fn : List PyData → (PyData → Prop) → Prop} (hr : Room j X.A) (hF : CW X.prog X.w X.K X.mg X.base Ts k x n Fn) (hk : k ≤ j) (hg : Gl X x) (hN : X.N[ρ]? = some y) (hv : Vis X.env.scope y) (ha : WA X Ts ρ es Gs) (hdb : (x == ("__debug__" : Str)) = false := by decide) (hd : (y == ("__debug__" : Str)) = false := by decide)
    (hcd : (y == ("__classdict__" : Str)) = false := by decide) (he : starEach (.Name y py :: es) X.env = (false, eval (.Name y py) X.env) :: starEach es X.env := by rfl) (hpl : (backTo pos (starEach es X.env)).any (·.1) = false := by rfl) : WE X Ts ρ (.Call (.Name x p) (.Name y py :: es) [] pos) (wDraw n Fn Gs) := by
  obtain ⟨f, fd, ps, h1, h2, h3, h4⟩ := hF.ex
  refine PE.imp (pe_call h4 (hr.mono hk) hg h1 h2 h3 .nil pass0 (pa_cons (pe_var hN hv hd hcd) ha he) hdb he hpl) fun σ H Q ⟨He, O, en, Qd, rp, hF, kk⟩ => ?_
  obtain ⟨a, rw, ws, p1, p2, p3, p4, p5, p6⟩ := rp.at
  refine ⟨.ref a, p1, He, O, en, _, rp, hF, fun ds vs H1 ⟨hl, hq⟩ r1 q1 x1 => ?_⟩
  obtain ⟨a', rw1, ws1, s1, s2, s3, s4, s5, s6⟩ := r1.at
  rw [p1] at s1
  cases s1
  show spW X.K Ts n Fn ((V.ref a :: vs) ++ []) H1 Q E0
  rw [List.append_nil]
  exact ⟨by rw [List.length_cons, DpAll.len q1, hl], a, vs, O, ds, rw1, ws1, Qd, rfl, s2, s4, s5, s6, q1, r1.tabs', r1.occ, hq, fun d v H' rw' ws' hd hrw ha' hq' hx ht hdp => by
    obtain ⟨b1, b2⟩ := r1.back p1 hrw ha' hq' hx ht
    exact kk d v H' hd b1 hdp (x1.trans ⟨b2, fun a2 h2 => by rw [p1] at h2; cases h2; exact hx⟩)⟩
end
def BOk (ρ : Nat) (b : PyData → En → Option En) : Prop := ∀ (d : PyData) (en en' : En) (rw : List PyData), b d en = some en' → b d (en.set ρ (.own rw)) = some (en'.set ρ (.own rw)) ∧ en'.length = en.length ∧
  (∀ j es, j ≠ ρ → en'[j]? = some (Slot.own es) → en[j]? = some (Slot.own es))
theorem bOk_name {ρ i : Nat} (h : i ≠ ρ) : BOk ρ (bName i) := fun d en en' rw hb => by
  unfold bName at hb ⊢
  split at hb
  · rename_i hi
    cases hb
    refine ⟨by rw [if_pos (by simpa using hi), List.set_comm _ _ (Ne.symm h)], by simp, fun j es hj h1 => ?_⟩
    have hij : i ≠ j := fun z => by subst z; rw [List.getElem?_set_self hi] at h1; cases h1
    rwa [List.getElem?_set_ne hij] at h1
  · cases hb
theorem bOk_names {ρ : Nat} : ∀ {is : List Nat}, (∀ i ∈ is, i ≠ ρ) → ∀ (ds : List PyData) (en en' : En) (rw : List PyData), bNames is ds en = some en' → bNames is ds (en.set ρ (.own rw)) = some (en'.set ρ (.own rw)) ∧ en'.length = en.length ∧
  (∀ j es, j ≠ ρ → en'[j]? = some (Slot.own es) → en[j]? = some (Slot.own es))
  | [], _, [], en, en', rw, h => by cases h; exact ⟨rfl, rfl, fun _ _ _ h => h⟩
  | [], _, _ :: _, _, _, _, h => by cases h
  | _ :: _, _, [], _, _, _, h => by cases h
  | i :: is, hi, d :: ds, en, en', rw, h => by
    obtain ⟨e1, h1, h2⟩ := Option.bind_eq_some_iff.mp h
    obtain ⟨a1, a2, a3⟩ := bOk_name (hi i List.mem_cons_self) d en e1 rw h1
    obtain ⟨b1, b2, b3⟩ := bOk_names (fun j hj => hi j (List.mem_cons_of_mem _ hj)) ds e1 en' rw h2
    exact ⟨by show (bName i d (en.set ρ (.own rw))).bind _ = _; rw [a1]; exact b1, b2.trans a2, fun j es hj h => a3 j es hj (b3 j es hj h)⟩
theorem bOk_tup {ρ : Nat} {is : List Nat} (h : ∀ i ∈ is, i ≠ ρ) : BOk ρ (bTup is) := fun d en en' rw hb => by
  cases d <;> try cases hb
  exact bOk_names h _ en en' rw hb
def tWI (K : PySem.W.Frag) (Ts : TsT) (ρ : Nat) (F : En → (List PyData → Prop) → Prop) : TI := fun σ H R => ∃ He O en Qd, WRep K Ts ρ He O σ H en ∧ F en Qd ∧ ∀ ds J H1, Qd ds → WRep K Ts ρ He O σ H1 en → Xw ρ σ O H H1 → Gives K Ts J ds H1 O → R J H1
abbrev WI (X : Cx) (Ts : TsT) (ρ : Nat) (tg iter : Expr) (F : En → (List PyData → Prop) → Prop) : Prop := PI X tg iter (tWI X.K Ts ρ F)
def gWD (K : PySem.W.Frag) (Ts : TsT) (ρ : Nat) (vs : List Nat) (b : PyData → En → Option En) : TG := fun x σ H Q => ∃ He O en d en', WRep K Ts ρ He O σ H en ∧ Dp K (hide H O) x d ∧ b d en = some en' ∧ ∀ σ', WRep K Ts ρ He O σ' H en' → wipe σ' vs = wipe σ vs → Q σ' H
section
variable {K : PySem.W.Frag} {X : Cx} {Ts : TsT} {ρ : Nat} {pos p : Pos} {e e2 tg iter elt : Expr} {es : List Expr} {f : En → Option PyData} {F G : WF} {it : En → (List PyData → Prop) → Prop} {b : PyData → En → Option En} {t : En → (Bool → Prop) → Prop}
theorem wg_of {vs : List Nat} (h : DG X Ts tg vs b) (hb : BOk ρ b) : PG X tg (gWD X.K Ts ρ vs b) := PG.imp h fun x σ H Q ⟨He, O, en, d, en', ⟨hl, rw, hr, rp⟩, q, hbd, kk⟩ =>
  ⟨He, O, _, d, _, rp, q, (hb d en en' rw hbd).1, fun σ' r' w' => kk σ' ⟨by rw [(hb d en en' rw hbd).2.1]; exact hl, rw, hr, r'⟩ w'⟩
def wRange1 (F : WF) : En → (List PyData → Prop) → Prop := fun en Q => F en fun d => ∃ j : Int, d = .int j ∧ -1000000 ≤ j ∧ j ≤ 1000000 ∧ Q (rangeD 0 j.toNat)
theorem wi_range1 (hg : Gl X "range") (hm : X.mg "range" = none) (ha : WE X Ts ρ e F) (hs : starEach [e] X.env = [(false, eval e X.env)] := by rfl) : WI X Ts ρ tg (.Call (.Name "range" p) [e] [] pos) (wRange1 F) :=
  PI.imp (pi_range1 (ta := tCons (tW X.K Ts ρ F) tNil) hg hm (pa_cons ha pa_nil hs) hs) fun σ H R ⟨He, O, en, Qd, rp, hF, kk⟩ =>
    ⟨He, O, en, _, rp, hF, fun d v H1 ⟨j, hj, h1, h2, hq⟩ r1 q1 x1 => by
      subst hj
      cases q1
      exact ⟨j, rfl, by omega, by omega, kk _ _ H1 hq r1 x1 gives_range⟩⟩
def wlcGo (b : PyData → En → Option En) (t : En → (Bool → Prop) → Prop) (f : WF) (en : En) : List PyData → (List PyData → Prop) → Prop
  | [], Q => Q []
  | d :: r, Q => ∃ e1, b d en = some e1 ∧ t e1 fun k => if k = true then f e1 fun y => wlcGo b t f en r fun o => Q (y :: o) else wlcGo b t f en r Q
def wLc (it : En → (List PyData → Prop) → Prop) (b : PyData → En → Option En) (t : En → (Bool → Prop) → Prop) (f : WF) (vs : List Nat) : WF := fun en Q => (∀ j ∈ vs, ∀ es, en[j]? ≠ some (Slot.own es)) ∧ it en fun ds => ds.length ≤ 1000000 ∧ wlcGo b t f (wipeE en vs) ds fun o => Q (.list o)
def wYes : En → (Bool → Prop) → Prop := fun _ Q => Q true
theorem wts_nil : PTs X [] (tWT X.K Ts ρ wYes) := ⟨fun pins s σ H Q I ⟨He, O, en, Qd, rp, hF, kk⟩ => pts_nil.run pins s σ H Q I (kk true H hF rp (Xw.refl _))⟩
theorem wipeE_set {en : En} {vs : List Nat} {x : Slot} (h : ρ ∉ vs) : wipeE (en.set ρ x) vs = (wipeE en vs).set ρ x := by
  induction vs with
  | nil => rfl
  | cons v vs ih =>
    have h1 : v ≠ ρ := fun e => h (by rw [e]; exact List.mem_cons_self)
    have h2 : ρ ∉ vs := fun m => h (List.mem_cons_of_mem _ m)
    show (wipeE (en.set ρ x) vs).set v .no = ((wipeE en vs).set v .no).set ρ x
    rw [ih h2, List.set_comm _ _ (Ne.symm h1)]
theorem wipeE_len (en : En) : ∀ vs : List Nat, (wipeE en vs).length = en.length
  | [] => rfl
  | v :: vs => by
    show ((wipeE en vs).set v .no).length = _
    rw [List.length_set, wipeE_len en vs]
theorem WRep.wipe {He : Hp} {O : List Addr} {σ : St} {H : Hp} {en : En} (r : WRep K Ts ρ He O σ H en) {vs : List Nat} (h : ρ ∉ vs) : WRep K Ts ρ He O (L2.wipe σ vs) H (wipeE en vs) := by
  obtain ⟨hl, rw, hr, rp⟩ := r
  refine ⟨by rw [wipeE_len]; exact hl, rw, hr, ?_⟩
  have := rp.wipe vs
  rwa [wipeE_set h] at this
theorem WRep.hid {He : Hp} {O : List Addr} {σ : St} {H : Hp} {en : En} (r : WRep K Ts ρ He O σ H en) {D : Addr} (hD : H D = none) {o : HO} (no : ∀ ps, o ≠ .tbl ps) : WRep K Ts ρ He (D :: O) σ (upd H D o) en := by
  obtain ⟨hl, rw, hr, rp⟩ := r
  exact ⟨hl, rw, hr, rp.hid hD no⟩
theorem WRep.join {He : Hp} {O : List Addr} {σ σ2 : St} {H H5 : Hp} {en e2 : En} (r1 : WRep K Ts ρ He O σ H en) (r2 : WRep K Ts ρ He O σ2 H5 e2) (x : Xt (hide H O) (hide H5 O)) (hρ : σ2[ρ]? = σ[ρ]?)
    (ho : ∀ (j : Nat) (es : List PyData), j ≠ ρ → en[j]? = some (Slot.own es) → e2[j]? = some (Slot.own es) ∧ σ2[j]? = σ[j]?) : WRep K Ts ρ He O σ H5 en := by
  obtain ⟨hl, rw1, hr1, rp1⟩ := r1
  obtain ⟨hl2, rw2, hr2, rp2⟩ := r2
  have h2ρ : (e2.set ρ (Slot.own rw2))[ρ]? = some (Slot.own rw2) := by rw [List.getElem?_set_self hl2]
  have h1ρ : (en.set ρ (Slot.own rw1))[ρ]? = some (Slot.own rw1) := by rw [List.getElem?_set_self hl]
  have toOwn : ∀ (j : Nat) (es : List PyData), (en.set ρ (Slot.own rw2))[j]? = some (Slot.own es) → ∃ es', (en.set ρ (Slot.own rw1))[j]? = some (Slot.own es') := fun j es h => by
    by_cases hj : ρ = j
    · subst hj; exact ⟨rw1, h1ρ⟩
    · rw [List.getElem?_set_ne hj] at h ⊢; exact ⟨es, h⟩
  refine ⟨hl, rw2, hr2, ⟨by simpa using rp1.len, fun j d h => ?_, fun j es h => ?_, fun j k es es' aa h1 h2 h3 h4 => ?_, rp2.occ, rp2.ext, rp2.tabs⟩⟩
  · have hj : ρ ≠ j := fun z => by subst z; rw [List.getElem?_set_self hl] at h; cases h
    rw [List.getElem?_set_ne hj] at h
    obtain ⟨v, q1, q2⟩ := rp1.dat j d (by rw [List.getElem?_set_ne hj]; exact h)
    exact ⟨v, q1, Dp.mono x q2⟩
  · by_cases hj : ρ = j
    · subst hj
      rw [List.getElem?_set_self hl] at h
      cases h
      obtain ⟨a, vs, p1, p2⟩ := rp2.own ρ rw2 h2ρ
      exact ⟨a, vs, by rw [← hρ]; exact p1, p2⟩
    · rw [List.getElem?_set_ne hj] at h
      obtain ⟨q1, q2⟩ := ho j es (Ne.symm hj) h
      obtain ⟨a, vs, p1, p2⟩ := rp2.own j es (by rw [List.getElem?_set_ne hj]; exact q1)
      exact ⟨a, vs, by rw [← q2]; exact p1, p2⟩
  · obtain ⟨f1, g1⟩ := toOwn j es h1
    obtain ⟨f2, g2⟩ := toOwn k es' h2
    exact rp1.inj j k f1 f2 aa g1 g2 h3 h4
theorem wipeE_out {en : En} {i : Nat} : ∀ {vs : List Nat}, i ∉ vs → (wipeE en vs)[i]? = en[i]?
  | [], _ => rfl
  | v :: vs, h => by
    have h1 : v ≠ i := fun e => h (by rw [e]; exact List.mem_cons_self)
    have h2 : i ∉ vs := fun m => h (List.mem_cons_of_mem _ m)
    show ((wipeE en vs).set v .no)[i]? = _
    rw [List.getElem?_set_ne h1]
    exact wipeE_out h2
theorem WRep.free {He : Hp} {O : List Addr} {σ : St} {H : Hp} {en : En} {D : Addr} (r : WRep K Ts ρ He O σ H en) (nD : H D = none) : ∀ (j : Nat) (es : List PyData) (a : Addr), (∃ rw, (en.set ρ (Slot.own rw))[j]? = some (Slot.own es)) → σ[j]? = some (some (V.ref a)) → a ≠ D := fun j es a ⟨rw', h1⟩ h2 z => by
  obtain ⟨hl, rw0, hr0, rp0⟩ := r
  have : ∃ es', (en.set ρ (Slot.own rw0))[j]? = some (Slot.own es') := by
    by_cases hj : ρ = j
    · subst hj; exact ⟨rw0, by rw [List.getElem?_set_self hl]⟩
    · rw [List.getElem?_set_ne hj] at h1 ⊢; exact ⟨es, h1⟩
  obtain ⟨es', h3⟩ := this
  obtain ⟨a', vs', g1, g2, g3, g4, _⟩ := rp0.own j es' h3
  rw [h2] at g1
  cases g1
  rw [z, nD] at g4
  cases g4
theorem WRep.grow {He : Hp} {O : List Addr} {σ : St} {H : Hp} {en : En} {D : Addr} {l l' : List V} (r : WRep K Ts ρ He O σ H en) (hm : D ∈ O) (hD : H D = some (.lst l)) (nE : He D = none) (no : ∀ (j : Nat) (es : List PyData) (a : Addr), (∃ rw, (en.set ρ (Slot.own rw))[j]? = some (Slot.own es)) → σ[j]? = some (some (V.ref a)) → a ≠ D) : WRep K Ts ρ He O σ (upd H D (.lst l')) en := by
  obtain ⟨hl, rw, hr, rp⟩ := r
  have hu : Xt (hide H O) (hide (upd H D (.lst l')) O) := hide_upd hm
  refine ⟨hl, rw, hr, ⟨rp.len, fun j dd h => let ⟨u, p, q⟩ := rp.dat j dd h; ⟨u, p, Dp.mono hu q⟩, fun j es h => ?_, rp.inj, fun bb hb => ?_, fun bb o e => ?_, rp.tabs.upd fun u z => by rw [hD] at z; cases z; exact lst_noc⟩⟩
  · obtain ⟨a, ws, p1, p2, p3, p4, p5⟩ := rp.own j es h
    exact ⟨a, ws, p1, p2, p3, by rw [upd_ne (no j es a ⟨rw, h⟩ p1)]; exact p4, DpAll.mono hu p5⟩
  · by_cases z : bb = D
    · rw [z, upd_same]
      exact ⟨by simp, fun ps q => nomatch q⟩
    · rw [upd_ne z]
      exact rp.occ bb hb
  · have hne : bb ≠ D := fun z => by rw [z, nE] at e; cases e
    rw [upd_ne hne]
    exact rp.ext bb o e
end
section
variable {X : Cx} {Ts : TsT} {ρ : Nat} {pos p : Pos} {e elt tg iter : Expr} {ifs : List Expr} {scope : Scope} {own : List (Str × Nat)} {it : En → (List PyData → Prop) → Prop} {b : PyData → En → Option En} {t : En → (Bool → Prop) → Prop} {F : WF}
def Mn (F : WF) : Prop := ∀ en Q Q', (∀ d, Q d → Q' d) → F en Q → F en Q'
def MnT (F : En → (Bool → Prop) → Prop) : Prop := ∀ en Q Q', (∀ d, Q d → Q' d) → F en Q → F en Q'
def MnI (F : En → (List PyData → Prop) → Prop) : Prop := ∀ en Q Q', (∀ d, Q d → Q' d) → F en Q → F en Q'
theorem mnt_yes : MnT wYes := fun _ _ _ h q => h _ q
theorem bName_out {i : Nat} : ∀ (d : PyData) (en e1 : En) (j : Nat), j ∉ [i] → bName i d en = some e1 → e1[j]? = en[j]? := fun d en e1 j hj h => by
  unfold bName at h
  split at h
  · cases h
    rw [List.getElem?_set_ne (fun z => hj (by rw [z]; exact List.mem_cons_self))]
  · cases h
end
section
variable {P : Program} {w : World} {K : PySem.W.Frag} {mg : Str → Option Value} {base : Heap} {Ts : TsT}
def runW (n : Nat) (F : WF) : List PyData → (PyData → Prop) → Prop := fun ds Q => F (Slot.no :: (ds.map Slot.dat ++ List.replicate (n - 1 - ds.length) Slot.no)) Q
theorem start_get {N : List Str} {vs : List V} {i : Nat} {v : V} (h : vs[i]? = some v) : (L2.start N vs)[i]? = some (some v) := by
  have hi : i < vs.length := (List.getElem?_eq_some_iff.mp h).1
  unfold L2.start
  rw [List.getElem?_append_left (by simpa using hi), List.getElem?_map, h]
  rfl
theorem wrep_start {N : List Str} {n : Nat} {vs : List V} {H : Hp} {O : List Addr} {a : Addr} {vs' : List V} {ds rw : List PyData} {ws : List V} (hn : vs.length = n + 1) (hN : vs.length ≤ N.length) (e1 : vs = .ref a :: vs') (e2 : a ∈ O) (e3 : H a = some (.lst ws)) (e4 : DpAll K (hide H O) ws rw) (e6 : DpAll K (hide H O) vs' ds) (e7 : Tb Ts H) (e8 : ∀ b ∈ O, H b ≠ none ∧ ∀ ps, H b ≠ some (.tbl ps)) :
    Rep K Ts (fun b => if b = a then none else H b) O (L2.start N vs) H (Slot.own rw :: (ds.map Slot.dat ++ List.replicate (N.length - 1 - ds.length) Slot.no)) := by
  subst e1
  have hl := DpAll.len e6
  have hlen : (Slot.own rw :: (ds.map Slot.dat ++ List.replicate (N.length - 1 - ds.length) Slot.no)).length = (L2.start N (V.ref a :: vs')).length := by
    simp [L2.start, hl]; simp at hN; omega
  refine ⟨hlen, fun i d h => ?_, fun i es h => ?_, fun i j es es' b h1 h2 h3 h4 => ?_, e8, fun b o e => ?_, e7⟩
  · cases i with
    | zero => cases h
    | succ i =>
      rw [List.getElem?_cons_succ] at h
      by_cases hi : i < ds.length
      · rw [List.getElem?_append_left (by simpa using hi), List.getElem?_map] at h
        obtain ⟨d', h1, h2⟩ := Option.map_eq_some_iff.mp h
        cases h2
        obtain ⟨v, h3, h4⟩ := DpAll.get' e6 h1
        exact ⟨v, start_get (by rw [List.getElem?_cons_succ]; exact h3), h4⟩
      · rw [List.getElem?_append_right (by simpa using hi), List.getElem?_replicate] at h
        split at h <;> cases h
  · cases i with
    | zero =>
      cases h
      exact ⟨a, ws, start_get rfl, e2, if_pos rfl, e3, e4⟩
    | succ i =>
      rw [List.getElem?_cons_succ] at h
      by_cases hi : i < ds.length
      · rw [List.getElem?_append_left (by simpa using hi), List.getElem?_map] at h
        obtain ⟨d', h1, h2⟩ := Option.map_eq_some_iff.mp h
        cases h2
      · rw [List.getElem?_append_right (by simpa using hi), List.getElem?_replicate] at h
        split at h <;> cases h
  · have zero : ∀ {k : Nat} {es : List PyData}, (Slot.own rw :: (ds.map Slot.dat ++ List.replicate (N.length - 1 - ds.length) Slot.no))[k]? = some (Slot.own es) → k = 0 := fun {k es} h => by
      cases k with
      | zero => rfl
      | succ i =>
        rw [List.getElem?_cons_succ] at h
        by_cases hi : i < ds.length
        · rw [List.getElem?_append_left (by simpa using hi), List.getElem?_map] at h
          obtain ⟨d', h1, h2⟩ := Option.map_eq_some_iff.mp h
          cases h2
        · rw [List.getElem?_append_right (by simpa using hi), List.getElem?_replicate] at h
          split at h <;> cases h
    rw [zero h1, zero h2]
  · split at e
    · cases e
    · exact .inl e
theorem DF.okW {x qual : Str} {st : Stmt} {f : Addr} {fd : FuncData} {cdv : Value} {N ps : List Str} {k n : Nat} {F : WF} {e : Expr} {pos : Pos} (D : DF K x qual st f fd cdv) (S : FnScope N ps (defScope st)) (hn : ps.length = n + 1) (hN : n + 1 ≤ N.length) (hb : defBody st = [.Return (some e) pos])
    (hbody : ∀ (A : Around) (outer : List Env) (s : Shared) (H : Hp) (E : XK), Room k (A.deeper (envOfC qual (defScope st) s.heap.objs.size f cdv)) → WE (cxOf CX0 P w K mg base N qual (defScope st) f cdv A outer s H E).nox Ts 0 e F) :
    FnOk P w K mg base CX0 (k + 1) f fd ps (spW K Ts n (runW N.length F)) := by
  obtain ⟨oc, od, dV, kV, doc, pm, an, ct, osl, rfl, lk, hcd⟩ := D.ex
  refine fn_of lk hcd S (fun vs H Q E h => h.1.trans hn.symm) fun A outer s H vs Q E hr hsp => ?_
  rw [hb]
  refine ⟨_, (pss_one (ps_ret (hbody A outer s H E hr))).nox, ?_⟩
  obtain ⟨hl, a, vs', O, ds, rw', ws, Qd, e1, e2, e3, e4, e5, e6, e7, e8, hF, kk⟩ := hsp
  have rp := wrep_start (N := N) hl (by omega) e1 e2 e3 e4 e6 e7 e8
  have hs : (L2.start N vs)[0]? = some (some (V.ref a)) := by rw [e1]; exact start_get rfl
  refine ⟨fun b => if b = a then none else H b, O, _, Qd, ⟨?_, rw', e5, ?_⟩, hF, fun d v H' hd r' q x => ?_⟩
  · simp
  · exact rp
  · obtain ⟨a', rw2, ws2, s1, s2, s3, s4, s5, s6⟩ := r'.at
    rw [hs] at s1
    cases s1
    exact kk d v H' rw2 ws2 hd s6 s4 s5 (x.2 a hs) r'.tabs' q
end
abbrev ZF := En → (En → Prop) → (PyData → En → Prop) → Prop
def tZ (K : PySem.W.Frag) (Ts : TsT) (ρ : Nat) (F : ZF) : TS := fun D σ H => ∃ He O en N R a, Rep K Ts He O σ H en ∧ σ[ρ]? = some (some (V.ref a)) ∧ F en N R ∧
  (∀ en' σ' H', N en' → Rep K Ts He O σ' H' en' → σ'[ρ]? = some (some (V.ref a)) → XtB a H H' → D.nx σ' H') ∧
  (∀ d en' v σ' H', R d en' → Rep K Ts He O σ' H' en' → σ'[ρ]? = some (some (V.ref a)) → XtB a H H' → Dp K (hide H' O) v d → D.rt v H')
abbrev ZS (X : Cx) (Ts : TsT) (ρ : Nat) (st : Stmt) (F : ZF) : Prop := PS X st (tZ X.K Ts ρ F)
abbrev ZSs (X : Cx) (Ts : TsT) (ρ : Nat) (st : List Stmt) (F : ZF) : Prop := PSs X st (tZ X.K Ts ρ F)
def zNil : ZF := fun en N _ => N en
def zSeq (F G : ZF) : ZF := fun en N R => F en (fun e1 => G e1 N R) R
def zSet (i : Nat) (f : En → Option PyData) : ZF := fun en N _ => ∃ d e1, f en = some d ∧ bName i d en = some e1 ∧ N e1
def zRow (ρ c : Nat) (f : En → Option PyData) : ZF := fun en N _ => ∃ d ds, f en = some d ∧ en[ρ]? = some (Slot.own ds) ∧ c < ds.length ∧ N (en.set ρ (.own (ds.set c d)))
def zIf (t : En → Option Bool) (F G : ZF) : ZF := fun en N R => ∃ b, t en = some b ∧ if b = true then F en N R else G en N R
def zRet (f : En → Option PyData) : ZF := fun en _ R => ∃ d, f en = some d ∧ R d en
theorem XtB.refl {a : Addr} (H : Hp) : XtB a H H := .of (Xt.refl H)
theorem DpAll.set {K : PySem.W.Frag} {H : Hp} {v : V} {d : PyData} : ∀ {vs : List V} {ds : List PyData} (c : Nat), DpAll K H vs ds → Dp K H v d → DpAll K H (vs.set c v) (ds.set c d)
  | _, _, _, .nil, _ => .nil
  | _, _, 0, .cons _ b, q => .cons q b
  | _, _, n + 1, .cons a b, q => .cons a (DpAll.set n b q)
theorem Rep.own_set {K : PySem.W.Frag} {Ts : TsT} {He : Hp} {O : List Addr} {σ : St} {H : Hp} {en : En} {i : Nat} {a : Addr} {vs vs' : List V} {ds ds' : List PyData} (rp : Rep K Ts He O σ H en) (hd : en[i]? = some (Slot.own ds)) (p1 : σ[i]? = some (some (V.ref a))) (p2 : a ∈ O) (p3 : He a = none) (p4 : H a = some (.lst vs)) (q : DpAll K (hide H O) vs' ds') :
    Rep K Ts He O σ (upd H a (.lst vs')) (en.set i (.own ds')) := by
  have hi : i < en.length := (List.getElem?_eq_some_iff.mp hd).1
  have hu : Xt (hide H O) (hide (upd H a (.lst vs')) O) := hide_upd p2
  refine ⟨by simp [rp.len], fun j d' h => ?_, fun j es h => ?_, fun j kk es es' aa h1 h2 h3 h4 => ?_, fun b hb => ?_, fun b o e => ?_, rp.tabs.upd fun u z => by rw [p4] at z; cases z; exact lst_noc⟩
  · have hj : i ≠ j := fun z => by subst z; rw [List.getElem?_set_self hi] at h; cases h
    rw [List.getElem?_set_ne hj] at h
    obtain ⟨u, q1, q2⟩ := rp.dat j d' h
    exact ⟨u, q1, Dp.mono hu q2⟩
  · by_cases hj : i = j
    · subst hj
      rw [List.getElem?_set_self hi] at h
      cases h
      exact ⟨a, vs', p1, p2, p3, upd_same, DpAll.mono hu q⟩
    · rw [List.getElem?_set_ne hj] at h
      obtain ⟨a', vs2, q1, q2, q3, q4, q5⟩ := rp.own j es h
      have hne : a' ≠ a := fun z => hj (by subst z; exact rp.inj i j ds es a' hd h p1 q1)
      exact ⟨a', vs2, q1, q2, q3, by rw [upd_ne hne]; exact q4, DpAll.mono hu q5⟩
  · have toOwn : ∀ (j : Nat) (es : List PyData), (en.set i (Slot.own ds'))[j]? = some (Slot.own es) → ∃ es', en[j]? = some (Slot.own es') := fun j es h => by
      by_cases hj : i = j
      · subst hj; exact ⟨ds, hd⟩
      · rw [List.getElem?_set_ne hj] at h; exact ⟨es, h⟩
    obtain ⟨e1, g1⟩ := toOwn j es h1
    obtain ⟨e2, g2⟩ := toOwn kk es' h2
    exact rp.inj j kk e1 e2 aa g1 g2 h3 h4
  · by_cases z : b = a
    · rw [z, upd_same]
      exact ⟨by simp, fun ps z => nomatch z⟩
    · rw [upd_ne z]
      exact rp.occ b hb
  · have hne : b ≠ a := fun z => by rw [z, p3] at e; cases e
    rw [upd_ne hne]
    exact rp.ext b o e
theorem ixN_at {n j : Nat} (hj : j < n) : ixN n (j : Int) = some j := by
  unfold ixN
  rw [if_pos (by omega), if_pos (by omega)]
  simp
section
variable {X : Cx} {Ts : TsT} {ρ : Nat} {pos : Pos} {st : Stmt} {rest : List Stmt} {F G : ZF} {e : Expr} {f g : En → Option PyData}
theorem z_nil : ZSs X Ts ρ [] zNil := PSs.imp pss_nil fun D σ H ⟨He, O, en, N, R, a, rp, hs, hF, k, _⟩ => k en σ H hF rp hs (XtB.refl H)
theorem z_cons (h1 : ZS X Ts ρ st F) (h2 : ZSs X Ts ρ rest G) : ZSs X Ts ρ (st :: rest) (zSeq F G) := PSs.imp (pss_cons h1 h2) fun D σ H ⟨He, O, en, N, R, a, rp, hs, hF, k, l⟩ =>
  ⟨He, O, en, _, R, a, rp, hs, hF, fun e1 σ1 H1 hn r1 s1 x1 => ⟨He, O, e1, N, R, a, r1, s1, hn, fun e2 σ2 H2 hn2 r2 s2 x2 => k e2 σ2 H2 hn2 r2 s2 (x1.trans x2), fun d e2 v σ2 H2 hr r2 s2 x2 q => l d e2 v σ2 H2 hr r2 s2 (x1.trans x2) q⟩, l⟩
theorem z_one (h1 : ZS X Ts ρ st F) : ZSs X Ts ρ [st] F := pss_one h1
theorem z_set {i : Nat} {x : Str} {pos' : Pos} (hN : X.N.Nodup) (hi : X.N[i]? = some x) (hx : Loc X.env.scope x) (hρ : i ≠ ρ) (he : DE X Ts e f) (hs : swapsWith e (some (.Name x pos')) pos.line X.env = pure false := by rfl) (hf : X.fn x = true ∨ X.env.scope.names.lookup x = some .local := by first | exact .inl rfl | exact .inr rfl | assumption) :
    ZS X Ts ρ (.Assign [.Name x pos'] e pos) (zSet i f) := PS.imp (ps_set hN hi hx he hs hf) fun D σ H ⟨He, O, en, N, R, a, rp, hs, ⟨d, e1, h1, h2, hn⟩, k, _⟩ => by
  refine tD.of rp h1 fun v H1 x1 r1 q1 => ?_
  unfold bName at h2
  split at h2
  · rename_i hi'
    cases h2
    exact k _ _ H1 hn (r1.setD hi' q1) (by rw [List.getElem?_set_ne hρ]; exact hs) (.of x1)
  · cases h2
theorem z_row {c : Nat} {x : Str} {px ps pc : Pos} {kc : Nat} (hN : X.N[ρ]? = some x) (hv : Vis X.env.scope x) (he : DE X Ts e f) (hd : (x == ("__debug__" : Str)) = false := by decide) (hcd : (x == ("__classdict__" : Str)) = false := by decide)
    (hs : swapsWithSole [.Subscript (.Name x px) (.Constant (.int (c : Int)) kc pc) ps] e pos.line X.env = pure false := by rfl) (hw : swappedStores [.Subscript (.Name x px) (.Constant (.int (c : Int)) kc pc) ps] e X.env = pure none := by rfl) :
    ZS X Ts ρ (.Assign [.Subscript (.Name x px) (.Constant (.int (c : Int)) kc pc) ps] e pos) (zRow ρ c f) := PS.imp (ps_asg he (pg_sub (pe_var hN hv hd hcd) pe_int set_list) hs hw) fun D σ H ⟨He, O, en, N, R, a, rp, hs, ⟨d, ds, h1, h2, h3, hn⟩, k, _⟩ => by
  refine tD.of rp h1 fun v H1 x1 r1 q1 => ?_
  obtain ⟨a', vs, p1, p2, p3, p4, p5⟩ := r1.own ρ ds h2
  rw [hs] at p1
  cases p1
  have hl : c < vs.length := by rw [DpAll.len p5]; exact h3
  refine ⟨.ref a, hs, a, vs, c, c, rfl, rfl, p4, ixN_at hl, ?_⟩
  exact k _ _ _ hn (r1.own_set h2 hs p2 p3 p4 (DpAll.set c p5 q1)) hs ((XtB.of x1).trans fun b o hb e => .inl (by rw [upd_ne hb]; exact e))
theorem z_if {c : Expr} {a b : List Stmt} {t : En → Option Bool} (hc : DT X Ts c t) (ha : ZSs X Ts ρ a F) (hb : ZSs X Ts ρ b G) : ZS X Ts ρ (.If c a b pos) (zIf t F G) := PS.imp (ps_if hc ha hb) fun D σ H ⟨He, O, en, N, R, a, rp, hs, ⟨b, h1, h2⟩, k, l⟩ => by
  refine tT.of rp h1 fun H1 x1 r1 => ?_
  cases b with
  | true => exact iteT ⟨He, O, en, N, R, a, r1, hs, h2, fun e2 σ2 H2 hn2 r2 s2 x2 => k e2 σ2 H2 hn2 r2 s2 ((XtB.of x1).trans x2), fun d e2 v σ2 H2 hr r2 s2 x2 q => l d e2 v σ2 H2 hr r2 s2 ((XtB.of x1).trans x2) q⟩
  | false => exact iteF ⟨He, O, en, N, R, a, r1, hs, h2, fun e2 σ2 H2 hn2 r2 s2 x2 => k e2 σ2 H2 hn2 r2 s2 ((XtB.of x1).trans x2), fun d e2 v σ2 H2 hr r2 s2 x2 q => l d e2 v σ2 H2 hr r2 s2 ((XtB.of x1).trans x2) q⟩
theorem z_ret (he : DE X Ts e f) : ZS X Ts ρ (.Return (some e) pos) (zRet f) := PS.imp (ps_ret he) fun D σ H ⟨He, O, en, N, R, a, rp, hs, ⟨d, h1, hr⟩, k, l⟩ =>
  tD.of rp h1 fun v H1 x1 r1 q1 => l d en v σ H1 hr r1 hs (.of x1) q1
def cPow (i j : Int) : Bool := decide (0 ≤ j ∧ j ≤ 1000000 ∧ i.natAbs < 2 ^ 64)
def fPow := f2 (gIc cPow fun i j => .int (i ^ j.toNat))
theorem d_pow {a b : Expr} (ha : DE X Ts a f) (hb : DE X Ts b g) : DE X Ts (.BinOp a .Pow b pos) (fPow f g) := d_i (fun i j h => show CPow i j from @of_decide_eq_true (0 ≤ j ∧ j ≤ 1000000 ∧ i.natAbs < 2 ^ 64) _ h) (fun _ _ _ _ => .int _) (pe_op op_pow ha hb)
end
section
variable {P : Program} {w : World} {K : PySem.W.Frag} {mg : Str → Option Value} {base : Heap} {Ts : TsT}
def runZ (n : Nat) (F : ZF) : List PyData → (PyData → Prop) → Prop := fun ds Q => ∀ rw, RowOk rw → F (Slot.own rw :: (ds.map Slot.dat ++ List.replicate (n - 1 - ds.length) Slot.no)) (fun _ => False) fun d en' => (∃ rw', RowOk rw' ∧ en'[0]? = some (Slot.own rw')) ∧ Q d
theorem DF.okZ {x qual : Str} {st : Stmt} {f : Addr} {fd : FuncData} {cdv : Value} {N ps : List Str} {k n : Nat} {F : ZF} (D : DF K x qual st f fd cdv) (S : FnScope N ps (defScope st)) (hn : ps.length = n + 1) (hN : n + 1 ≤ N.length)
    (hbody : ∀ (A : Around) (outer : List Env) (s : Shared) (H : Hp) (E : XK), Room k (A.deeper (envOfC qual (defScope st) s.heap.objs.size f cdv)) → ZSs (cxOf CX0 P w K mg base N qual (defScope st) f cdv A outer s H E).nox Ts 0 (defBody st) F) :
    FnOk P w K mg base CX0 (k + 1) f fd ps (spW K Ts n (runZ N.length F)) := by
  obtain ⟨oc, od, dV, kV, doc, pm, an, ct, osl, rfl, lk, hcd⟩ := D.ex
  refine fn_of lk hcd S (fun vs H Q E h => h.1.trans hn.symm) fun A outer s H vs Q E hr hsp => ?_
  refine ⟨_, (hbody A outer s H E hr).nox, ?_⟩
  obtain ⟨hl, a, vs', O, ds, rw', ws, Qd, e1, e2, e3, e4, e5, e6, e7, e8, hF, kk⟩ := hsp
  have rp := wrep_start (N := N) hl (by omega) e1 e2 e3 e4 e6 e7 e8
  have hs : (L2.start N vs)[0]? = some (some (V.ref a)) := by rw [e1]; exact start_get rfl
  refine ⟨fun b => if b = a then none else H b, O, _, _, _, a, rp, hs, hF rw' e5, fun _ _ _ h => h.elim, fun d en' v σ' H' ⟨⟨rw2, h1, h2⟩, h3⟩ r' s' x' q => ?_⟩
  obtain ⟨a', ws2, s1, s2, s3, s4, s5⟩ := r'.own 0 rw2 h2
  rw [s'] at s1
  cases s1
  exact kk d v H' rw2 ws2 h3 h1 s4 s5 x' r'.tabs q
end
abbrev rw_ (k : Int) : En → Option PyData := fIx (fOwn 0) (fLit (.int k))
abbrev li (k : Int) : En → Option PyData := fLit (.int k)
def F_taken : ZF := zSeq (zIf (fT (fGt (rw_ 3) (li 0))) (zSeq (zSet 2 (fMod (fInt (rw_ 3)) (fVar 1))) (zSeq (zRow 0 3 (fDiv (rw_ 3) (fVar 1))) (zRet (fVar 2)))) zNil)
  (zSeq (zRow 0 1 (fPlus (rw_ 1) (li 1)))
  (zSeq (zIf (fT (fGt (rw_ 1) (fLen (rw_ 0)))) (zSeq (zRow 0 2 (fMod (fInt (fPlus (fMul (rw_ 2) (li 48271)) (li 11))) (li 2147483647))) (zRet (fMod (fInt (fDiv (rw_ 2) (li 7))) (fVar 1)))) zNil)
  (zSeq (zSet 3 (fIx (rw_ 0) (fSub (rw_ 1) (li 1))))
  (zSeq (zRow 0 2 (fMod (fInt (fPlus (fPlus (fMul (rw_ 2) (li 48271)) (fVar 3)) (li 11))) (li 2147483647)))
  (zSeq (zIf (fT (fGe (fVar 3) (fPow (li 10) (li 18)))) (zRow 0 3 (fDiv (fVar 3) (fVar 1))) zNil)
  (zRet (fMod (fInt (fVar 3)) (fVar 1))))))))
def cTaken : List PyData → (PyData → Prop) → Prop := fun ds Q => ∃ m : Int, ds = [.int m] ∧ 0 < m ∧ m ≤ 1000000 ∧ ∀ r, 0 ≤ r → r < m → Q (.int r)
theorem rowOk {ns : List Int} {i m c : Int} (h1 : ns.length ≤ 63) (h2 : 0 ≤ i) (h3 : 0 ≤ m) (h4 : m < 2147483647) (h5 : 0 ≤ c) : RowOk [.list (ns.map .int), .int i, .int m, .int c] := ⟨ns, i, m, c, rfl, h1, h2, h3, h4, h5⟩
theorem modA {f g : En → Option PyData} {en : En} {a b : Int} (h1 : f en = some (.int a)) (h2 : g en = some (.int b)) (hb : 0 < b) : fMod f g en = some (.int (a % b)) := by
  unfold fMod f2
  rw [h1, h2]
  show (if cMod a b = true then _ else _) = _
  rw [if_pos (by unfold cMod; exact decide_eq_true (by omega))]
  show some (PyData.int (a.fmod b)) = _
  rw [Int.fmod_eq_emod_of_nonneg _ (by omega)]
theorem divA {f g : En → Option PyData} {en : En} {a b : Int} (h1 : f en = some (.int a)) (h2 : g en = some (.int b)) (hb : 0 < b) (hl : b.natAbs.log2 < 9000) : fDiv f g en = some (.int (a / b)) := by
  unfold fDiv f2
  rw [h1, h2]
  show (if cDiv a b = true then _ else _) = _
  rw [if_pos (by unfold cDiv; exact decide_eq_true ⟨hb, hl⟩)]
theorem mulA {f g : En → Option PyData} {en : En} {a b : Int} (h1 : f en = some (.int a)) (h2 : g en = some (.int b)) (hl : a.natAbs.log2 + b.natAbs.log2 < 1000000) : fMul f g en = some (.int (a * b)) := by
  unfold fMul f2
  rw [h1, h2]
  show (if cMul a b = true then _ else _) = _
  rw [if_pos (by unfold cMul; exact decide_eq_true hl)]
theorem intA {f : En → Option PyData} {en : En} {a : Int} (h1 : f en = some (.int a)) : fInt f en = some (.int a) := by
  unfold fInt f1
  rw [h1]
  rfl
theorem plusA {f g : En → Option PyData} {en : En} {a b : Int} (h1 : f en = some (.int a)) (h2 : g en = some (.int b)) : fPlus f g en = some (.int (a + b)) := by
  unfold fPlus f2
  rw [h1, h2]
  rfl
theorem subA {f g : En → Option PyData} {en : En} {a b : Int} (h1 : f en = some (.int a)) (h2 : g en = some (.int b)) : fSub f g en = some (.int (a - b)) := by
  unfold fSub f2
  rw [h1, h2]
  rfl
theorem log2_le {a : Int} {k : Nat} (h : a.natAbs < 2 ^ k) (hk : 0 < k) : a.natAbs.log2 < k := by
  by_cases h0 : a.natAbs = 0
  · rw [h0]; simpa using hk
  · exact (Nat.log2_lt h0).mpr h
theorem taken_ok : ∀ ds Q, cTaken ds Q → runZ 4 F_taken ds Q := by
  rintro ds Q ⟨m, rfl, h0, h1, hq⟩ rw ⟨ns, i, mm, c, rfl, hn, hi, hm0, hm1, hc⟩
  have lm : m.natAbs.log2 < 9000 := Nat.lt_of_lt_of_le (log2_le (k := 20) (by omega) (by decide)) (by decide)
  refine ⟨decide (0 < c), rfl, ?_⟩
  by_cases hcp : 0 < c
  · rw [if_pos (by simpa using hcp)]
    refine ⟨_, _, modA (intA (a := c) rfl) (b := m) rfl h0, rfl, ?_⟩
    refine ⟨_, _, divA (a := c) rfl (b := m) rfl h0 lm, rfl, by simp, ?_⟩
    exact ⟨_, rfl, ⟨_, rowOk hn hi hm0 hm1 (Int.ediv_nonneg hc (by omega)), rfl⟩, hq _ (Int.emod_nonneg _ (by omega)) (Int.emod_lt_of_pos _ h0)⟩
  · rw [if_neg (by simpa using hcp)]
    refine ⟨_, _, rfl, rfl, by simp, ?_⟩
    refine ⟨decide ((ns.map PyData.int).length < i + 1), rfl, ?_⟩
    have lmm : mm.natAbs.log2 + (48271 : Int).natAbs.log2 < 1000000 := by
      have := log2_le (a := mm) (k := 31) (by omega) (by decide)
      have h2 : (48271 : Int).natAbs.log2 = 15 := by decide
      omega
    by_cases hl : ((ns.map PyData.int).length : Int) < i + 1
    · rw [if_pos (by simpa using hl)]
      refine ⟨_, _, modA (intA (plusA (mulA (a := mm) rfl (b := 48271) rfl lmm) (b := 11) rfl)) (b := 2147483647) rfl (by decide), rfl, by simp, ?_⟩
      refine ⟨_, modA (intA (divA rfl (b := 7) rfl (by decide) (by decide))) (b := m) rfl h0, ⟨_, rowOk hn (i := i + 1) (by omega) (Int.emod_nonneg _ (by decide)) (Int.emod_lt_of_pos _ (by decide)) hc, rfl⟩, hq _ (Int.emod_nonneg _ (by omega)) (Int.emod_lt_of_pos _ h0)⟩
    · rw [if_neg (by simpa using hl)]
      rw [List.length_map] at hl
      have hi2 : i.toNat < ns.length := by omega
      have hcell : fIx (rw_ 0) (fSub (rw_ 1) (li 1)) [Slot.own [.list (ns.map .int), .int (i + 1), .int mm, .int c], Slot.dat (.int m), Slot.no, Slot.no] = some (.int ns[i.toNat]) := by
        show ((fIx (rw_ 0) (fSub (rw_ 1) (li 1))) _) = _
        unfold fIx f2
        rw [subA (a := i + 1) (f := rw_ 1) rfl (b := 1) rfl]
        show (some (PyData.list (ns.map .int))).bind _ = _
        show atI (ns.map PyData.int) (i + 1 - 1) = _
        have e1 : i + 1 - 1 = (i.toNat : Int) := by omega
        rw [e1]
        unfold atI
        rw [ixN_at (by rw [List.length_map]; exact hi2)]
        show (ns.map PyData.int)[i.toNat]? = _
        rw [List.getElem?_map, List.getElem?_eq_getElem hi2]
        rfl
      refine ⟨_, _, hcell, rfl, ?_⟩
      refine ⟨_, _, modA (intA (plusA (plusA (mulA (a := mm) rfl (b := 48271) rfl lmm) (b := ns[i.toNat]) rfl) (b := 11) rfl)) (b := 2147483647) rfl (by decide), rfl, by simp, ?_⟩
      refine ⟨decide ((10 : Int) ^ 18 ≤ ns[i.toNat]), rfl, ?_⟩
      have hm2 : 0 ≤ (mm * 48271 + ns[i.toNat] + 11) % 2147483647 := Int.emod_nonneg _ (by decide)
      have hm3 : (mm * 48271 + ns[i.toNat] + 11) % 2147483647 < 2147483647 := Int.emod_lt_of_pos _ (by decide)
      by_cases hg : (10 : Int) ^ 18 ≤ ns[i.toNat]
      · rw [if_pos (by simpa using hg)]
        refine ⟨_, _, divA (a := ns[i.toNat]) rfl (b := m) rfl h0 lm, rfl, by simp, ?_⟩
        refine ⟨_, modA (intA (a := ns[i.toNat]) rfl) (b := m) rfl h0, ⟨_, rowOk hn (i := i + 1) (by omega) hm2 hm3 (Int.ediv_nonneg (by omega) (by omega)), rfl⟩, hq _ (Int.emod_nonneg _ (by omega)) (Int.emod_lt_of_pos _ h0)⟩
      · rw [if_neg (by simpa using hg)]
        refine ⟨_, modA (intA (a := ns[i.toNat]) rfl) (b := m) rfl h0, ⟨_, rowOk hn (i := i + 1) (by omega) hm2 hm3 hc, rfl⟩, hq _ (Int.emod_nonneg _ (by omega)) (Int.emod_lt_of_pos _ h0)⟩
section
variable {X : Cx} {Ts : TsT} {ρ : Nat} {pos : Pos} {e e2 : Expr} {F G : WF}
theorem op2_ix : Op2 X.K Ts (rIx X.K) gIx := fun x y v w d H O Q hg q1 q2 ht occ kk => by
  unfold gIx at hg
  cases q2 <;> try cases hg
  rename_i i
  obtain ⟨ds, h4, h5⟩ := Option.bind_eq_some_iff.mp hg
  cases x <;> simp only [items] at h4 <;> cases h4
  · cases q1 with
    | lst s a =>
      obtain ⟨u, h6, h7⟩ := atI_dp a h5
      exact .inl ⟨_, _, i, u, rfl, rfl, sqL_mono (fun o n e => (hide_some e).2) s, h6, kk u H (Xt.refl H) ht h7⟩
  · cases q1 with
    | tup s a =>
      obtain ⟨u, h6, h7⟩ := atI_dp a h5
      exact .inr (.inl ⟨_, _, i, u, rfl, rfl, sqT_mono (fun o n e => (hide_some e).2) s, h6, kk u H (Xt.refl H) ht h7⟩)
theorem we_ix (ha : WE X Ts ρ e F) (hb : WE X Ts ρ e2 G) (hs : PlainIx e2 := by exact fun _ _ => rfl) : WE X Ts ρ (.Subscript e e2 pos) (w2 gIx F G) := PE.imp (pe_ix ix_seq ha hb hs) (ww_2 op2_ix)
end
def F_pick (c : List PyData → (PyData → Prop) → Prop) : WF := w2 gIx (wP 0 (fVar 1)) (wDraw 1 c (wCons (wP 0 (fLen (fVar 1))) wNil))
def cPick : List PyData → (PyData → Prop) → Prop := fun ds Q => ∃ es, ds = [.list es] ∧ 0 < es.length ∧ es.length ≤ 64 ∧ ∀ d ∈ es, Q d
theorem pick_ok : ∀ ds Q, cPick ds Q → runW 2 (F_pick cTaken) ds Q := by
  rintro ds Q ⟨es, rfl, h0, h1, hq⟩
  refine ⟨.list es, fun rw => rfl, ?_⟩
  refine ⟨.int es.length, fun rw => rfl, rfl, (es.length : Int), rfl, by omega, by omega, fun r hr0 hr1 => ?_⟩
  obtain ⟨k, rfl⟩ : ∃ k : Nat, r = (k : Int) := ⟨r.toNat, by omega⟩
  have hi : k < es.length := by omega
  refine ⟨es[k], ?_, hq _ (List.getElem_mem hi)⟩
  show atI es k = _
  unfold atI
  rw [ixN_at hi]
  exact List.getElem?_eq_getElem hi
def Flows (ns : List Int) : Prop := ∀ n ∈ ns, 0 ≤ n ∧ n ≤ 1000
theorem tup_once (l : Addr) (items : Array Value) (n : Nat) (dd : Option Addr) (sl : Array (Option Value)) (x : Int) (u : Tok) (c0 : (decide (x < -(2 ^ 63)) || decide (x ≥ 2 ^ 63)) = false) (c1 : (items.isEmpty || x == 1) = true) :
    Meets (Builtin.«tuple.__mul__» ⟨[.ref l, .int x u], []⟩) (fun _ R s => s.heap.get? l = some { cls := .type "tuple", dict := dd, data := .seq items n, slots := sl } ∧ R (.ok (.ret (Value.ref l))) s) :=
  .of_wp fun prog w A R s h => by
    obtain ⟨hp, g, d, tk, os⟩ := s
    obtain ⟨hl, h⟩ := h
    have f1 := AutoSeq1.idx_int
    wp_walk using wpAny_loadPart' hl
    repeat (first
      | (refine wpAny_ite_false (decide_eq_false (by rw [c0]; exact Bool.false_ne_true)) ?_; wp_walk using wpAny_loadPart' hl)
      | (refine wpAny_ite_true (decide_eq_true (by rw [c1])) ?_; wp_walk using wpAny_loadPart' hl))
    all_goals first | exact ⟨_, rfl, h⟩ | trace_state
def rRepO (K : PySem.W.Frag) : R2 := fun x y H Q => ∃ l xs, x = .ref l ∧ y = .int 1 ∧ SqT K H l xs ∧ Q (.ref l) H
section
variable {X : Cx}
theorem op_repO : OpR X (binaryOp .Mult) (rRepO X.K) := by
  intro pins s σ H x y v u Q I rx ry h
  obtain ⟨l, xs, rfl, rfl, hT, q⟩ := h
  cases rx
  obtain ⟨t, rfl⟩ := ry
  obtain ⟨its, r, ⟨⟨cls, dd, data, sl⟩, ho, hc, n, hd⟩, hs⟩ := I.tuple hT
  simp only at hc hd
  subst hc hd
  refine wpAny_binaryOp_repeat_ref (T := "tuple") (U := "int") (by decide) ⟨_, ho, rfl⟩ (fun s' => typeIs_int s' 1 t) noFill_tuple_mul F.fills_int_mul F.slot_int_rmul repeat_tuple F.slot_int_index.lookup
    (call_meets F.slot_int_rmul (typeIs_int s 1 t) F.entry_int_rmul (F.args_int_rmul_2 _ _) (int_rmul_tuple 1 t l its.toArray n dd sl)
      ⟨ho, rfl, ⟨_, ho, rfl⟩, call_meets F.slot_tuple_mul ⟨_, ho, rfl⟩ F.entry_tuple_mul (F.args_tuple_mul_2 _ _) (tup_once l its.toArray n dd sl 1 t (by decide) (by simp)) ⟨ho, ?_⟩⟩)
  exact ⟨.ref l, H, I, rfl, q⟩
end
def gRep : PyData → PyData → Option PyData
  | .tuple ds, .int k => if ds ≠ [] ∧ 1 ≤ k ∧ k ≤ 1000 ∧ ds.length ≤ 1000 then some (.tuple (List.replicate k.toNat ds).flatten) else none
  | _, _ => none
theorem DpAll.rep {K : PySem.W.Frag} {H : Hp} {vs : List V} {ds : List PyData} (h : DpAll K H vs ds) : ∀ n : Nat, DpAll K H (List.replicate n vs).flatten (List.replicate n ds).flatten
  | 0 => .nil
  | n + 1 => DpAll.app h (DpAll.rep h n)
section
variable {X : Cx} {Ts : TsT} {pos p : Pos} {a b e : Expr} {fa fb : En → Option PyData}
def gTimes : PyData → PyData → Option PyData
  | .int i, .int j => if cMul i j = true then some (.int (i * j)) else none
  | .tuple ds, .int k => gRep (.tuple ds) (.int k)
  | _, _ => none
def fTimes := f2 gTimes
theorem d_times (ha : DE X Ts a fa) (hb : DE X Ts b fb) : DE X Ts (.BinOp a .Mult b pos) (fTimes fa fb) :=
  PE.imp (pe_op (op_mulW.or (op_repT.or op_repO)) ha hb) (w_2 fun x y v w d H O Q hg q1 q2 ht occ kk => by
    cases x <;> cases y <;> simp only [gTimes, gRep] at hg <;> try cases hg
    · rename_i i j
      split at hg
      · rename_i hc
        cases hg
        cases q1
        cases q2
        exact .inl ⟨_, _, rfl, rfl, show CMulW i j from @of_decide_eq_true (i.natAbs.log2 + j.natAbs.log2 < 1000000) _ hc, kk _ H (Xt.refl H) ht (.int _)⟩
      · cases hg
    · rename_i ds k
      split at hg
      · rename_i hc
        obtain ⟨c1, c2, c3, c4⟩ := hc
        cases hg
        cases q2
        cases q1 with
        | tup s q =>
          have hl := DpAll.len q
          by_cases hk : k = 1
          · subst hk
            refine .inr (.inr ⟨_, _, rfl, rfl, sqT_mono (fun o n e => (hide_some e).2) s, kk _ H (Xt.refl H) ht ?_⟩)
            have e1 : (List.replicate (1 : Int).toNat ds).flatten = ds := by simp
            rw [e1]
            exact .tup s q
          · refine .inr (.inl ⟨_, _, _, rfl, rfl, sqT_mono (fun o n e => (hide_some e).2) s, fun z => c1 (by subst z; cases q; rfl), by omega, c3, by omega, fun p np => kk _ _ (Xt.upd np) (ht.new np) (tup_new np (fun z => occ p z np) (DpAll.rep q _))⟩)
      · cases hg)
theorem bName_set {i : Nat} {d : PyData} {en e1 : En} (h : bName i d en = some e1) : i < en.length ∧ e1 = en.set i (.dat d) := by
  unfold bName at h
  split at h
  · cases h; exact ⟨by assumption, rfl⟩
  · cases h
theorem d_isi2 {T U : String} {x y : Str} {q q' : PyData → Bool} {f : En → Option PyData} {px py pt : Pos} {kt : Nat} (hq : ∀ d, kitB (pyTy d) T = some (q d)) (hq' : ∀ d, kitB (pyTy d) U = some (q' d)) (hg : Gl X "isinstance") (hm : X.mg "isinstance" = none) (hv : bootBuiltins "isinstance" = some (.builtin "isinstance"))
    (hgT : Gl X x) (hmT : X.mg x = none) (hvT : bootBuiltins x = some (.type T)) (hgU : Gl X y) (hmU : X.mg y = none) (hvU : bootBuiltins y = some (.type U)) (ha : DE X Ts e f) (hnT : x ≠ "__name__" := by decide) (hdT : (x == ("__debug__" : Str)) = false := by decide) (hnU : y ≠ "__name__" := by decide) (hdU : (y == ("__debug__" : Str)) = false := by decide)
    (he : starEach [e, .Tuple [.Name x px, .Name y py] kt pt] X.env = (false, eval e X.env) :: starEach [.Tuple [.Name x px, .Name y py] kt pt] X.env := by rfl) (he2 : starEach [.Tuple [.Name x px, .Name y py] kt pt] X.env = (false, eval (.Tuple [.Name x px, .Name y py] kt pt) X.env) :: starEach [] X.env := by rfl)
    (ht1 : starEach [.Name x px, .Name y py] X.env = (false, eval (.Name x px) X.env) :: starEach [.Name y py] X.env := by rfl) (ht2 : starEach [.Name y py] X.env = (false, eval (.Name y py) X.env) :: starEach [] X.env := by rfl) (hpl : (backTo pos (starEach [.Tuple [.Name x px, .Name y py] kt pt] X.env)).any (·.1) = false := by rfl) :
    DE X Ts (.Call (.Name "isinstance" p) [e, .Tuple [.Name x px, .Name y py] kt pt] [] pos) (fIsi (fun d => q d || q' d) f) :=
  PE.imp (pe_callB (t := tCons (tD X.K Ts f) (tCons (tTup (tCons (tC (.ty T)) (tCons (tC (.ty U)) tNil))) tNil)) call_isiT hg hm hv (pa_cons ha (pa_cons (pe_tup (pa_cons (pe_bltn (v := .ty T) hgT hmT hvT rfl hnT hdT) (pa_cons (pe_bltn (v := .ty U) hgU hmU hvU rfl hnU hdU) pa_nil ht2) ht1)) pa_nil he2) he) (by decide) (by decide) he hpl) fun σ H Q ⟨He, O, en, d, rp, hf, kk⟩ => by
    obtain ⟨z, h1, h2⟩ := f1_some hf
    cases h2
    refine tD.of rp h1 fun v H1 x1 r1 q1 => ⟨small64 (by simp), fun tp np => ?_⟩
    refine ⟨v, tp, [.ty T, .ty U], _, [.type T, .type U], q z || q' z, rfl, upd_same, .cons (.ty T) (.cons (.ty U) .nil), tyX_of (Dp.mono (Xt.upd np) (Dp.mono hide_out q1)), kitAny_cons (kit_ty (hq z)) (fun e => ?_) (fun e => by rw [e]; rfl), kk _ _ (x1.trans (Xt.upd np)) (r1.tabs.new np) (.bl _)⟩
    refine kitAny_cons (kit_ty (hq' z)) (fun e2 => ?_) (fun e2 => by rw [e2, Bool.or_true])
    rw [e, e2]
    exact kitAny_nil
theorem ss_never {sts : List Stmt} : DSs X Ts sts sNever := ⟨fun _ _ _ _ _ _ ⟨_, _, _, _, _, _, hf, _⟩ => by cases hf⟩
end
def gRepL : PyData → PyData → Option PyData
  | .list ds, .int k => if -1000000 ≤ k ∧ k ≤ 1000 ∧ ds.length ≤ 1000 then some (.list (List.replicate k.toNat ds).flatten) else none
  | _, _ => none
def fRepL := f2 gRepL
abbrev LF := En → (Fl → Prop) → Prop
def lNil : LF := fun en Q => Q (.nx en)
def lSeq (F G : LF) : LF := fun en Q => F en fun r => match r with
  | .nx e => G e Q
  | r => Q r
def lSet (i : Nat) (F : WF) : LF := fun en Q => F en fun d => ∃ e1, bName i d en = some e1 ∧ Q (.nx e1)
def lIf (t : En → (Bool → Prop) → Prop) (F G : LF) : LF := fun en Q => t en fun b => if b = true then F en Q else G en Q
def lEnd (ρ : Nat) (G : En → Option Fl) : LF := fun en Q => ∀ rw, RowOk rw → ∃ b, G (en.set ρ (.own rw)) = some (.rt (.bool b)) ∧ Q (.rt (.bool b))
section
variable {X : Cx} {Ts : TsT} {ρ : Nat} {pos : Pos} {st : Stmt} {rest : List Stmt} {F G : LF} {e a b : Expr} {f g : WF}
theorem WRep.setD {K : PySem.W.Frag} {He : Hp} {O : List Addr} {σ : St} {H : Hp} {en e1 : En} {i : Nat} {v : V} {d : PyData} (r : WRep K Ts ρ He O σ H en) (hi : i ≠ ρ) (hb : bName i d en = some e1) (q : Dp K (hide H O) v d) : WRep K Ts ρ He O (σ.set i (some v)) H e1 := by
  obtain ⟨b1, rfl⟩ := bName_set hb
  obtain ⟨hl, rw, hr, rp⟩ := r
  refine ⟨by simpa using hl, rw, hr, ?_⟩
  rw [List.set_comm _ _ hi]
  exact rp.setD (by simpa using b1) q
def lBind (b : PyData → En → Option En) (F : WF) : LF := fun en Q => F en fun d => ∃ e1, b d en = some e1 ∧ Q (.nx e1)
end
section
variable {P : Program} {w : World} {K : PySem.W.Frag} {mg : Str → Option Value} {base : Heap} {Ts : TsT}
def spLaw (K : PySem.W.Frag) (Ts : TsT) : Sp := fun vs H Q _ => ∃ (a : Addr) (ns : List Int), vs = [.ref a] ∧ SqL K H a (ns.map V.int) ∧ ns.length ≤ 63 ∧ Tb Ts H ∧ ∀ H', Q (.bl true) H'
def lawEn (n : Nat) (ns : List Int) : En := Slot.dat (.list (ns.map .int)) :: List.replicate (n - 1) Slot.no
end
def SqB (K : PySem.W.Frag) (b : Bool) (H : Hp) (a : Addr) (xs : List V) : Prop := match b with | true => SqL K H a xs | false => SqT K H a xs
def ItB (b : Bool) (h : Heap) (i a : Addr) (k : Nat) : Prop := match b with | true => h.IsListIter i a k | false => h.IsTupleIter i a k
def IsB (b : Bool) (h : Heap) (a : Addr) (its : Array Value) : Prop := match b with | true => h.IsList a its | false => h.IsTuple a its
def obB (b : Bool) (a : Addr) : Obj := match b with | true => { cls := .type "list_iterator", data := .fields #[.ref a, .int 0 0] } | false => { cls := .type "tuple_iterator", data := .fields #[.ref a, .int 0 0] }
theorem ItB.at {b : Bool} {h h' : Heap} {i a : Addr} {k : Nat} (x : ItB b h i a k) (hk : ∀ o, h.get? i = some o → h'.get? i = some o) : ItB b h' i a k := by
  cases b with
  | true => exact Heap.IsListIter.at (h := h) x hk
  | false => exact Heap.IsTupleIter.at (h := h) x hk
theorem ItB.obj {b : Bool} {h : Heap} {i a : Addr} {k : Nat} (x : ItB b h i a k) : ∃ o, h.get? i = some o ∧ ∀ v, o.data ≠ .cell v := by
  cases b with
  | true => obtain ⟨o, e, _, d⟩ := x; exact ⟨o, e, fun v q => by rw [d] at q; cases q⟩
  | false => obtain ⟨o, e, _, d⟩ := x; exact ⟨o, e, fun v q => by rw [d] at q; cases q⟩
theorem SqB.inv {X : Cx} {pins : List (Addr × Obj)} {σ : L2.St} {H : Hp} {s : Shared} (I : Inv X pins σ H s) {b : Bool} {a : Addr} {xs : List V} (q : SqB X.K b H a xs) : ∃ its, Vals xs its ∧ IsB b s.heap a its.toArray ∧ a < s.heap.objs.size := by
  cases b with
  | true =>
    obtain ⟨its, rv, p, _⟩ := I.list q
    exact ⟨its, rv, p.isList, p.lt⟩
  | false =>
    obtain ⟨its, rv, p, _⟩ := I.tuple q
    obtain ⟨o, ho, _⟩ := id p
    exact ⟨its, rv, p, Heap.lt_size ho⟩
theorem SqB.inj {X : Cx} {pins : List (Addr × Obj)} {σ : L2.St} {H : Hp} {s : Shared} (I : Inv X pins σ H s) {b : Bool} {a : Addr} {xs ys : List V} (q : SqB X.K b H a xs) (r : SqB X.K b H a ys) : xs = ys := by
  cases b with
  | true => exact I.list_inj q r
  | false => exact I.tuple_inj q r
theorem SqB.mono {K : PySem.W.Frag} {b : Bool} {H H' : Hp} {a : Addr} {xs : List V} (h : ∀ o, (∀ ps, o ≠ .tbl ps) → H a = some o → H' a = some o) (q : SqB K b H a xs) : SqB K b H' a xs := by
  cases b with
  | true => exact sqL_mono (fun o n e => h o n e) q
  | false => exact sqT_mono (fun o n e => h o n e) q
theorem ItB.start {b : Bool} {h : Heap} {i a : Addr} (e : h.get? i = some (obB b a)) : ItB b h i a 0 := by
  cases b with
  | true => exact ⟨_, e, rfl, rfl⟩
  | false => exact ⟨_, e, rfl, rfl⟩
def pairs : List PyData → List PyData → List PyData
  | x :: xs, y :: ys => .tuple [x, y] :: pairs xs ys
  | _, _ => []
section
variable {X : Cx} {Ts : TsT} {pos p tpos : Pos} {e e2 : Expr} {f g : En → Option PyData} {elts : List Expr} {kk : Nat}
theorem d_gcd {x : Str} (hg : Gl X x) (hm : X.mg x = some (.builtin "math.gcd")) (ha : DE X Ts e f) (hb : DE X Ts e2 g) (hdb : (x == ("__debug__" : Str)) = false := by decide)
    (hs : starEach [e, e2] X.env = (false, eval e X.env) :: starEach [e2] X.env := by rfl) (hs2 : starEach [e2] X.env = (false, eval e2 X.env) :: starEach [] X.env := by rfl) (hpl : (backTo pos (starEach [e2] X.env)).any (·.1) = false := by rfl) :
    DE X Ts (.Call (.Name x p) [e, e2] [] pos) (fGcd f g) :=
  PE.imp (pe_callBfun cr_gcd hg hm (pa_cons ha (pa_cons hb pa_nil hs2) hs) hdb hs hpl) fun σ H Q ⟨He, O, en, d, rp, hf, kk⟩ => by
    unfold fGcd at hf
    obtain ⟨x, y, h1, h2, h3⟩ := f2_some hf
    refine tD.of rp h1 fun v H1 x1 r1 q1 => tD.of r1 h2 fun w H2 x2 r2 q2 => ?_
    cases x <;> cases y <;> simp only [gI] at h3 <;> try cases h3
    cases q1
    cases q2
    exact ⟨_, _, rfl, kk _ H2 (x1.trans x2) r2.tabs (.int _)⟩
end
def RepV (K : PySem.W.Frag) (Ts : TsT) (ρ : Nat) (a : Addr) (He : Hp) (O₀ : List Addr) (Vz : Hp) (σ : St) (H : Hp) (en : En) : Prop :=
  ∃ O, (∀ b ∈ O₀, b ∈ O ∧ (b = a ∨ He b ≠ none)) ∧ WRep K Ts ρ He O σ H en ∧ σ[ρ]? = some (some (V.ref a)) ∧ Xt Vz (hide H O)
def tV (K : PySem.W.Frag) (Ts : TsT) (ρ : Nat) (fin : Bool) (F : LF) : TS := fun D σ H => ∃ a He O₀ Vz en Q, RepV K Ts ρ a He O₀ Vz σ H en ∧ F en Q ∧
  (∀ en' σ' H', Q (.nx en') → RepV K Ts ρ a He O₀ Vz σ' H' en' → D.nx σ' H') ∧
  ((∀ d v en' σ' H', Q (.rt d) → RepV K Ts ρ a He O₀ Vz σ' H' en' → Dp K (hide H' O₀) v d → D.rt v H') ∧ (fin = true → ∀ b H', Q (.rt (.bool b)) → D.rt (.bl b) H'))
abbrev VS (X : Cx) (Ts : TsT) (ρ : Nat) (fin : Bool) (st : Stmt) (F : LF) : Prop := PS X st (tV X.K Ts ρ fin F)
abbrev VSs (X : Cx) (Ts : TsT) (ρ : Nat) (fin : Bool) (st : List Stmt) (F : LF) : Prop := PSs X st (tV X.K Ts ρ fin F)
def lRetV (F : WF) : LF := fun en Q => F en fun d => Q (.rt d)
section
variable {X : Cx} {Ts : TsT} {ρ : Nat} {fin : Bool} {pos : Pos} {st : Stmt} {rest : List Stmt} {F G : LF} {e a b : Expr} {f g : WF}
theorem v_nil : VSs X Ts ρ fin [] lNil := PSs.imp pss_nil fun D σ H ⟨a, He, O₀, Vz, en, Q, rp, hF, k, _⟩ => k en σ H hF rp
theorem v_cons (h1 : VS X Ts ρ fin st F) (h2 : VSs X Ts ρ fin rest G) : VSs X Ts ρ fin (st :: rest) (lSeq F G) := PSs.imp (pss_cons h1 h2) fun D σ H ⟨a, He, O₀, Vz, en, Q, rp, hF, k, l⟩ =>
  ⟨a, He, O₀, Vz, en, _, rp, hF, fun e1 σ1 H1 hq r1 => ⟨a, He, O₀, Vz, e1, Q, r1, hq, k, l⟩, ⟨fun d v en' σ' H' hq => l.1 d v en' σ' H' hq, fun hf b H' hq => l.2 hf b H' hq⟩⟩
theorem v_one (h1 : VS X Ts ρ fin st F) : VSs X Ts ρ fin [st] F := pss_one h1
theorem v_set {i : Nat} {x : Str} {pos' : Pos} (hN : X.N.Nodup) (hi : X.N[i]? = some x) (hx : Loc X.env.scope x) (hρ : i ≠ ρ) (he : WE X Ts ρ e f) (hs : swapsWith e (some (.Name x pos')) pos.line X.env = pure false := by rfl) (hf : X.fn x = true ∨ X.env.scope.names.lookup x = some .local := by first | exact .inl rfl | exact .inr rfl | assumption) :
    VS X Ts ρ fin (.Assign [.Name x pos'] e pos) (lSet i f) := PS.imp (ps_set hN hi hx he hs hf) fun D σ H ⟨aa, He, O₀, Vz, en, Q, ⟨O, s1, rp, ha, xv⟩, hF, k, _⟩ =>
  ⟨He, O, en, _, rp, hF, fun d v H' ⟨e1, h1, hq⟩ r' q x => k e1 _ H' hq ⟨O, s1, r'.setD hρ h1 q, by rw [List.getElem?_set_ne hρ]; exact ha, xv.trans x.1⟩⟩
theorem v_bind {tg : Expr} {vs : List Nat} {b : PyData → En → Option En} (he : WE X Ts ρ e f) (hg : DG X Ts tg vs b) (hb : BOk ρ b) (hv : ρ ∉ vs) (hs : swapsWithSole [tg] e pos.line X.env = pure false := by rfl) (hw : swappedStores [tg] e X.env = pure none := by rfl)
    (h1 : (assignEach [tg] X.env).map (·.2) = [assign tg X.env] := by rfl) : VS X Ts ρ fin (.Assign [tg] e pos) (lBind b f) := PS.imp (ps_asg he (wg_of hg hb) hs hw h1) fun D σ H ⟨aa, He, O₀, Vz, en, Q, ⟨O, s1, rp, hA, xv⟩, hF, k, _⟩ =>
  ⟨He, O, en, _, rp, hF, fun d v H1 ⟨e1, h1, hq⟩ r1 q1 x1 => ⟨He, O, en, d, e1, r1, q1, h1, fun σ' r' hw' => k e1 σ' H1 hq ⟨O, s1, r', by rw [← wipe_out (vs := vs) hv, hw', wipe_out hv]; exact hA, xv.trans x1.1⟩⟩⟩
theorem v_if {c : Expr} {a b : List Stmt} {t : En → (Bool → Prop) → Prop} (hc : WT X Ts ρ c t) (ha : VSs X Ts ρ fin a F) (hb : VSs X Ts ρ fin b G) : VS X Ts ρ fin (.If c a b pos) (lIf t F G) := PS.imp (ps_if hc ha hb) fun D σ H ⟨aa, He, O₀, Vz, en, Q, ⟨O, s1, rp, hA, xv⟩, hF, k, l⟩ =>
  ⟨He, O, en, _, rp, hF, fun b H' hq r' x => by
    cases b with
    | true => exact iteT ⟨aa, He, O₀, Vz, en, Q, ⟨O, s1, r', hA, xv.trans x.1⟩, hq, k, l⟩
    | false => exact iteF ⟨aa, He, O₀, Vz, en, Q, ⟨O, s1, r', hA, xv.trans x.1⟩, hq, k, l⟩⟩
theorem v_ret (he : WE X Ts ρ e f) : VS X Ts ρ fin (.Return (some e) pos) (lRetV f) := PS.imp (ps_ret he) fun D σ H ⟨aa, He, O₀, Vz, en, Q, ⟨O, s1, rp, hA, xv⟩, hF, k, l⟩ =>
  ⟨He, O, en, _, rp, hF, fun d v H' hq r' q x => l.1 d v en σ H' hq ⟨O, s1, r', hA, xv.trans x.1⟩ (Dp.mono (hide_sub fun b hb => (s1 b hb).1) q)⟩
end
section
variable {P : Program} {w : World} {K : PySem.W.Frag} {mg : Str → Option Value} {base : Heap} {Ts : TsT}
def runV (n : Nat) (F : LF) : List PyData → (PyData → Prop) → Prop := fun ds Q => F (Slot.no :: (ds.map Slot.dat ++ List.replicate (n - 1 - ds.length) Slot.no)) fun r => ∃ d, r = .rt d ∧ Q d
theorem DF.okV {x qual : Str} {st : Stmt} {f : Addr} {fd : FuncData} {cdv : Value} {N ps : List Str} {k n : Nat} {F : LF} (D : DF K x qual st f fd cdv) (S : FnScope N ps (defScope st)) (hn : ps.length = n + 1) (hN : n + 1 ≤ N.length)
    (hbody : ∀ (A : Around) (outer : List Env) (s : Shared) (H : Hp) (E : XK), Room k (A.deeper (envOfC qual (defScope st) s.heap.objs.size f cdv)) → VSs (cxOf CX0 P w K mg base N qual (defScope st) f cdv A outer s H E).nox Ts 0 false (defBody st) F) :
    FnOk P w K mg base CX0 (k + 1) f fd ps (spW K Ts n (runV N.length F)) := by
  obtain ⟨oc, od, dV, kV, doc, pm, an, ct, osl, rfl, lk, hcd⟩ := D.ex
  refine fn_of lk hcd S (fun vs H Q E h => h.1.trans hn.symm) fun A outer s H vs Q E hr hsp => ?_
  refine ⟨_, (hbody A outer s H E hr).nox, ?_⟩
  obtain ⟨hl, a, vs', O, ds, rw', ws, Qd, e1, e2, e3, e4, e5, e6, e7, e8, hF, kk⟩ := hsp
  have rp := wrep_start (N := N) hl (by omega) e1 e2 e3 e4 e6 e7 e8
  have hs : (L2.start N vs)[0]? = some (some (V.ref a)) := by rw [e1]; exact start_get rfl
  refine ⟨a, fun b => if b = a then none else H b, O, fun _ => none, (Slot.no :: (ds.map Slot.dat ++ List.replicate (N.length - 1 - ds.length) Slot.no)), _, ⟨O, fun b z => ⟨z, by by_cases q : b = a; exact .inl q; exact .inr (by show (if b = a then none else H b) ≠ none; rw [if_neg q]; exact (e8 b z).1)⟩, ⟨by simp, rw', e5, rp⟩, hs, fun _ _ z => (nomatch z)⟩, hF, fun en' σ' H' hq _ => ?_, ⟨fun d v en' σ' H' hq r' q => ?_, fun z => nomatch z⟩⟩
  · obtain ⟨_, z, _⟩ := hq
    cases z
  · obtain ⟨d', z, hq⟩ := hq
    cases z
    obtain ⟨O', s1, r2, hA, _⟩ := r'
    obtain ⟨hl2, rw2, hr2, rp2⟩ := r2
    obtain ⟨a', ws2, p1, p2, p3, p4, p5⟩ := rp2.own 0 rw2 (by rw [List.getElem?_set_self hl2])
    rw [hA] at p1
    cases p1
    refine kk d v H' rw2 ws2 hq hr2 p4 (DpAll.mono (hide_sub fun b hb => (s1 b hb).1) p5) (fun b o hb e => ?_) rp2.tabs q
    exact rp2.ext b o (by show (if b = a then none else H b) = some o; rw [if_neg hb]; exact e)
theorem v_end {X : Cx} {ρ : Nat} {rest : List Stmt} {G : En → Option Fl} (h : DSs X Ts rest G) : VSs X Ts ρ true rest (lEnd ρ G) := PSs.imp h fun D σ H ⟨a, He, O₀, Vz, en, Q, ⟨O, s1, ⟨hl, rw, hr, rp⟩, hA, xv⟩, hF, k, l⟩ => by
  obtain ⟨b, h1, h2⟩ := hF rw hr
  exact ⟨He, [], fun _ => none, _, _, ⟨O, fun _ z => (nomatch z), fun _ z => (nomatch z), rp, fun _ _ z => (nomatch z)⟩, h1, fun v H' _ _ q => by cases q; exact l.2 rfl b H' h2⟩
theorem DF.okVL {x qual : Str} {st st1 : Stmt} {rest : List Stmt} {f : Addr} {fd : FuncData} {cdv : Value} {N : List Str} {sc : Str} {k ρ : Nat} {f1 : En → Option PyData} {F : LF} (D : DF K x qual st f fd cdv) (S : FnScope N [sc] (defScope st)) (hN : 1 ≤ N.length) (hb : defBody st = st1 :: rest) (hρ : ρ < N.length)
    (h1 : ∀ (A : Around) (outer : List Env) (s : Shared) (H : Hp) (E : XK), Room k (A.deeper (envOfC qual (defScope st) s.heap.objs.size f cdv)) → DS (cxOf CX0 P w K mg base N qual (defScope st) f cdv A outer s H E).nox Ts st1 (sOwn ρ f1))
    (h2 : ∀ (A : Around) (outer : List Env) (s : Shared) (H : Hp) (E : XK), Room k (A.deeper (envOfC qual (defScope st) s.heap.objs.size f cdv)) → VSs (cxOf CX0 P w K mg base N qual (defScope st) f cdv A outer s H E).nox Ts ρ true rest F)
    (hF : ∀ ns : List Int, ns.length ≤ 63 → ∃ rw, RowOk rw ∧ f1 (lawEn N.length ns) = some (.list rw) ∧ ∀ en', (∃ rw', en' = (lawEn N.length ns).set ρ (.own rw')) → F en' fun r => r = .rt (.bool true)) :
    FnOk P w K mg base CX0 (k + 1) f fd [sc] (spLaw K Ts) := by
  obtain ⟨oc, od, dV, kV, doc, pm, an, ct, osl, rfl, lk, hcd⟩ := D.ex
  refine fn_of lk hcd S (fun vs H Q E ⟨a, ns, h, _⟩ => by rw [h]; rfl) fun A outer s H vs Q E hr hsp => ?_
  rw [hb]
  refine ⟨_, (pss_cons (h1 A outer s H E hr) (h2 A outer s H E hr)).nox, ?_⟩
  obtain ⟨a, ns, rfl, hS, hns, ht, kk⟩ := hsp
  obtain ⟨rw, hrw, hf1, hFF⟩ := hF ns hns
  have hlen : (lawEn N.length ns).length = N.length := by simp [lawEn]; omega
  have rp : Rep K Ts H [] (L2.start N [.ref a]) H (lawEn N.length ns) := by
    have noX : ∀ {i : Nat} {x : Slot}, (lawEn N.length ns)[i + 1]? = some x → x = Slot.no := fun {i x} h => by
      unfold lawEn at h
      rw [List.getElem?_cons_succ, List.getElem?_replicate] at h
      split at h <;> cases h
      rfl
    refine ⟨by rw [hlen]; simp [L2.start]; omega, fun i d h => ?_, fun i es h => ?_, fun i j es es' a h => ?_, fun _ z => (nomatch z), Xt.refl H, ht⟩
    · cases i with
      | zero =>
        cases h
        exact ⟨.ref a, start_get rfl, .lst (sqL_mono (fun o n e => hide_of (fun z => nomatch z) e) hS) (DpAll.of_ints ns)⟩
      | succ i => exact absurd (noX h) (fun z => nomatch z)
    · cases i with
      | zero => cases h
      | succ i => exact absurd (noX h) (fun z => nomatch z)
    · cases i with
      | zero => cases h
      | succ i => exact absurd (noX h) (fun z => nomatch z)
  refine ⟨H, [], fun _ => none, lawEn N.length ns, .nx ((lawEn N.length ns).set ρ (.own rw)), ⟨[], fun _ z => (nomatch z), fun _ z => (nomatch z), rp, fun _ _ z => (nomatch z)⟩, ?_, fun σ' H' r' => ?_⟩
  · unfold sOwn
    rw [hf1]
    show (if ρ < (lawEn N.length ns).length then _ else _) = _
    rw [if_pos (by rw [hlen]; exact hρ)]
  · obtain ⟨O, a1, a2, rp', _⟩ := r'
    obtain ⟨aa, vs2, p1, _⟩ := rp'.own ρ rw (by rw [List.getElem?_set_self (by rw [hlen]; exact hρ)])
    refine ⟨aa, H, [], fun _ => none, (lawEn N.length ns).set ρ (.own rw), _, ⟨O, fun _ z => (nomatch z), ⟨by rw [List.length_set, hlen]; exact hρ, rw, hrw, by rw [List.set_set]; exact rp'⟩, p1, fun _ _ z => (nomatch z)⟩, hFF _ ⟨rw, rfl⟩, fun en' σ2 H2 hq => ?_, ⟨fun d v en' σ2 H2 hq _ q => ?_, fun _ b H2 hq => ?_⟩⟩
    · cases hq
    · cases hq
      cases q
      exact kk H2
    · cases hq
      exact kk H2
end
section
variable {ρ n : Nat} {F G : WF}
def MnA (F : En → (List PyData → Prop) → Prop) : Prop := ∀ en Q Q', (∀ d, Q d → Q' d) → F en Q → F en Q'
def McC (c : List PyData → (PyData → Prop) → Prop) : Prop := ∀ ds Q Q', (∀ d, Q d → Q' d) → c ds Q → c ds Q'
theorem mn_p {f : En → Option PyData} : Mn (wP ρ f) := fun en Q Q' h ⟨d, a, b⟩ => ⟨d, a, h _ b⟩
theorem mna_nil : MnA wNil := fun en Q Q' h a => h _ a
theorem mna_cons {Gs : En → (List PyData → Prop) → Prop} (hF : Mn F) (hG : MnA Gs) : MnA (wCons F Gs) := fun en Q Q' h a => hF en _ _ (fun x hx => hG en _ _ (fun xs hxs => h _ hxs) hx) a
theorem mn_draw {c : List PyData → (PyData → Prop) → Prop} {Gs : En → (List PyData → Prop) → Prop} (hc : McC c) (hG : MnA Gs) : Mn (wDraw n c Gs) := fun en Q Q' h a => hG en _ _ (fun ds ⟨h1, h2⟩ => ⟨h1, hc ds _ _ h h2⟩) a
theorem mn_2 {g : PyData → PyData → Option PyData} (hF : Mn F) (hG : Mn G) : Mn (w2 g F G) := fun en Q Q' h a => hF en _ _ (fun x hx => hG en _ _ (fun y ⟨d, h1, h2⟩ => ⟨d, h1, h _ h2⟩) hx) a
theorem mn_lst {Gs : En → (List PyData → Prop) → Prop} (hG : MnA Gs) : Mn (wLst Gs) := fun en Q Q' h a => hG en _ _ (fun ds ⟨h1, h2⟩ => ⟨h1, h _ h2⟩) a
theorem mni_range (hF : Mn F) : MnI (wRange1 F) := fun en Q Q' h a => hF en _ _ (fun d ⟨j, h1, h2, h3, h4⟩ => ⟨j, h1, h2, h3, h _ h4⟩) a
theorem mc_taken : McC cTaken := fun ds Q Q' h ⟨m, h0, h1, h2, h3⟩ => ⟨m, h0, h1, h2, fun r a b => h _ (h3 r a b)⟩
theorem mc_pick : McC cPick := fun ds Q Q' h ⟨es, h0, h1, h2, h3⟩ => ⟨es, h0, h1, h2, fun d hd => h _ (h3 d hd)⟩
inductive All2 {α β : Type} (P : α → β → Prop) : List α → List β → Prop
  | nil : All2 P [] []
  | cons {x : α} {y : β} {xs : List α} {ys : List β} : P x y → All2 P xs ys → All2 P (x :: xs) (y :: ys)
theorem All2.len {α β : Type} {P : α → β → Prop} : ∀ {xs : List α} {ys : List β}, All2 P xs ys → ys.length = xs.length
  | _, _, .nil => rfl
  | _, _, .cons _ t => by rw [List.length_cons, List.length_cons, t.len]
theorem All2.all {α β : Type} {P : α → β → Prop} {R : β → Prop} (h : ∀ x y, P x y → R y) : ∀ {xs : List α} {ys : List β}, All2 P xs ys → ∀ y ∈ ys, R y
  | _, _, .nil => fun _ z => nomatch z
  | _, _, .cons a t => fun y hy => (List.mem_cons.mp hy).elim (fun e => e ▸ h _ _ a) (fun m => t.all h y m)
theorem wlc_all {α β : Type} {b : PyData → En → Option En} {F : WF} {en : En} {ea : α → PyData} {eb : β → PyData} {P : α → β → Prop} (hb : ∀ x, ∃ e1, b (ea x) en = some e1 ∧ ∀ Q : PyData → Prop, (∀ y, P x y → Q (eb y)) → F e1 Q) :
    ∀ (xs : List α) (Q : List PyData → Prop), (∀ ys : List β, All2 P xs ys → Q (ys.map eb)) → wlcGo b wYes F en (xs.map ea) Q
  | [], Q, h => h [] .nil
  | x :: r, Q, h => by
    obtain ⟨e1, h1, h2⟩ := hb x
    refine ⟨e1, h1, ?_⟩
    refine (show (if true = true then F e1 (fun y => wlcGo b wYes F en (r.map ea) fun o => Q (y :: o)) else wlcGo b wYes F en (r.map ea) Q) from ?_)
    rw [if_pos rfl]
    exact h2 _ fun y hy => wlc_all hb r _ fun ys hys => h (y :: ys) (.cons hy hys)
end
section
variable {K : PySem.W.Frag} {x qual : Str} {st : Stmt} {f : Addr} {fd : FuncData}
theorem df_of {dvs : List V} (F : FunD K x qual (defArgs st) (defBody st) (defScope st) dvs [] f fd) : ∃ cdv, DF K x qual st f fd cdv := by
  obtain ⟨oc, od, dV, kV, doc, pm, an, cdv, ct, osl, rfl, lk, hcd, hD, _⟩ := F.ex
  exact ⟨cdv, df_mk lk hcd F.kp⟩
theorem df_gen {dvs : List V} (F : FunD K x qual (defArgs st) (defBody st) (defScope st) dvs [] (He.ga K x) fd) : DF K x qual st (He.ga K x) fd (.ref (He.codeOf K (x, none))) := by
  obtain ⟨oc, od, dV, kV, doc, pm, an, cdv, ct, osl, rfl, lk, hcd, hD, _⟩ := F.ex
  obtain ⟨c, rfl⟩ := He.codeIn_ref hcd
  have e1 : He.codeOf K (x, none) = c := He.codeOf_eq (p := (x, none)) lk rfl
  rw [e1]
  exact df_mk lk hcd F.kp
end
structure TfOk (h : Heap) (K : PySem.W.Frag) (cs : List (Addr × Addr)) : Prop where
  empty : ∀ p ∈ cs, h.get? p.2 = some { cls := .none, data := .fields #[] }
  out : ∀ p ∈ cs, K.lookup p.2 = none
  hd : ∀ p ∈ cs, PySem.W.CodeHd h p.1 p.2
theorem tf_ok {fa : List He.Fa} {fn : List He.DefD} {ts : List He.Tab} {tf : List He.Defn} {ex : PySem.W.Frag → Bool} {w : World} {h : Heap} {K : PySem.W.Frag} (X : K.In h) (c : He.SaysX fa fn ts tf ex w h K) : TfOk h K (tf.map (He.cT K)) :=
  ⟨fun p hp => by obtain ⟨a, ha, rfl⟩ := List.mem_map.mp hp; exact c.empty a ha, fun p hp => by obtain ⟨a, ha, rfl⟩ := List.mem_map.mp hp; exact c.out a ha, fun p hp => by obtain ⟨a, ha, rfl⟩ := List.mem_map.mp hp; exact PySem.W.codeHd_of_K X (c.hd a ha)⟩
theorem end_atL {l : PySem.W.OpenLaw} {w : World} {K : PySem.W.Frag} {h : Heap} {mg : Str → Option Value} {fa : Addr} {k : Nat} {x : Str} {fd : FuncData} {cs : List (Addr × Addr)} (gs : List Addr) (ls : List (Addr × Str)) (hg : ∀ P ∈ gs, ∃ p ∈ cs, p.2 = P) (hl : ∀ P ∈ ls, ∃ p ∈ cs, p.2 = P.1) (hd : ∀ P ∈ ls, P.1 ∉ gs ∧ ∀ Q ∈ ls, Q.1 = P.1 → Q = P) (T : TfOk h K cs)
    (hb : ∀ (s : Shared) (us : List Value), us.length = [x].length → BindsTo s fd ⟨us, []⟩ ([x].zip us))
    (hF : ∀ base : Heap, K.In base → base.Ns mainGlobals mg → (∀ p ∈ cs, LamX.TabB base mg p.1 p.2) → FnOk l.prog w K mg base CX0 k fa fd [x] (spLaw K ⟨gs, ls⟩)) : LamX.LawAtS l w K CX0 k 63 x mg fa h :=
  ⟨fd, cs, spLaw K ⟨gs, ls⟩, T.empty, T.out, T.hd, fun s u => hb s [u] rfl, fun H a ns hl' _ hT hS => ⟨a, ns, rfl, hS, hl', ⟨fun P hP => by
    obtain ⟨p, hp, rfl⟩ := hg P hP
    exact ⟨#[], hT p hp, by simp [TriplesOk]⟩, fun P hP => by
    obtain ⟨p, hp, e⟩ := hl P hP
    exact LamX.TabS.nil (by rw [← e]; exact hT p hp), hd⟩, fun _ => rfl⟩, hF⟩
theorem end_at2 {l : PySem.W.OpenLaw} {w : World} {K : PySem.W.Frag} {h : Heap} {mg : Str → Option Value} {fa : Addr} {k : Nat} {x : Str} {fd : FuncData} {tg tl : List He.Defn} (hd : ∀ P ∈ lsOf K tl, P.1 ∉ (tg.map (He.cT K)).map (·.2) ∧ ∀ Q ∈ lsOf K tl, Q.1 = P.1 → Q = P) (T : TfOk h K ((tg ++ tl).map (He.cT K)))
    (hb : ∀ (s : Shared) (us : List Value), us.length = [x].length → BindsTo s fd ⟨us, []⟩ ([x].zip us))
    (hF : ∀ base : Heap, K.In base → base.Ns mainGlobals mg → (∀ p ∈ (tg ++ tl).map (He.cT K), LamX.TabB base mg p.1 p.2) → FnOk l.prog w K mg base CX0 k fa fd [x] (spLaw K ⟨(tg.map (He.cT K)).map (·.2), lsOf K tl⟩)) : LamX.LawAtS l w K CX0 k 63 x mg fa h :=
  end_atL _ _ (fun P hP => by
    obtain ⟨p, hp, rfl⟩ := List.mem_map.mp hP
    exact ⟨p, by rw [List.map_append]; exact List.mem_append_left _ hp, rfl⟩) (fun P hP => by
    obtain ⟨d, hd, rfl⟩ := List.mem_map.mp hP
    exact ⟨He.cT K d, List.mem_map_of_mem (List.mem_append_right _ hd), rfl⟩) hd T hb hF
end DN
namespace PySem
set_option maxHeartbeats 4000000 in
theorem meets_enumerate_newB1 {v : Value} {o : Obj} {H : Heap → Prop} (B : Begins v o H) :
    Meets (Builtin.«enumerate.__new__» ⟨[.type "enumerate", v], []⟩) (fun _ R s => H s.heap ∧
      R (.ok (.ret (.ref (s.heap.push o).objs.size))) { s with heap := (s.heap.push o).push { cls := .type "enumerate", data := .fields #[.none, .bool false, .ref s.heap.objs.size, rawInt 0, .none, .none] } }) :=
  .of_wp fun prog w A R s h => by
    obtain ⟨hp, g, d, tk, os⟩ := s; obtain ⟨h1, h⟩ := h
    have hsub := sub_enumerate
    have q1 : ∀ {A' : Around} {E : Value → Shared → Prop} {Q : Value → Shared → Prop}, Q (.ref hp.objs.size) ⟨hp.push o, g, d, tk, os⟩ → wpAny (model prog w) A' (pyIter v) Q E ⟨hp, g, d, tk, os⟩ :=
      fun q => B.iter prog w _ _ ⟨hp, g, d, tk, os⟩ _ h1 q
    wp_walk using q1
    refine wpAny_stack_any fun st => wpAny_pure ?_
    split
    · rename_i c _ _ _ _ _
      cases (c == Value.type "enumerate")
      · wp_walk using q1
        exact ⟨_, rfl, h⟩
      · wp_walk using q1
        exact ⟨_, rfl, h⟩
    · wp_walk using q1
      exact ⟨_, rfl, h⟩
section
variable {prog : Program} {w : World} {A : Around} {E : Value → Shared → Prop} {s : Shared}
theorem enum_begins1 {v : Value} {o : Obj} {H : Heap → Prop} {Q : Value → Shared → Prop} (B : Begins v o H) (h1 : H s.heap)
    (h : ∀ h', IsEnum h' (s.heap.objs.size + 1) s.heap.objs.size 0 .none → h'.get? s.heap.objs.size = some o → h'.objs.size = s.heap.objs.size + 2 →
      (∀ b o, s.heap.get? b = some o → h'.get? b = some o) → Q (.ref (s.heap.objs.size + 1)) { s with heap := h' }) :
    wpAny (model prog w) A (call (.type "enumerate") [v]) Q E s := by
  refine callType_new F.called_enumerate (by decide) (F.typeCall_enumerate_1 _) (F.newCall_enumerate_1 _) (fun obj => F.args_object_init_2 obj _) F.entry_enumerate_new
    (meets_enumerate_newB1 B) ⟨h1, ?_⟩
  have hz : (s.heap.push o).objs.size = s.heap.objs.size + 1 := Heap.size_push ..
  show _ ∧ _
  rw [hz]
  have he : IsEnum ((s.heap.push o).push { cls := .type "enumerate", data := .fields #[.none, .bool false, .ref s.heap.objs.size, rawInt 0, .none, .none] }) (s.heap.objs.size + 1) s.heap.objs.size 0 .none := by
    have := Heap.get?_push_size (s.heap.push o) (o := { cls := .type "enumerate", data := .fields #[.none, .bool false, .ref s.heap.objs.size, rawInt 0, .none, .none] }) rfl
    rw [hz] at this; exact this
  refine ⟨⟨_, he, rfl⟩, h _ he (Heap.get?_push_of_some _ (Heap.get?_push_size _ B.free)) (by rw [Heap.size_push, hz]) fun b o x => Heap.get?_push_of_some _ (Heap.get?_push_of_some _ x)⟩
end
end PySem
namespace DN
open PySem PySem.Spec PyProof.Rows L2
def IteT (K : PySem.W.Frag) (a : Addr) : It :=
  ⟨fun i H => ∃ (xs : List V) (x : V), SqT K H a xs ∧ xs[i]? = some x, fun i H v H' => ∃ T x, v = .ref T ∧ H T = none ∧ H' = upd H T (.tup [.int (i : Nat), x]) ∧ ∀ xs, SqT K H a xs → xs[i]? = some x, fun i H => ∃ xs : List V, SqT K H a xs ∧ xs.length = i⟩
theorem turn_enumT {P : Program} {w : World} {K : PySem.W.Frag} {elts : List Expr} {kk : Nat} {tpos : Pos} (a e it : Addr) :
    Turn P w K (.Tuple elts kk tpos) (IteT K a) [e, it] e (fun i h => (∃ old, IsEnum h e it ((i : Nat) : Int) old) ∧ h.IsTupleIter it a i ∧ e ≠ it ∧ e ≠ a ∧ a ≠ it) where
  mem := by simp
  obj := fun i h st b hb => by
    obtain ⟨⟨old, he⟩, ⟨o, ho, hc, hd⟩, _⟩ := st
    have e' : b = e ∨ b = it := by simpa using hb
    rcases e' with z | z
    · rw [z]; exact ⟨_, he, fun v q => nomatch q⟩
    · rw [z]; exact ⟨o, ho, fun v q => by rw [hd] at q; cases q⟩
  keep := fun i h h' st k => let ⟨⟨old, he⟩, hi, hne⟩ := st; ⟨⟨old, k e (by simp) _ he⟩, hi.at fun o q => k it (by simp) o q, hne⟩
  item := by
    intro X hP hw hK hc i pins s σ H E I hf st hg
    subst hP hw hK
    obtain ⟨⟨old, he⟩, hit, hne, hea, hai⟩ := st
    obtain ⟨xs, x, hq, hx⟩ := hg
    obtain ⟨its, rv, p, hz⟩ := I.tuple hq
    obtain ⟨u, hu, ru⟩ := rv.get hx
    have hel : e < s.heap.objs.size := Heap.lt_size he
    have hil : it < s.heap.objs.size := by obtain ⟨_, q, _⟩ := hit; exact Heap.lt_size q
    have hlt : i < its.toArray.size := by
      rcases Nat.lt_or_ge i its.toArray.size with q | q
      · exact q
      · have : its[i]? = none := List.getElem?_eq_none (by simpa using q)
        rw [this] at hu
        cases hu
    have hh : X.A.in1.handled = none := I.ok.hd hc
    have D : Draws X.prog X.w X.A.in1 it [it, a] its.toArray.size (fun i v => its.toArray[i]? = some v) (fun i h => h.IsTupleIter it a i ∧ h.IsTuple a its.toArray) := Draws.tuple hh it a hai its.toArray
    refine wpAny_pyNext_enum_itemD D he ⟨hit, p⟩ hlt hne (by simp [hne, hea]) fun x' h' tk hP' ho hs' hT hsz hk => ?_
    have hx' : x' = u := by
      have h1 : its.toArray[i]? = some u := by simpa using hu
      rw [h1] at hP'
      exact (Option.some.inj hP').symm
    subst hx'
    refine ⟨_, rfl, wpAny_letOwnedTupleGo_enum (s := { s with heap := h', toks := tk + 1 }) ho fun h'' he' sb => ?_⟩
    have hT2 : h''.get? s.heap.objs.size = some { cls := .type "tuple", data := .seq #[.int i tk, x'] } := (sb.2 _ (Nat.ne_of_gt hel)).trans hT
    have new : ObjOk X.prog X.w (upd H s.heap.objs.size (.tup [.int (i : Nat), x])) h'' s.heap.objs.size (.tup [.int (i : Nat), x]) :=
      ⟨by show 2 ≤ sizeLine; decide, [.int i tk, x'], .cons ⟨_, rfl⟩ (.cons ru .nil), ⟨_, hT2, rfl, _, rfl⟩⟩
    have I1 : Inv X pins σ (upd H s.heap.objs.size (.tup [.int (i : Nat), x])) { s with heap := h'', toks := tk + 1 } :=
      I.turnedNew (t' := tk + 1) (ch := [e, it]) (fun b ob hb q => (sb.2 b (fun z => hb (by simp [z]))).trans (hk b ob (fun z => hb (by simp [z])) (fun z => hb (by simp [z])) q)) hf (Nat.le_refl _) new
    refine ⟨.ref s.heap.objs.size, _, I1, rfl, ⟨_, x, rfl, I.hok.fresh (Nat.le_refl _), rfl, fun ys hy => by rw [I.tuple_inj hy hq]; exact hx⟩, ⟨⟨x', ?_⟩, hs'.1.at fun o q => (sb.2 it (Ne.symm hne)).trans q, hne, hea, hai⟩, fun b hb => ?_⟩
    · have e1 : ((i + 1 : Nat) : Int) = (i : Int) + 1 := by omega
      rw [e1]; exact he'
    · have hb' : b < s.heap.objs.size := by
        have e' : b = e ∨ b = it := by simpa using hb
        rcases e' with z | z
        · rw [z]; exact hel
        · rw [z]; exact hil
      rw [upd_ne (Nat.ne_of_lt hb')]
      exact (hf b hb).1
  done := by
    intro X hP hw hK hc i pins s σ H E I hf st hg
    subst hP hw hK
    obtain ⟨⟨old, he⟩, hit, hne, hea, hai⟩ := st
    obtain ⟨xs, hq, hx⟩ := hg
    obtain ⟨its, rv, p, hz⟩ := I.tuple hq
    obtain ⟨f0, f1, f2, f3, f4, f5⟩ := hf it (by simp)
    have hl := rv.length
    have hh : X.A.in1.handled = none := I.ok.hd hc
    have D : Draws X.prog X.w X.A.in1 it [it, a] its.toArray.size (fun i v => its.toArray[i]? = some v) (fun i h => h.IsTupleIter it a i ∧ h.IsTuple a its.toArray) := Draws.tuple hh it a hai its.toArray
    have hn : i = its.toArray.size := by rw [List.size_toArray]; omega
    exact wpAny_pyNext_enum_endD D he (by rw [← hn]; exact ⟨hit, p⟩) fun h' eb => ⟨rfl, I.turned (t' := s.toks) (fun b o hb q => eb b o hb q) f0 f1 f3 f4 f5⟩
  self := fun A i s Q E st h => let ⟨⟨_, he⟩, _⟩ := st; wpAny_pyIter_enum he h
def iEnumA (K : PySem.W.Frag) (ta : TA) : TI := fun σ H R => ta σ H fun vs H1 => ∃ (a : Addr) (xs : List V), vs = [.ref a] ∧ ((SqL K H1 a xs ∧ R (Ite K a) H1) ∨ (SqT K H1 a xs ∧ R (IteT K a) H1))
theorem pi_enumA {X : Cx} {e : Expr} {ta : TA} {p pos tpos : Pos} {elts : List Expr} {kk : Nat} (hg : Gl X "enumerate") (hm : X.mg "enumerate" = none) (ha : PA X [e] ta) (hs : starEach [e] X.env = [(false, eval e X.env)] := by rfl) :
    PI X (.Tuple elts kk tpos) (.Call (.Name "enumerate" p) [e] [] pos) (iEnumA X.K ta) := by
  refine ⟨fun pins s σ H R I h => ?_⟩
  refine Call_ (ld_blt I hg hm boot_enumerate (PyProof.Rows.callWith_type1 (thn (ha.run pos pins s σ H _ I h) fun us s1 ⟨vs, H1, I1, r1, q1⟩ => ?_) hs rfl))
  obtain ⟨a, xs, ex, q1⟩ := q1
  subst ex
  cases r1 with
  | cons r rr =>
    cases rr
    cases r
    have fresh2 : ∀ b, b ∈ [s1.heap.objs.size + 1, s1.heap.objs.size] → FpOk X pins H1 b := fun b hb => by
      have e' : b = s1.heap.objs.size + 1 ∨ b = s1.heap.objs.size := by simpa using hb
      have hle : s1.heap.objs.size ≤ b := by
        rcases e' with z | z
        · rw [z]; exact Nat.le_add_right _ _
        · rw [z]; exact Nat.le_refl _
      exact I1.fpOk hle (I1.hok.fresh hle)
    rcases q1 with ⟨hq, q⟩ | ⟨hq, q⟩
    · obtain ⟨its, rv, p', hz⟩ := I1.list hq
      refine call_enumerate_list p'.isList fun h' he hit hsz hk => wpAny_pyIter_enum he ?_
      have I2 : Inv X pins σ H1 { s1 with heap := h' } := I1.kept (t' := s1.toks) hk
      exact ⟨s1.heap.objs.size + 1, [s1.heap.objs.size + 1, s1.heap.objs.size], _, _, H1, rfl, I2, turn_enum a (s1.heap.objs.size + 1) s1.heap.objs.size, ⟨⟨.none, he⟩, hit, Nat.succ_ne_self _⟩, fresh2, q⟩
    · obtain ⟨its, rv, p', hz⟩ := I1.tuple hq
      have hla : a < s1.heap.objs.size := by obtain ⟨o, ho, _⟩ := id p'; exact Heap.lt_size ho
      refine enum_begins1 (begins_tuple a its.toArray) (show s1.heap.IsTuple a its.toArray from p') fun h' he hit hsz hk => wpAny_pyIter_enum he ?_
      have I2 : Inv X pins σ H1 { s1 with heap := h' } := I1.kept (t' := s1.toks) hk
      exact ⟨s1.heap.objs.size + 1, [s1.heap.objs.size + 1, s1.heap.objs.size], _, _, H1, rfl, I2, turn_enumT a (s1.heap.objs.size + 1) s1.heap.objs.size, ⟨⟨.none, he⟩, ⟨_, hit, rfl, rfl⟩, Nat.succ_ne_self _, (fun z => by rw [← z] at hla; exact Nat.lt_irrefl _ (Nat.lt_of_succ_lt hla)), Nat.ne_of_lt hla⟩, fresh2, q⟩
def enumD : Nat → List PyData → List PyData
  | _, [] => []
  | k, d :: r => .tuple [.int (k : Nat), d] :: enumD (k + 1) r
theorem enumD_len : ∀ (k : Nat) (ds : List PyData), (enumD k ds).length = ds.length
  | _, [] => rfl
  | k, d :: r => by
    show (enumD (k + 1) r).length + 1 = r.length + 1
    rw [enumD_len]
theorem enumD_get : ∀ {k : Nat} {ds : List PyData} {i : Nat} {d : PyData}, ds[i]? = some d → (enumD k ds)[i]? = some (.tuple [.int ((k + i : Nat) : Int), d])
  | _, [], _, _, h => by simp at h
  | k, a :: r, 0, d, h => by
    simp at h
    subst h
    rfl
  | k, a :: r, i + 1, d, h => by
    rw [List.getElem?_cons_succ] at h
    show (enumD (k + 1) r)[i]? = _
    rw [enumD_get h, show k + 1 + i = k + (i + 1) by omega]
def iEnumF (f : En → Option PyData) : En → Option (List PyData) := fun en => ((f en).bind items).map (enumD 0)
section
variable {X : Cx} {Ts : TsT} {pos p tpos : Pos} {e : Expr} {f : En → Option PyData} {elts : List Expr} {kk : Nat}
theorem gives_enum {K : PySem.W.Frag} {H1 : Hp} {O : List Addr} {J : It} {xs : List V} {ds : List PyData} (go : ∀ O' H2, Xt (hide H1 O) (hide H2 O') → Xt (hide H1 O) H2 → (∀ i x, xs[i]? = some x → J.go i H2) ∧ J.stop xs.length H2 ∧
      ∀ i v H3, J.yld i H2 v H3 → ∃ T x, v = .ref T ∧ H2 T = none ∧ H3 = upd H2 T (.tup [.int (i : Nat), x]) ∧ xs[i]? = some x)
    (a : DpAll K (hide H1 O) xs ds) : Gives K Ts J (enumD 0 ds) H1 O := fun O' H2 h1 h2 occ => by
  obtain ⟨g1, g2, g3⟩ := go O' H2 h1 h2
  have la := DpAll.len a
  have a2 := DpAll.mono h1 a
  refine ⟨fun i hi => ?_, ?_, fun i v H3 hi hy => ?_⟩
  · rw [enumD_len] at hi
    exact g1 i (xs[i]'(by omega)) (List.getElem?_eq_getElem _)
  · rw [enumD_len, ← la]
    exact g2
  · obtain ⟨T, x, rfl, nT, rfl, ex⟩ := g3 i v H3 hy
    obtain ⟨d1, hd1, q1⟩ := DpAll.get a2 ex
    have hg := enumD_get (k := 0) hd1
    rw [Nat.zero_add] at hg
    exact ⟨.tuple [.int (i : Nat), d1], hg, Xt.upd nT, fun t => t.new nT, tup_new nT (fun z => (occ T z).1 nT) (.cons (.int _) (.cons q1 .nil))⟩
theorem di_enum (hg : Gl X "enumerate") (hm : X.mg "enumerate" = none) (ha : DE X Ts e f) (hs : starEach [e] X.env = [(false, eval e X.env)] := by rfl) :
    DI X Ts (.Tuple elts kk tpos) (.Call (.Name "enumerate" p) [e] [] pos) (iEnumF f) :=
  PI.imp (pi_enumA (ta := tCons (tD X.K Ts f) tNil) hg hm (pa_cons ha pa_nil hs) hs) fun σ H R ⟨He, O, en, ds, rp, hf, kk⟩ => by
    unfold iEnumF at hf
    obtain ⟨es, h0, rfl⟩ := Option.map_eq_some_iff.mp hf
    obtain ⟨d, h1, h2⟩ := Option.bind_eq_some_iff.mp h0
    refine tD.of rp h1 fun v H1 x1 r1 q1 => ?_
    cases d <;> simp only [items] at h2 <;> cases h2
    · cases q1 with
      | lst s a =>
        have t1 := sqL_mono (fun o n e => (hide_some e).2) s
        refine ⟨_, _, rfl, .inl ⟨t1, kk _ H1 x1 r1.tabs (gives_enum (fun O' H2 y1 y2 => ?_) a)⟩⟩
        have u1 := sqL_mono (fun o n e => y2.get _ o e n) s
        exact ⟨fun i x ex => ⟨_, x, u1, ex⟩, ⟨_, u1, Nat.le_refl _⟩, fun i v H3 ⟨T, x, h1, h2, h3, h4⟩ => ⟨T, x, h1, h2, h3, h4 _ u1⟩⟩
    · cases q1 with
      | tup s a =>
        have t1 := sqT_mono (fun o n e => (hide_some e).2) s
        refine ⟨_, _, rfl, .inr ⟨t1, kk _ H1 x1 r1.tabs (gives_enum (fun O' H2 y1 y2 => ?_) a)⟩⟩
        have u1 := sqT_mono (fun o n e => y2.get _ o e n) s
        exact ⟨fun i x ex => ⟨_, x, u1, ex⟩, ⟨_, u1, rfl⟩, fun i v H3 ⟨T, x, h1, h2, h3, h4⟩ => ⟨T, x, h1, h2, h3, h4 _ u1⟩⟩
end
end DN
namespace DN
open PySem PySem.Spec PyProof.Rows L2
end DN
namespace DN
open PySem PySem.Spec PyProof.Rows L2
end DN
set_option maxHeartbeats 400000
namespace DN
open PySem PySem.Spec PyProof.Rows L2
end DN
set_option maxHeartbeats 4000000
namespace DN
open PySem PySem.Spec PyProof.Rows L2
theorem Rep.put {K : PySem.W.Frag} {Ts : TsT} {He : Hp} {O : List Addr} {σ : St} {H : Hp} {en : En} {i : Nat} {ds : List PyData} {a : Addr} {vs : List V} (rp : Rep K Ts He O σ H en) (hd : en[i]? = some (.own ds)) (p1 : σ[i]? = some (some (.ref a))) (p2 : a ∈ O) (p3 : He a = none) (p4 : H a = some (.lst vs)) {ws : List V} {es : List PyData} (q : DpAll K (hide H O) ws es) :
    Rep K Ts He O σ (upd H a (.lst ws)) (en.set i (.own es)) := by
  have hi : i < en.length := (List.getElem?_eq_some_iff.mp hd).1
  have hu : Xt (hide H O) (hide (upd H a (.lst ws)) O) := hide_upd p2
  refine ⟨by simp [rp.len], fun j d' h => ?_, fun j fs h => ?_, fun j kk e1 e2 aa h1 h2 h3 h4 => ?_, fun b hb => ?_, fun b o e => ?_, rp.tabs.upd fun u z => by rw [p4] at z; cases z; exact lst_noc⟩
  · have hj : i ≠ j := fun z => by subst z; rw [List.getElem?_set_self hi] at h; cases h
    rw [List.getElem?_set_ne hj] at h
    obtain ⟨u, q1, q2⟩ := rp.dat j d' h
    exact ⟨u, q1, Dp.mono hu q2⟩
  · by_cases hj : i = j
    · subst hj
      rw [List.getElem?_set_self hi] at h
      cases h
      exact ⟨a, ws, p1, p2, p3, upd_same, DpAll.mono hu q⟩
    · rw [List.getElem?_set_ne hj] at h
      obtain ⟨a', vs'', q1, q2, q3, q4, q5⟩ := rp.own j fs h
      have hne : a' ≠ a := fun z => hj (by subst z; exact rp.inj i j ds fs a' hd h p1 q1)
      exact ⟨a', vs'', q1, q2, q3, by rw [upd_ne hne]; exact q4, DpAll.mono hu q5⟩
  · have toOwn : ∀ (j : Nat) (fs : List PyData), (en.set i (Slot.own es))[j]? = some (Slot.own fs) → ∃ e0, en[j]? = some (Slot.own e0) := fun j fs h => by
      by_cases hj : i = j
      · subst hj; exact ⟨ds, hd⟩
      · rw [List.getElem?_set_ne hj] at h; exact ⟨fs, h⟩
    obtain ⟨e3, g1⟩ := toOwn j e1 h1
    obtain ⟨e4, g2⟩ := toOwn kk e2 h2
    exact rp.inj j kk e3 e4 aa g1 g2 h3 h4
  · by_cases z : b = a
    · rw [z, upd_same]
      exact ⟨by simp, fun ps z => nomatch z⟩
    · rw [upd_ne z]
      exact rp.occ b hb
  · have hne : b ≠ a := fun z => by rw [z, p3] at e; cases e
    rw [upd_ne hne]
    exact rp.ext b o e
def sPut (i : Nat) (g f : En → Option PyData) : En → Option Fl := fun en => (f en).bind fun d => (g en).bind fun k => match k, en[i]? with
  | .int k, some (.own ds) => (ixN ds.length k).map fun j => .nx (en.set i (.own (ds.set j d)))
  | _, _ => none
theorem DpAll.put {K : PySem.W.Frag} {H : Hp} : ∀ {vs : List V} {ds : List PyData} {v : V} {d : PyData} (j : Nat), DpAll K H vs ds → Dp K H v d → DpAll K H (vs.set j v) (ds.set j d)
  | [], [], v, d, j, .nil, _ => by rw [List.set_nil, List.set_nil]; exact .nil
  | x :: vs, y :: ds, v, d, 0, .cons a t, q => .cons q t
  | x :: vs, y :: ds, v, d, j + 1, .cons a t, q => .cons a (DpAll.put j t q)
section
variable {X : Cx} {Ts : TsT} {pos p : Pos} {e e1 e2 e3 tg : Expr} {f g f1 f2 f3 : En → Option PyData}
theorem s_put {i : Nat} {x : Str} {px pos' : Pos} {ie : Expr} (he : DE X Ts e f) (hi : DE X Ts ie g) (hN : X.N[i]? = some x := by rfl) (hv : Vis X.env.scope x := by first | exact Or.inl rfl | exact Or.inr (Or.inl rfl) | exact Or.inr (Or.inr rfl)) (hd : (x == ("__debug__" : Str)) = false := by decide) (hcd : (x == ("__classdict__" : Str)) = false := by decide)
    (hs : swapsWithSole [.Subscript (.Name x px) ie pos'] e pos.line X.env = pure false := by rfl) (hw : swappedStores [.Subscript (.Name x px) ie pos'] e X.env = pure none := by rfl)
    (h1 : (assignEach [.Subscript (.Name x px) ie pos'] X.env).map (·.2) = [assign (.Subscript (.Name x px) ie pos') X.env] := by rfl)
    (ha : ∀ v, assign (.Subscript (.Name x px) ie pos') X.env v = (do
      let ov ← holding [v] (eval (.Name x px) X.env)
      let iv ← holding [v, ov] (eval ie X.env)
      standAt pos'
      holding [v, ov, iv] (setItem ov iv v)
      release [v, ov, iv] []) := by intro _; rfl) : DS X Ts (.Assign [.Subscript (.Name x px) ie pos'] e pos) (sPut i g f) :=
  PS.imp (ps_asg he (pg_sub (pe_var hN hv hd hcd) hi set_list ha) hs hw h1) fun D σ H ⟨He, O₀, Vz, en, r, rp, hf, k⟩ => by
    unfold sPut at hf
    obtain ⟨d, g1, hf1⟩ := Option.bind_eq_some_iff.mp hf
    obtain ⟨kd, g2, hf2⟩ := Option.bind_eq_some_iff.mp hf1
    clear hf hf1
    split at hf2
    · rename_i kk ds hk
      obtain ⟨j, g3, rfl⟩ := Option.map_eq_some_iff.mp hf2
      obtain ⟨O, a1, a2, rp, xv⟩ := rp
      refine tD.of rp g1 fun v H1 x1 r1 q1 => ?_
      obtain ⟨a, vs, p1, p2, p3, p4, p5⟩ := r1.own i ds hk
      refine ⟨.ref a, p1, tD.of r1 g2 fun w H2 x2 r2 q2 => ?_⟩
      cases q2
      have p4' := x2.get a _ p4 (fun _ z => nomatch z)
      have q1' := Dp.mono (hide_mono (O := O) x2) q1
      have p5' := DpAll.mono (hide_mono (O := O) x2) p5
      refine ⟨a, vs, kk, j, rfl, rfl, p4', by rw [DpAll.len p5]; exact g3, k σ _ ⟨O, a1, a2, r2.put hk p1 p2 p3 p4' (DpAll.put j p5' q1'), xv.trans ((hide_mono (x1.trans x2)).trans (hide_upd p2))⟩⟩
    · cases hf2
def boolsOf : List PyData → Option (List Bool)
  | [] => some []
  | .bool b :: r => (boolsOf r).map (b :: ·)
  | _ :: _ => none
theorem boolsOf_some : ∀ {ds : List PyData} {bs : List Bool}, boolsOf ds = some bs → ds = bs.map .bool
  | [], bs, h => by cases h; rfl
  | .bool b :: r, bs, h => by
    obtain ⟨m, h1, rfl⟩ := Option.map_eq_some_iff.mp h
    rw [boolsOf_some h1]
    rfl
theorem DpAll.bools {K : PySem.W.Frag} {H : Hp} : ∀ {vs : List V} {bs : List Bool}, DpAll K H vs (bs.map .bool) → vs = bs.map V.bl
  | _, [], .nil => rfl
  | _, b :: bs, .cons h t => by
    cases h
    rw [DpAll.bools t]
    rfl
def gAny : PyData → Option PyData
  | .list ds => (boolsOf ds).map fun bs => .bool (bs.any id)
  | _ => none
def fAnyL := DN.f1 gAny
theorem d_anyL (hc : X.calm = true) (hg : Gl X "any") (hm : X.mg "any" = none) (hb : bootBuiltins "any" = some (.builtin "any")) (ha : DB X Ts e f) (he : starEach [e] X.env = (false, eval e X.env) :: starEach [] X.env := by rfl) : DE X Ts (.Call (.Name "any" p) [e] [] pos) (fAnyL f) :=
  b_arg1 (cr_any hc) hg hm hb ha (he := he) fun d z v H O Q hz q t occ kk => by
    cases d <;> simp only [gAny] at hz <;> try cases hz
    rename_i ds
    obtain ⟨bs, h1, rfl⟩ := Option.map_eq_some_iff.mp hz
    have e := boolsOf_some h1
    subst e
    obtain ⟨a, vs, rfl, h2, h3⟩ := q.lst
    obtain rfl := DpAll.bools h3
    exact ⟨a, bs, rfl, h2, kk _ H (Xt.refl H) t (.bl _)⟩
end
section
variable {α β γ δ σ : Type}
abbrev eI : Int → PyData := .int
abbrev eB : Bool → PyData := .bool
abbrev eA : PyData → PyData := fun d => d
def eU : Unit → PyData := fun _ => .none
def eR (e : α → PyData) (l : List α) : PyData := .tuple (l.map e)
def eL (e : α → PyData) (l : List α) : PyData := .list (l.map e)
def e0 : Unit → PyData := fun _ => .tuple []
def e1 (a : α → PyData) (p : α) : PyData := .tuple [a p]
def e2 (a : α → PyData) (b : β → PyData) (p : α × β) : PyData := .tuple [a p.1, b p.2]
def e3 (a : α → PyData) (b : β → PyData) (c : γ → PyData) (p : α × β × γ) : PyData := .tuple [a p.1, b p.2.1, c p.2.2]
def e4 (a : α → PyData) (b : β → PyData) (c : γ → PyData) (d : δ → PyData) (p : α × β × γ × δ) : PyData := .tuple [a p.1, b p.2.1, c p.2.2.1, d p.2.2.2]
def mulO (x y : Int) : Option Int := if cMul x y = true then some (x * y) else none
def divO (x y : Int) : Option Int := if cDiv x y = true then some (x / y) else none
def modO (x y : Int) : Option Int := if cMod x y = true then some (x.fmod y) else none
def catO (x y : List α) : Option (List α) := if x.length + y.length ≤ 1000000 then some (x ++ y) else none
def eqO (x y : PyData) : Option Bool := if (SeqAt.shaped x && SeqAt.shaped y) = true then some (PyData.eqv x y) else none
def max2 (x y : Int) : Int := if y > x then y else x
def min2 (x y : Int) : Int := if y < x then y else x
def abs1 (x : Int) : Int := if x < 0 then -x else x
def dispO (l : List α) : Option (List α) := if l.length ≤ 64 then some l else none
def iteO (c : Option Bool) (a b : Option α) : Option α := c.bind fun k => match k with
  | true => a
  | false => b
def andO (c d : Option Bool) : Option Bool := iteO c d (some false)
def orO (c d : Option Bool) : Option Bool := iteO c (some true) d
def range1O (n : Int) : Option (List Int) := if -1000000 ≤ n ∧ n ≤ 1000000 then some ((List.range n.toNat).map fun (i : Nat) => (0 + (i : Int))) else none
def compO (T : α → Option Bool) (B : α → Option β) : List α → Option (List β)
  | [] => some []
  | x :: r => (T x).bind fun k => match k with
    | true => (B x).bind fun y => (compO T B r).bind fun ys => some (y :: ys)
    | false => compO T B r
theorem compO_cons (T : α → Option Bool) (B : α → Option β) (x : α) (r : List α) : compO T B (x :: r) = (T x).bind fun k => match k with
    | true => (B x).bind fun y => (compO T B r).bind fun ys => some (y :: ys)
    | false => compO T B r := rfl
def compL (T : α → Option Bool) (B : α → Option β) (l : List α) : Option (List β) := if l.length ≤ 1000000 then compO T B l else none
def allO (ev : Bool) (B : α → Option Bool) : List α → Option Bool
  | [] => some ev
  | x :: r => (B x).bind fun k => if k = ev then allO ev B r else some k
theorem allO_cons (ev : Bool) (B : α → Option Bool) (x : α) (r : List α) : allO ev B (x :: r) = (B x).bind fun k => if k = ev then allO ev B r else some k := rfl
def appO (l : List α) (x : α) : Option (List α) := if l.length ≤ 1000000 then some (l ++ [x]) else none
def foldO (Bd : α → σ → Option σ) : List α → σ → Option σ
  | [], s => some s
  | x :: r, s => (Bd x s).bind (foldO Bd r)
def whileO (T : σ → Option Bool) (Bd : σ → Option σ) : Nat → σ → Option σ
  | 0, _ => none
  | n + 1, s => (T s).bind fun k => match k with
    | true => (Bd s).bind (whileO T Bd n)
    | false => some s
end
structure Enc {α : Type} [DecidableEq α] (k : Nat) (e : α → PyData) : Prop where
  lay : ∀ a, PyData.canLay0 (e a) = true
  dep : ∀ a, PyData.depth (e a) ≤ k
  eq : ∀ a b, PyData.eqv (e a) (e b) = decide (a = b)
theorem Enc.sh {α : Type} [DecidableEq α] {k : Nat} {e : α → PyData} (E : Enc k e) (hk : k ≤ 64) (a : α) : SeqAt.shaped (e a) = true := by
  unfold SeqAt.shaped
  rw [E.lay]
  have := E.dep a
  rw [decide_eq_true (by omega)]
  rfl
section
variable {α β γ δ σ : Type} {en : En} {f g h : En → Option PyData} {ea : α → PyData} {eb : β → PyData} {ec : γ → PyData} {ed : δ → PyData} {A : Option α} {B : Option β} {C : Option γ} {D : Option δ}
theorem t_var {i : Nat} {e : α → PyData} {v : α} (h : en[i]? = some (.dat (e v))) : fVar i en = (some v).map e := by
  unfold fVar
  rw [h]
  rfl
theorem t_own {i : Nat} {e : α → PyData} {v : List α} (h : en[i]? = some (.own (v.map e))) : fOwn i en = (some v).map (eL e) := by
  unfold fOwn
  rw [h]
  rfl
theorem t_int {i : Int} : fLit (.int i) en = (some i).map eI := rfl
theorem t_bl {b : Bool} : fLit (.bool b) en = (some b).map eB := rfl
theorem t_non : fLit .none en = (some ()).map eU := rfl
theorem t_f2 {G : PyData → PyData → Option PyData} {h : α → β → Option γ} (hG : ∀ x y, G (ea x) (eb y) = (h x y).map ec) (pa : f en = A.map ea) (pb : g en = B.map eb) : f2 G f g en = (A.bind fun x => B.bind fun y => h x y).map ec := by
  unfold f2
  rw [pa, pb]
  cases A with
  | none => rfl
  | some a => cases B with
    | none => rfl
    | some b => exact hG a b
theorem t_f1 {G : PyData → Option PyData} {h : α → Option γ} (hG : ∀ x, G (ea x) = (h x).map ec) (pa : f en = A.map ea) : f1 G f en = (A.bind h).map ec := by
  unfold f1
  rw [pa]
  cases A with
  | none => rfl
  | some a => exact hG a
theorem g_add (x y : Int) : gPlus (eI x) (eI y) = (some (x + y)).map eI := rfl
theorem g_sub (x y : Int) : (gI fun i j => .int (i - j)) (eI x) (eI y) = (some (x - y)).map eI := rfl
theorem g_mul (x y : Int) : gTimes (eI x) (eI y) = (mulO x y).map eI := by
  show (if cMul x y = true then some (PyData.int (x * y)) else none) = _
  unfold mulO
  split <;> rfl
theorem g_div (x y : Int) : (gIc cDiv fun i j => .int (i / j)) (eI x) (eI y) = (divO x y).map eI := by
  show (if cDiv x y = true then some (PyData.int (x / y)) else none) = _
  unfold divO
  split <;> rfl
theorem g_mod (x y : Int) : (gIc cMod fun i j => .int (i.fmod j)) (eI x) (eI y) = (modO x y).map eI := by
  show (if cMod x y = true then some (PyData.int (x.fmod y)) else none) = _
  unfold modO
  split <;> rfl
theorem g_gt (x y : Int) : (gI fun i j => .bool (decide (j < i))) (eI x) (eI y) = (some (decide (y < x))).map eB := rfl
theorem g_ge (x y : Int) : (gI fun i j => .bool (decide (j ≤ i))) (eI x) (eI y) = (some (decide (y ≤ x))).map eB := rfl
theorem g_min2 (x y : Int) : (gI fun i j => .int (if j < i then j else i)) (eI x) (eI y) = (some (min2 x y)).map eI := rfl
theorem g_gcd (x y : Int) : (gI fun i j => .int ((Nat.gcd i.natAbs j.natAbs : Nat) : Int)) (eI x) (eI y) = (some ((Nat.gcd x.natAbs y.natAbs : Nat) : Int)).map eI := rfl
theorem g_eq [DecidableEq α] {e : α → PyData} {n : Nat} (E : Enc n e) (hn : Nat.ble n 64 = true) (x y : α) : gEq (e x) (e y) = (some (decide (x = y))).map eB := by
  unfold gEq
  rw [if_pos (by rw [E.sh (Nat.le_of_ble_eq_true hn), E.sh (Nat.le_of_ble_eq_true hn)]; rfl), E.eq]
  rfl
theorem g_ne [DecidableEq α] {e : α → PyData} {n : Nat} (E : Enc n e) (hn : Nat.ble n 64 = true) (x y : α) : gNe (e x) (e y) = (some (!decide (x = y))).map eB := by
  unfold gNe
  rw [if_pos (by rw [E.sh (Nat.le_of_ble_eq_true hn), E.sh (Nat.le_of_ble_eq_true hn)]; rfl), E.eq]
  rfl
theorem g_eqA (x : α) (y : β) : gEq (ea x) (eb y) = (eqO (ea x) (eb y)).map eB := by
  unfold gEq eqO
  split <;> rfl
theorem atI_map {e : α → PyData} (l : List α) (i : Int) : atI (l.map e) i = (atI l i).map e := by
  unfold atI
  rw [List.length_map]
  cases ixN l.length i with
  | none => rfl
  | some j => simp
theorem g_ixR {e : α → PyData} (l : List α) (i : Int) : gIx (eR e l) (eI i) = (atI l i).map e := atI_map l i
theorem g_ixL {e : α → PyData} (l : List α) (i : Int) : gIx (eL e l) (eI i) = (atI l i).map e := atI_map l i
theorem t_ixc {k : Int} {pr : α → β} (h : ∀ p, gIx (ea p) (.int k) = some (eb (pr p))) (pa : f en = A.map ea) : fIx f (fLit (.int k)) en = (A.bind fun p => some (pr p)).map eb := by
  unfold fIx f2
  rw [pa]
  cases A with
  | none => rfl
  | some a => exact h a
theorem t_tup2 (pa : f en = A.map ea) (pb : g en = B.map eb) : fTup (fCons f (fCons g fNil)) en = (A.bind fun x => B.bind fun y => some (x, y)).map (e2 ea eb) := by
  unfold fTup fCons fNil
  rw [pa, pb]
  cases A <;> cases B <;> rfl
theorem t_tup3 (pa : f en = A.map ea) (pb : g en = B.map eb) (pc : h en = C.map ec) : fTup (fCons f (fCons g (fCons h fNil))) en = (A.bind fun x => B.bind fun y => C.bind fun z => some (x, y, z)).map (e3 ea eb ec) := by
  unfold fTup fCons fNil
  rw [pa, pb, pc]
  cases A <;> cases B <;> cases C <;> rfl
theorem t_tup4 {k : En → Option PyData} (pa : f en = A.map ea) (pb : g en = B.map eb) (pc : h en = C.map ec) (pd : k en = D.map ed) : fTup (fCons f (fCons g (fCons h (fCons k fNil)))) en = (A.bind fun x => B.bind fun y => C.bind fun z => D.bind fun w => some (x, y, z, w)).map (e4 ea eb ec ed) := by
  unfold fTup fCons fNil
  rw [pa, pb, pc, pd]
  cases A <;> cases B <;> cases C <;> cases D <;> rfl
theorem t_nil {e : α → PyData} : fNil en = (some ([] : List α)).map (List.map e) := rfl
theorem t_cons {gs : En → Option (List PyData)} {L : Option (List α)} (pa : f en = A.map ea) (pr : gs en = L.map (List.map ea)) : fCons f gs en = (A.bind fun x => L.bind fun xs => some (x :: xs)).map (List.map ea) := by
  unfold fCons
  rw [pa, pr]
  cases A <;> cases L <;> rfl
theorem t_lstL {gs : En → Option (List PyData)} {L : Option (List α)} (pr : gs en = L.map (List.map ea)) : fLst gs en = (L.bind dispO).map (eL ea) := by
  unfold fLst
  rw [pr]
  cases L with
  | none => rfl
  | some l =>
    show (if (l.map ea).length ≤ 64 then some (PyData.list (l.map ea)) else none) = (dispO l).map _
    unfold dispO
    rw [List.length_map]
    split <;> rfl
theorem g_lenR {e : α → PyData} (l : List α) : gLen (eR e l) = (some (l.length : Int)).map eI := by
  show some (PyData.int ((l.map e).length : Nat)) = _
  rw [List.length_map]
  rfl
theorem g_lenL {e : α → PyData} (l : List α) : gLen (eL e l) = (some (l.length : Int)).map eI := by
  show some (PyData.int ((l.map e).length : Nat)) = _
  rw [List.length_map]
  rfl
theorem g_sumL (l : List Int) : gSum (eL eI l) = (some l.sum).map eI := by
  show Option.map _ (intsOf (l.map PyData.int)) = _
  rw [intsOf_map]
  rfl
theorem g_tupL {e : α → PyData} (l : List α) : gTuple (eL e l) = (some l).map (eR e) := rfl
theorem g_abs (x : Int) : gAbs (eI x) = (some (abs1 x)).map eI := rfl
theorem g_int (x : Int) : gInt (eI x) = (some x).map eI := rfl
theorem g_neg (x : Int) : gNeg (eI x) = (some (-x)).map eI := rfl
theorem t_isi {q : PyData → Bool} {b : α → Bool} (hq : ∀ x, q (ea x) = b x) (pa : f en = A.map ea) : fIsi q f en = (A.bind fun x => some (b x)).map eB := by
  unfold fIsi f1
  rw [pa]
  cases A with
  | none => rfl
  | some a => show some (PyData.bool (q (ea a))) = _; rw [hq]; rfl
theorem t_and {P Q : Option Bool} (p : f en = P.map eB) (q : g en = Q.map eB) : fAnd f g en = (andO P Q).map eB := by
  unfold fAnd andO iteO
  rw [p]
  cases P with
  | none => rfl
  | some b => cases b with
    | true => exact q
    | false => rfl
theorem t_not {P : Option Bool} (p : f en = P.map eB) : fNot f en = (P.bind fun b => some (!b)).map eB := by
  unfold fNot
  rw [p]
  cases P <;> rfl
theorem t_T {P : Option Bool} (p : f en = P.map eB) : fT f en = P := by
  unfold fT
  rw [p]
  cases P <;> rfl
section
variable {k l : En → Option Bool} {P Q : Option Bool}
theorem t_kand (p : k en = P) (q : l en = Q) : kAnd k l en = andO P Q := by
  unfold kAnd andO iteO
  rw [p]
  cases P with
  | none => rfl
  | some b => cases b with
    | true => exact q
    | false => rfl
theorem t_kor (p : k en = P) (q : l en = Q) : kOr k l en = orO P Q := by
  unfold kOr orO iteO
  rw [p]
  cases P with
  | none => rfl
  | some b => cases b with
    | true => rfl
    | false => exact q
theorem t_knot (p : k en = P) : kNot k en = P.bind fun b => some (!b) := by
  unfold kNot
  rw [p]
  cases P <;> rfl
theorem t_yes : kYes en = some true := rfl
theorem t_if {A B : Option α} (p : k en = P) (pa : f en = A.map ea) (pb : g en = B.map ea) : fIf k f g en = (iteO P A B).map ea := by
  unfold fIf iteO
  rw [p]
  cases P with
  | none => rfl
  | some b => cases b with
    | true => exact pa
    | false => exact pb
end
theorem t_chain {A B C : Option Int} (pa : f en = A.map eI) (pb : g en = B.map eI) (pc : h en = C.map eI) : fChain gLe gLe f g h en = (A.bind fun x => B.bind fun y => iteO (some (decide (x ≤ y))) (C.bind fun z => some (decide (y ≤ z))) (some false)).map eB := by
  unfold fChain
  rw [pa, pb]
  cases A with
  | none => rfl
  | some x => cases B with
    | none => rfl
    | some y =>
      rw [pc]
      have e : gLe (eI x) (eI y) = some (PyData.bool (decide (x ≤ y))) := rfl
      simp only [Option.map_some, Option.bind_some, e]
      cases decide (x ≤ y) with
      | true => cases C <;> rfl
      | false => rfl
theorem i_range1 {A : Option Int} (pa : f en = A.map eI) : iRange1 f en = (A.bind range1O).map (List.map eI) := by
  unfold iRange1
  rw [pa]
  cases A with
  | none => rfl
  | some n =>
    show (if -1000000 ≤ n ∧ n ≤ 1000000 then some (rangeD 0 n.toNat) else none) = (range1O n).map _
    unfold range1O rangeD
    split
    · simp
    · rfl
theorem i_seqR {e : α → PyData} {A : Option (List α)} (pa : f en = A.map (eR e)) : iSeq f en = A.map (List.map e) := by
  unfold iSeq
  rw [pa]
  cases A <;> rfl
theorem i_seqL {e : α → PyData} {A : Option (List α)} (pa : f en = A.map (eL e)) : iSeq f en = A.map (List.map e) := by
  unfold iSeq
  rw [pa]
  cases A <;> rfl
section
variable {it : En → Option (List PyData)} {b b2 : PyData → En → Option En} {t t2 : En → Option Bool} {vs vs2 : List Nat} {T : α → Option Bool} {Bf : α → Option β} {L : Option (List α)}
theorem lcGo_eq (hb : ∀ x, ∃ e1, b (ea x) en = some e1 ∧ t e1 = T x ∧ f e1 = (Bf x).map eb) : ∀ l : List α, lcGo b t f en (l.map ea) = (compO T Bf l).map (List.map eb)
  | [] => rfl
  | x :: r => by
    obtain ⟨e1, h1, h2, h3⟩ := hb x
    have ih := lcGo_eq hb r
    show (b (ea x) en).bind _ = _
    rw [h1, Option.bind_some, h2, h3, ih, compO_cons]
    cases T x with
    | none => rfl
    | some k => cases k with
      | true =>
        show (Option.bind (Option.map eb (Bf x)) _) = _
        cases Bf x with
        | none => rfl
        | some y =>
          show Option.map _ (Option.map (List.map eb) (compO T Bf r)) = Option.map (List.map eb) ((compO T Bf r).bind _)
          cases compO T Bf r <;> rfl
      | false => rfl
theorem t_lc (hi : it en = L.map (List.map ea)) (hb : ∀ x, ∃ e1, b (ea x) (wipeE en vs) = some e1 ∧ t e1 = T x ∧ f e1 = (Bf x).map eb) : fLc it b t f vs en = (L.bind fun l => compL T Bf l).map (eL eb) := by
  unfold fLc
  rw [hi]
  cases L with
  | none => rfl
  | some l =>
    show (if (l.map ea).length ≤ 1000000 then (lcGo b t f (wipeE en vs) (l.map ea)).map PyData.list else none) = (compL T Bf l).map _
    unfold compL
    rw [List.length_map, lcGo_eq hb]
    split
    · cases compO T Bf l <;> rfl
    · rfl
theorem t_all {ev : Bool} {Bf : α → Option Bool} (hi : it en = L.map (List.map ea)) (hb : ∀ x, ∃ e1, b (ea x) (wipeE en vs) = some e1 ∧ f e1 = (Bf x).map eB) : fAll ev it b f vs en = (L.bind fun l => allO ev Bf l).map eB := by
  unfold fAll
  rw [hi]
  cases L with
  | none => rfl
  | some l =>
    show allGo ev b f (wipeE en vs) (l.map ea) = (allO ev Bf l).map eB
    clear hi
    induction l with
    | nil => rfl
    | cons x r ih =>
      obtain ⟨e1, h1, h2⟩ := hb x
      show (b (ea x) (wipeE en vs)).bind _ = _
      rw [h1, Option.bind_some, h2, allO_cons]
      cases Bf x with
      | none => rfl
      | some k =>
        show (if k = ev then allGo ev b f (wipeE en vs) (r.map ea) else some (PyData.bool k)) = Option.map eB (if k = ev then allO ev Bf r else some k)
        split
        · exact ih
        · rfl
end
section
variable {S : List PyData → Option PyData} {ζ ε : Type} {er : ζ → PyData} {k l : En → Option PyData} {ee : ε → PyData} {E : Option ε}
theorem t_call1 {N : α → Option ζ} (hS : ∀ x, S [ea x] = (N x).map er) (pa : f en = A.map ea) : fCall 1 S (fCons f fNil) en = (A.bind fun x => N x).map er := by
  unfold fCall fCons fNil
  rw [pa]
  cases A with
  | none => rfl
  | some a => exact hS a
theorem t_call2 {N : α → β → Option ζ} (hS : ∀ x y, S [ea x, eb y] = (N x y).map er) (pa : f en = A.map ea) (pb : g en = B.map eb) : fCall 2 S (fCons f (fCons g fNil)) en = (A.bind fun x => B.bind fun y => N x y).map er := by
  unfold fCall fCons fNil
  rw [pa, pb]
  cases A with
  | none => rfl
  | some a => cases B with
    | none => rfl
    | some b => exact hS a b
theorem t_call3 {N : α → β → γ → Option ζ} (hS : ∀ x y z, S [ea x, eb y, ec z] = (N x y z).map er) (pa : f en = A.map ea) (pb : g en = B.map eb) (pc : h en = C.map ec) : fCall 3 S (fCons f (fCons g (fCons h fNil))) en = (A.bind fun x => B.bind fun y => C.bind fun z => N x y z).map er := by
  unfold fCall fCons fNil
  rw [pa, pb, pc]
  cases A with
  | none => rfl
  | some a => cases B with
    | none => rfl
    | some b => cases C with
      | none => rfl
      | some c => exact hS a b c
theorem t_call4 {N : α → β → γ → δ → Option ζ} (hS : ∀ x y z u, S [ea x, eb y, ec z, ed u] = (N x y z u).map er) (pa : f en = A.map ea) (pb : g en = B.map eb) (pc : h en = C.map ec) (pd : k en = D.map ed) :
    fCall 4 S (fCons f (fCons g (fCons h (fCons k fNil)))) en = (A.bind fun x => B.bind fun y => C.bind fun z => D.bind fun u => N x y z u).map er := by
  unfold fCall fCons fNil
  rw [pa, pb, pc, pd]
  cases A with
  | none => rfl
  | some a => cases B with
    | none => rfl
    | some b => cases C with
      | none => rfl
      | some c => cases D with
        | none => rfl
        | some d => exact hS a b c d
end
end
section
variable {α β γ σ τ ζ ξ : Type}
def rtO (e : α → PyData) (A : Option α) : Option Fl := A.map fun v => .rt (e v)
def NX (r : Option Fl) (A : Option σ) (env : σ → ζ → En) : Prop := match A with
  | none => r = none
  | some s => ∃ z, r = some (.nx (env s z))
variable {en : En} {f g h : En → Option PyData} {F G H : En → Option Fl} {ea : α → PyData} {eb : β → PyData} {ec : γ → PyData} {er : ξ → PyData} {A : Option α} {B : Option β} {C : Option γ} {k : En → Option Bool} {P : Option Bool} {i j l : Nat} {env : σ → ζ → En} {env2 : τ → ζ → En}
theorem r_ret (p : f en = A.map ea) : sRet f en = rtO ea A := by
  unfold sRet rtO
  rw [p]
  cases A <;> rfl
theorem r_never {e : ξ → PyData} : sNever en = rtO e none := rfl
theorem r_seq_set {K : α → Option ξ} (p : f en = A.map ea) (hi : i < en.length) (q : ∀ x, G (en.set i (.dat (ea x))) = rtO er (K x)) : sSeq (sSet i f) G en = rtO er (A.bind K) := by
  unfold sSeq sSet bName
  rw [p]
  cases A with
  | none => rfl
  | some a =>
    show (match (if i < en.length then some (en.set i (.dat (ea a))) else none).map Fl.nx with
      | some (.nx e) => G e
      | r => r) = _
    rw [if_pos hi]
    exact q a
theorem r_seq_bind {b : PyData → En → Option En} {envb : α → En} {K : α → Option ξ} (p : f en = A.map ea) (hb : ∀ x, b (ea x) en = some (envb x)) (q : ∀ x, G (envb x) = rtO er (K x)) : sSeq (sBind b f) G en = rtO er (A.bind K) := by
  unfold sSeq sBind
  rw [p]
  cases A with
  | none => rfl
  | some a =>
    show (match (b (ea a) en).map Fl.nx with
      | some (.nx e) => G e
      | r => r) = _
    rw [hb]
    exact q a
theorem r_seq_par {K : α → β → Option ξ} (p : f en = A.map ea) (p2 : g en = B.map eb) (hi : i < en.length) (hj : j < en.length) (q : ∀ x y, G ((en.set i (.dat (ea x))).set j (.dat (eb y))) = rtO er (K x y)) : sSeq (sPar i j f g) G en = rtO er (A.bind fun x => B.bind fun y => K x y) := by
  unfold sSeq sPar bName
  rw [p, p2]
  cases A with
  | none => rfl
  | some a => cases B with
    | none => rfl
    | some b =>
      simp only [Option.map_some, Option.bind_some, hi, hj, if_true, List.length_set]
      exact q a b
theorem r_seq_own {A : Option (List α)} {K : List α → Option ξ} (p : f en = A.map (eL ea)) (hi : i < en.length) (q : ∀ x : List α, G (en.set i (.own (x.map ea))) = rtO er (K x)) : sSeq (sOwn i f) G en = rtO er (A.bind K) := by
  unfold sSeq sOwn
  rw [p]
  cases A with
  | none => rfl
  | some a =>
    show (match (if i < en.length then some (Fl.nx (en.set i (.own (a.map ea)))) else none) with
      | some (.nx e) => G e
      | r => r) = _
    rw [if_pos hi]
    exact q a
theorem r_seq_rel {a : List α} {K : Option ξ} (ho : en[i]? = some (.own (a.map ea))) (q : G (en.set i (.dat (eL ea a))) = rtO er K) : sSeq (sRel i) G en = rtO er K := by
  unfold sSeq sRel
  rw [ho]
  exact q
theorem r_seq_expr {K : Option ξ} (p : f en = A.map ea) (q : G en = rtO er K) : sSeq (sExpr f) G en = rtO er (A.bind fun _ => K) := by
  unfold sSeq sExpr
  rw [p]
  cases A with
  | none => rfl
  | some a => exact q
theorem r_seq_ifret {A K : Option ξ} (p : k en = P) (ha : F en = rtO er A) (q : G en = rtO er K) : sSeq (sIf k F sNil) G en = rtO er (iteO P A K) := by
  unfold sSeq sIf iteO
  rw [p]
  cases P with
  | none => rfl
  | some b => cases b with
    | true =>
      show (match F en with
        | some (.nx e) => G e
        | r => r) = _
      rw [ha]
      cases A <;> rfl
    | false => exact q
theorem r_seq_nx {A : Option σ} {K : σ → Option ξ} (p : NX (F en) A env) (q : ∀ s z, G (env s z) = rtO er (K s)) : sSeq F G en = rtO er (A.bind K) := by
  unfold sSeq
  cases A with
  | none =>
    have e : F en = none := p
    rw [e]
    rfl
  | some s =>
    obtain ⟨z, e⟩ := p
    rw [e]
    exact q s z
theorem n_nil {s : σ} {z : ζ} (h : en = env s z) : NX (sNil en) (some s) env := ⟨z, by rw [h]; rfl⟩
theorem n_never : NX (sNever en) (none : Option σ) env := rfl
theorem n_set {K : α → σ} (p : f en = A.map ea) (hi : i < en.length) (q : ∀ x, ∃ z, en.set i (.dat (ea x)) = env (K x) z) : NX (sSet i f en) (A.bind fun x => some (K x)) env := by
  unfold sSet bName
  rw [p]
  cases A with
  | none => exact rfl
  | some a =>
    obtain ⟨z, e⟩ := q a
    refine ⟨z, ?_⟩
    show (if i < en.length then some (en.set i (.dat (ea a))) else none).map Fl.nx = _
    rw [if_pos hi, e]
    rfl
theorem n_seq_set {K : α → Option σ} (p : f en = A.map ea) (hi : i < en.length) (q : ∀ x, NX (G (en.set i (.dat (ea x)))) (K x) env) : NX (sSeq (sSet i f) G en) (A.bind K) env := by
  unfold sSeq sSet bName
  rw [p]
  cases A with
  | none => exact rfl
  | some a =>
    show NX (match (if i < en.length then some (en.set i (.dat (ea a))) else none).map Fl.nx with
      | some (.nx e) => G e
      | r => r) (K a) env
    rw [if_pos hi]
    exact q a
theorem n_par {K : α → β → σ} (p : f en = A.map ea) (p2 : g en = B.map eb) (hi : i < en.length) (hj : j < en.length) (q : ∀ x y, ∃ z, (en.set i (.dat (ea x))).set j (.dat (eb y)) = env (K x y) z) : NX (sPar i j f g en) (A.bind fun x => B.bind fun y => some (K x y)) env := by
  unfold sPar bName
  rw [p, p2]
  cases A with
  | none => exact rfl
  | some a => cases B with
    | none => exact rfl
    | some b =>
      obtain ⟨z, e⟩ := q a b
      refine ⟨z, ?_⟩
      simp only [Option.map_some, Option.bind_some, hi, hj, if_true, List.length_set, e]
theorem n_app {v : List α} {K : List α → σ} (p : f en = A.map ea) (ho : en[i]? = some (.own (v.map ea))) (q : ∀ w : List α, ∃ z, en.set i (.own (w.map ea)) = env (K w) z) : NX (sApp i f en) (A.bind fun x => (appO v x).bind fun w => some (K w)) env := by
  unfold sApp
  rw [p]
  cases A with
  | none => exact rfl
  | some a =>
    show NX (match en[i]? with
      | some (.own ds) => if ds.length ≤ 1000000 then some (.nx (en.set i (.own (ds ++ [ea a])))) else none
      | _ => none) ((appO v a).bind fun w => some (K w)) env
    rw [ho]
    show NX (if (v.map ea).length ≤ 1000000 then some (.nx (en.set i (.own (v.map ea ++ [ea a])))) else none) _ env
    unfold appO
    rw [List.length_map]
    split
    · obtain ⟨z, e⟩ := q (v ++ [a])
      refine ⟨z, ?_⟩
      rw [← e, List.map_append]
      rfl
    · exact rfl
theorem n_expr {s : σ} {z : ζ} (p : f en = A.map ea) (q : en = env s z) : NX (sExpr f en) (A.bind fun _ => some s) env := by
  unfold sExpr
  rw [p]
  cases A with
  | none => exact rfl
  | some a => exact ⟨z, by rw [← q]; rfl⟩
theorem n_seq_expr {K : Option σ} (p : f en = A.map ea) (q : NX (G en) K env) : NX (sSeq (sExpr f) G en) (A.bind fun _ => K) env := by
  unfold sSeq sExpr
  rw [p]
  cases A with
  | none => exact rfl
  | some a => exact q
theorem n_if {A B : Option σ} (p : k en = P) (ha : NX (F en) A env) (hb : NX (G en) B env) : NX (sIf k F G en) (iteO P A B) env := by
  unfold sIf iteO
  rw [p]
  cases P with
  | none => exact rfl
  | some b => cases b with
    | true => exact ha
    | false => exact hb
theorem n_for {it : En → Option (List PyData)} {b : PyData → En → Option En} {L : Option (List α)} {Bd : α → σ → Option σ} {s : σ} {z : ζ} (he : en = env s z) (hi : it en = L.map (List.map ea)) (hb : ∀ x s z, ∃ e1, b (ea x) (env s z) = some e1 ∧ NX (F e1) (Bd x s) env) : NX (sFor it b F en) (L.bind fun l => foldO Bd l s) env := by
  subst he
  unfold sFor
  rw [hi]
  cases L with
  | none => exact rfl
  | some l =>
    show NX (forGo b F (l.map ea) (env s z)) (foldO Bd l s) env
    clear hi
    induction l generalizing s z with
    | nil => exact ⟨z, rfl⟩
    | cons x r ih =>
      obtain ⟨e1, h1, h2⟩ := hb x s z
      have ef : foldO Bd (x :: r) s = (Bd x s).bind (foldO Bd r) := rfl
      show NX ((b (ea x) (env s z)).bind _) _ env
      rw [h1, Option.bind_some, ef]
      cases hB : Bd x s with
      | none =>
        rw [hB] at h2
        have e : F e1 = none := h2
        rw [e]
        exact rfl
      | some s' =>
        rw [hB] at h2
        obtain ⟨z', e⟩ := h2
        rw [e]
        exact ih
theorem n_while {N : Nat} {T : σ → Option Bool} {Bd : σ → Option σ} {s : σ} {z : ζ} (he : en = env s z) (ht : ∀ s z, k (env s z) = T s) (hb : ∀ s z, NX (F (env s z)) (Bd s) env) : NX (sWhile (fun _ => N) k F en) (whileO T Bd N s) env := by
  subst he
  show NX (whGo k F N (env s z)) _ env
  induction N generalizing s z with
  | zero => exact rfl
  | succ n ih =>
    have ew : whileO T Bd (n + 1) s = (T s).bind fun k => match k with
      | true => (Bd s).bind (whileO T Bd n)
      | false => some s := rfl
    show NX (match k (env s z) with
      | some true => match F (env s z) with
        | some (.nx e2) => whGo k F n e2
        | some (.ct e2) => whGo k F n e2
        | some (.bk e2) => some (.nx e2)
        | some (.rt v) => some (.rt v)
        | none => none
      | some false => some (.nx (env s z))
      | none => none) _ env
    rw [ht, ew]
    cases T s with
    | none => exact rfl
    | some c => cases c with
      | false => exact ⟨z, rfl⟩
      | true =>
        have h2 := hb s z
        show NX (match F (env s z) with
          | some (.nx e2) => whGo k F n e2
          | some (.ct e2) => whGo k F n e2
          | some (.bk e2) => some (.nx e2)
          | some (.rt v) => some (.rt v)
          | none => none) ((Bd s).bind (whileO T Bd n)) env
        cases hB : Bd s with
        | none =>
          rw [hB] at h2
          have e : F (env s z) = none := h2
          rw [e]
          exact rfl
        | some s' =>
          rw [hB] at h2
          obtain ⟨z', e⟩ := h2
          rw [e]
          exact ih
theorem d_run {N : Nat} {ds : List PyData} {A : Option ξ} (h : F (ds.map .dat ++ List.replicate (N - ds.length) .no) = rtO er A) : runD N F ds = A.map er := by
  unfold runD
  rw [h]
  cases A <;> rfl
theorem d_runN {N : Nat} {ds : List PyData} {A : Option σ} (h : NX (F (ds.map .dat ++ List.replicate (N - ds.length) .no)) A env) : runD N F ds = (A.bind fun _ => some ()).map eU := by
  unfold runD
  cases A with
  | none =>
    have e : F (ds.map .dat ++ List.replicate (N - ds.length) .no) = none := h
    rw [e]
    rfl
  | some s =>
    obtain ⟨z, e⟩ := h
    rw [e]
    rfl
end
theorem lt_of {i : Nat} {en : En} (h : Nat.ble (i + 1) en.length = true) : i < en.length := Nat.le_of_ble_eq_true h
section
variable {α β γ σ ζ ξ : Type} {en : En} {f g h : En → Option PyData} {F G : En → Option Fl} {ea : α → PyData} {eb : β → PyData} {k l : En → Option Bool}
theorem n_conv {τ ζ' : Type} {A : Option τ} {env : σ → ζ → En} {env2 : τ → ζ' → En} {K : τ → σ} (p : NX (F en) A env2) (q : ∀ s z, ∃ z', env2 s z = env (K s) z') : NX (F en) (A.bind fun s => some (K s)) env := by
  cases A with
  | none => exact p
  | some s =>
    obtain ⟨z, e⟩ := p
    obtain ⟨z', h⟩ := q s z
    exact ⟨z', by rw [e, h]⟩
theorem t_ifP {b : Bool} {x y : α} (p : k en = some b) (pa : f en = (some x).map ea) (pb : g en = (some y).map ea) : fIf k f g en = (some (cond b x y)).map ea := by
  rw [t_if p pa pb]
  cases b <;> rfl
theorem t_andP {b c : Bool} (p : f en = (some b).map eB) (q : g en = (some c).map eB) : fAnd f g en = (some (b && c)).map eB := by
  rw [t_and p q]
  cases b <;> rfl
theorem t_kandP {b c : Bool} (p : k en = some b) (q : l en = some c) : kAnd k l en = some (b && c) := by
  rw [t_kand p q]
  cases b <;> rfl
theorem t_korP {b c : Bool} (p : k en = some b) (q : l en = some c) : kOr k l en = some (b || c) := by
  rw [t_kor p q]
  cases b <;> rfl
theorem t_chainP {x y z : Int} (pa : f en = (some x).map eI) (pb : g en = (some y).map eI) (pc : h en = (some z).map eI) : fChain gLe gLe f g h en = (some (decide (x ≤ y) && decide (y ≤ z))).map eB := by
  rw [t_chain pa pb pc]
  show Option.map eB (iteO (some (decide (x ≤ y))) (some (decide (y ≤ z))) (some false)) = _
  cases decide (x ≤ y) <;> rfl
end
theorem enc_I : Enc 0 eI := ⟨fun _ => rfl, fun _ => Nat.le_refl _, fun _ _ => rfl⟩
theorem enc_B : Enc 0 eB := ⟨fun _ => rfl, fun _ => Nat.le_refl _, fun a b => by cases a <;> cases b <;> rfl⟩
section
variable {α β γ δ : Type} [DecidableEq α] [DecidableEq β] [DecidableEq γ] [DecidableEq δ] {k l m n : Nat} {ea : α → PyData} {eb : β → PyData} {ec : γ → PyData} {ed : δ → PyData}
theorem Enc.lays (E : Enc k ea) : ∀ l : List α, PyData.canLayAll0 (l.map ea) = true
  | [] => by simp only [List.map_nil, PyData.canLayAll0]
  | a :: r => by
    simp only [List.map_cons, PyData.canLayAll0, E.lay a, E.lays r, Bool.and_self]
theorem Enc.deps (E : Enc k ea) : ∀ l : List α, PyData.depthAll (l.map ea) ≤ k
  | [] => by simp only [List.map_nil, PyData.depthAll]; exact Nat.zero_le _
  | a :: r => by
    simp only [List.map_cons, PyData.depthAll]
    exact Nat.max_le.mpr ⟨E.dep a, E.deps r⟩
theorem Enc.eqs (E : Enc k ea) : ∀ l m : List α, PyData.eqvAll (l.map ea) (m.map ea) = decide (l = m)
  | [], [] => by simp [PyData.eqvAll]
  | [], _ :: _ => by simp [PyData.eqvAll]
  | _ :: _, [] => by simp [PyData.eqvAll]
  | a :: r, b :: s => by
    simp only [List.map_cons, PyData.eqvAll, E.eq, E.eqs r s, List.cons.injEq, Bool.decide_and]
theorem enc_L (E : Enc k ea) : Enc (k + 1) (eL ea) := ⟨fun l => by simp only [eL, PyData.canLay0, E.lays l], fun l => by simp only [eL, PyData.depth]; exact Nat.succ_le_succ (E.deps l), fun a b => by simp only [eL, PyData.eqv, E.eqs a b]⟩
theorem enc_2 (E : Enc k ea) (F : Enc l eb) : Enc (max k l + 1) (e2 ea eb) := ⟨fun p => by simp only [e2, PyData.canLay0, PyData.canLayAll0, E.lay, F.lay, Bool.and_true], fun p => by
  simp only [e2, PyData.depth, PyData.depthAll]; have := E.dep p.1; have := F.dep p.2; omega, fun p q => by
  obtain ⟨a, b⟩ := p; obtain ⟨c, d⟩ := q
  simp only [e2, PyData.eqv, PyData.eqvAll, E.eq, F.eq, Bool.and_true, Prod.mk.injEq, Bool.decide_and]⟩
end
theorem pick_of {α : Type} {e : α → PyData} {l : List α} {Q : PyData → Prop} (h : ∀ x, x ∈ l → Q (e x)) : ∀ d ∈ l.map e, Q d := fun d hd => by
  obtain ⟨x, hx, rfl⟩ := List.mem_map.mp hd
  exact h x hx
theorem if_of {b : Bool} {P Q : Prop} (h1 : b = true → P) (h2 : b = false → Q) : if b = true then P else Q := by
  cases b with
  | true => exact h1 rfl
  | false => exact h2 rfl
def repL (l : List α) (k : Int) : Option (List α) := if -1000000 ≤ k ∧ k ≤ 1000 ∧ l.length ≤ 1000 then some (List.replicate k.toNat l).flatten else none
theorem g_repL {α : Type} {e : α → PyData} (x : List α) (k : Int) : gRepL (eL e x) (eI k) = (repL x k).map (eL e) := by
  show (if -1000000 ≤ k ∧ k ≤ 1000 ∧ (x.map e).length ≤ 1000 then some (PyData.list (List.replicate k.toNat (x.map e)).flatten) else none) = _
  unfold repL eL
  rw [List.length_map]
  split
  · simp [List.map_flatten, List.map_replicate]
  · rfl
def lenA : PyData → Option Int
  | .list ds => some ds.length
  | .tuple ds => some ds.length
  | _ => none
def ixA (d : PyData) (i : Int) : Option PyData := (items d).bind fun ds => atI ds i
theorem g_lenA (d : PyData) : gLen (eA d) = (lenA d).map eI := by cases d <;> rfl
theorem map_eA (o : Option PyData) : o.map eA = o := by cases o <;> rfl
theorem g_ixA (d : PyData) (i : Int) : gIx (eA d) (eI i) = (ixA d i).map eA := by
  rw [map_eA]
  rfl
theorem g_isNA (x : PyData) (y : Unit) : gIsN (eA x) (eU y) = (some (isNone x)).map eB := rfl
theorem noown1 {en : En} {i : Nat} (h : en[i]? = some .no) : ∀ j ∈ [i], ∀ es, en[j]? ≠ some (Slot.own es) := fun j hj es z => by
  rw [List.mem_singleton.mp hj, h] at z
  cases z
def rangeI (n : Int) : List Int := (List.range n.toNat).map fun (i : Nat) => (0 + (i : Int))
theorem rangeD_I (n : Int) : rangeD 0 n.toNat = (rangeI n).map eI := by
  unfold rangeD rangeI
  simp
theorem wlc_range {β : Type} {b : PyData → En → Option En} {F : WF} {en : En} {eb : β → PyData} {P : Int → β → Prop} {n : Int} {Q : List PyData → Prop} (hb : ∀ x, ∃ e1, b (eI x) en = some e1 ∧ ∀ Q : PyData → Prop, (∀ y, P x y → Q (eb y)) → F e1 Q) (h : ∀ ys : List β, All2 P (rangeI n) ys → Q (ys.map eb)) : wlcGo b wYes F en (rangeD 0 n.toNat) Q := by
  rw [rangeD_I]
  exact wlc_all hb _ _ h
theorem rangeD_len {n : Int} (h : n ≤ 1000000) : (rangeD 0 n.toNat).length ≤ 1000000 := by
  simp [rangeD]
  omega
end DN
namespace Ty
open PySem PySem.Spec PyProof.Rows L2 DN
section
variable {α β γ ξ σ : Type} {ea : α → PyData} {eb : β → PyData} {ec : γ → PyData} {en : En} {f g : En → Option PyData}
def bInt (b : Bool) : Int := if b then 1 else 0
theorem g_intB (x : Bool) : gInt (eB x) = (some (bInt x)).map eI := by cases x <;> rfl
def enumN : Nat → List α → List (Int × α)
  | _, [] => []
  | k, x :: r => ((k : Int), x) :: enumN (k + 1) r
theorem enum_map (e : α → PyData) : ∀ (k : Nat) (l : List α), enumD k (l.map e) = (enumN k l).map (e2 eI e)
  | _, [] => rfl
  | k, x :: r => by
    show PyData.tuple [.int (k : Nat), e x] :: enumD (k + 1) (r.map e) = _
    rw [enum_map e (k + 1) r]
    rfl
theorem i_enumR {e : α → PyData} {A : Option (List α)} (pa : f en = A.map (eR e)) : iEnumF f en = (A.bind fun x => some (enumN 0 x)).map (List.map (e2 eI e)) := by
  unfold iEnumF
  rw [pa]
  cases A with
  | none => rfl
  | some l => exact congrArg some (enum_map e 0 l)
theorem i_enumL {e : α → PyData} {A : Option (List α)} (pa : f en = A.map (eL e)) : iEnumF f en = (A.bind fun x => some (enumN 0 x)).map (List.map (e2 eI e)) := by
  unfold iEnumF
  rw [pa]
  cases A with
  | none => rfl
  | some l => exact congrArg some (enum_map e 0 l)
end
end Ty
namespace DN
open PySem PySem.Spec PyProof.Rows L2
theorem Rep.fresh {K : PySem.W.Frag} {Ts : TsT} {He : Hp} {O : List Addr} {σ : St} {H H1 : Hp} {en : En} {a : Addr} {vs : List V} (r : Rep K Ts He O σ H en) (x : Xt H H1) (t : Tb Ts H1) (na : H a = none) (ha : H1 a = some (.lst vs)) :
    Rep K Ts He (a :: O) σ H1 en ∧ Xt (hide H O) (hide H1 (a :: O)) := by
  have r1 := r.go x t
  have back : Xt (hide H O) (hide H1 (a :: O)) := fun b o e => by
    obtain ⟨e1, e2⟩ := hide_some e
    have nb : b ∉ a :: O := fun z => by
      rcases List.mem_cons.mp z with z | z
      · rw [z, na] at e2; cases e2
      · exact e1 z
    rcases x b o e2 with q | ⟨ps, qs, e3, q⟩
    · exact .inl (hide_of nb q)
    · exact .inr ⟨ps, qs, e3, hide_of nb q⟩
  refine ⟨⟨r.len, fun j d h => let ⟨v, q1, q2⟩ := r.dat j d h; ⟨v, q1, Dp.mono back q2⟩, fun j es h => let ⟨a', vs', q1, q2, q3, q4, q5⟩ := r.own j es h; ⟨a', vs', q1, List.mem_cons_of_mem _ q2, q3, x.get a' _ q4 (fun _ z => nomatch z), DpAll.mono back q5⟩, r.inj, fun b hb => ?_, r1.ext, t⟩, back⟩
  rcases List.mem_cons.mp hb with z | z
  · rw [z, ha]
    exact ⟨by simp, fun ps z => nomatch z⟩
  · exact r1.occ b z
end DN
set_option maxHeartbeats 400000
namespace PySem
end PySem
namespace DN
open PySem PySem.Spec PyProof.Rows L2
end DN
set_option maxHeartbeats 4000000
namespace DN
open PySem PySem.Spec PyProof.Rows L2 PySem.SeqAt
open AutoSeq1 (wpAny_loadPart')
open MeetsSeq MeetsSeq2 MeetsSeq3 SeqRoads2
end DN
namespace DN
open PySem PySem.Spec PyProof.Rows L2
theorem n_repL {X : Cx} {Ts : TsT} {pos : Pos} {a b : Expr} {fa fb : En → Option PyData} (ha : DNew X Ts a fa) (hb : DE X Ts b fb) : DNew X Ts (.BinOp a .Mult b pos) (fRepL fa fb) := PE.imp (pe_op op_rep ha hb) fun σ H Q ⟨He, O, en, d, rp, hf, kk⟩ => by
  obtain ⟨x, y, h1, h2, h3⟩ := f2_some hf
  cases x <;> cases y <;> simp only [gRepL] at h3 <;> try cases h3
  rename_i ds k
  split at h3
  · rename_i hk
    cases h3
    refine ⟨He, O, en, ds, rp, h1, fun c vs H1 x1 t1 na hc q1 => ?_⟩
    have nO : c ∉ O := rp.free na
    have r1 := rp.go x1 t1
    refine tD.of r1 h2 fun w H2 x2 r2 q2 => ?_
    cases q2
    have hs : Xt (hide H1 (c :: O)) (hide H1 O) := hide_sub fun b hb => List.mem_cons_of_mem _ hb
    have q3 : DpAll X.K (hide H2 O) vs ds := DpAll.mono (hs.trans (hide_mono x2)) q1
    have hl := DpAll.len q3
    refine ⟨c, k, vs, rfl, rfl, x2.get c _ hc (fun _ z => nomatch z), by omega, by omega, ?_, fun p np => kk p _ _ (x1.trans (x2.trans (Xt.upd np))) (r2.tabs.new np) ((x1.trans x2).there np) upd_same (DpAll.mono (fun b o e => by
      obtain ⟨e1, e2⟩ := hide_some e
      have hne := ne_of_none e2 np
      exact .inl (hide_of (fun z => (List.mem_cons.mp z).elim hne e1) (by rw [upd_ne hne]; exact e2))) (DpAll.rep q3 k.toNat))⟩
    rw [hl, sizeLine_eq]
    have : ds.length * k.toNat ≤ 1000 * 1000 := Nat.mul_le_mul hk.2.2 (by omega)
    omega
  · cases h3
theorem Rep.setAt {K : PySem.W.Frag} {Ts : TsT} {He : Hp} {O : List Addr} {σ : St} {H : Hp} {en : En} {i : Nat} {a : Addr} {vs : List V} {ds : List PyData} (rp : Rep K Ts He O σ H en) (hi : i < en.length) (hm : a ∈ O) (nE : He a = none) (ha : H a = some (.lst vs)) (q : DpAll K (hide H O) vs ds)
    (no : ∀ (j : Nat) (es : List PyData) (aa : Addr), en[j]? = some (Slot.own es) → σ[j]? = some (some (V.ref aa)) → aa ≠ a) : Rep K Ts He O (σ.set i (some (.ref a))) H (en.set i (.own ds)) := by
  have hs : i < σ.length := by rw [← rp.len]; exact hi
  refine ⟨by simp [rp.len], fun j d h => ?_, fun j es h => ?_, fun j k es es' aa h1 h2 h3 h4 => ?_, rp.occ, rp.ext, rp.tabs⟩
  · have hj : i ≠ j := fun z => by subst z; rw [List.getElem?_set_self hi] at h; cases h
    rw [List.getElem?_set_ne hj] at h ⊢
    exact rp.dat j d h
  · by_cases hj : i = j
    · subst hj
      rw [List.getElem?_set_self hi] at h
      cases h
      exact ⟨a, vs, List.getElem?_set_self hs, hm, nE, ha, q⟩
    · rw [List.getElem?_set_ne hj] at h ⊢
      exact rp.own j es h
  · by_cases hj : i = j
    · by_cases hk : i = k
      · exact hj.symm.trans hk
      · subst hj
        rw [List.getElem?_set_ne hk] at h2 h4
        rw [List.getElem?_set_self hs] at h3
        cases h3
        exact absurd rfl (no k es' a h2 h4)
    · rw [List.getElem?_set_ne hj] at h1 h3
      by_cases hk : i = k
      · subst hk
        rw [List.getElem?_set_self hs] at h4
        cases h4
        exact absurd rfl (no j es a h1 h3)
      · rw [List.getElem?_set_ne hk] at h2 h4
        exact rp.inj j k es es' aa h1 h2 h3 h4
def tWNew2 (K : PySem.W.Frag) (Ts : TsT) (ρ : Nat) (F : WF) : TE := fun σ H Q => ∃ He O en Qd, WRep K Ts ρ He O σ H en ∧ F en Qd ∧ ∀ ds a vs H', Qd (.list ds) → WRep K Ts ρ He (a :: O) σ H' en → (∀ (j : Nat) (es : List PyData) (aa : Addr), (∃ rw, (en.set ρ (Slot.own rw))[j]? = some (Slot.own es)) → σ[j]? = some (some (V.ref aa)) → aa ≠ a) → He a = none → H a = none → H' a = some (.lst vs) → DpAll K (hide H' (a :: O)) vs ds → Xt (hide H O) (hide H' (a :: O)) → (∀ r, σ[ρ]? = some (some (V.ref r)) → XtB r H H') → Q (.ref a) H'
section
variable {K : PySem.W.Frag} {X : Cx} {Ts : TsT} {ρ : Nat} {pos p : Pos} {e e2 tg iter elt : Expr} {es : List Expr} {f : En → Option PyData} {F G : WF} {it : En → (List PyData → Prop) → Prop} {b : PyData → En → Option En} {t : En → (Bool → Prop) → Prop}
theorem wlc_w2 {vs : List Nat} {σ : St} {H : Hp} {Q : VK} (hρ : ρ ∉ vs) (hbo : BOk ρ b) (hbv : ∀ (d : PyData) (en e1 : En) (j : Nat), j ∉ vs → b d en = some e1 → e1[j]? = en[j]?) (h : tWNew2 K Ts ρ (wLc it b t F vs) σ H Q) :
    tLc (tWI K Ts ρ it) (gWD K Ts ρ vs b) (tWT K Ts ρ t) (tW K Ts ρ F) vs σ H Q := by
  obtain ⟨He, O, en, Qd, rp, ⟨hno, hF⟩, kk⟩ := h
  refine ⟨He, O, en, _, rp, hF, fun ds J H1 ⟨hlen, hgo0⟩ r1 x1 gv D nD => ?_⟩
  have noD := r1.free nD
  obtain ⟨aρ, rwρ, wsρ, s1, s2, s3, s4, s5, s6⟩ := r1.at
  have hneρ : D ≠ aρ := fun z => by rw [← z, nD] at s4; cases s4
  have rD := r1.hid nD (o := .lst []) (fun _ z => nomatch z)
  have hDm : D ∈ D :: O := List.mem_cons_self
  have x0 : Xt (hide H1 O) (hide (upd H1 D (.lst [])) (D :: O)) := fun bb o e => by
    obtain ⟨e1, e2⟩ := hide_some e
    have hne := ne_of_none e2 nD
    exact .inl (hide_of (fun z => (List.mem_cons.mp z).elim hne e1) (by rw [upd_ne hne]; exact e2))
  have nDH : H D = none := by
    cases e : H D with
    | none => rfl
    | some o =>
      rcases x1.2 aρ s1 D o hneρ e with q | ⟨_, _, _, q⟩ <;> rw [q] at nD <;> cases nD
  have nDHe : He D = none := by
    obtain ⟨_, _, _, rp1⟩ := r1
    exact rp1.ext.there nD
  refine ⟨fun i m H2 => m = ds.length - i ∧ i ≤ ds.length ∧ Xt (hide H1 O) (hide H2 (D :: O)) ∧ XtB aρ H1 H2 ∧ WRep K Ts ρ He (D :: O) σ H2 en ∧ ∃ acc done, H2 D = some (.lst acc) ∧ DpAll K (hide H2 (D :: O)) acc done ∧ acc.length ≤ i ∧ wlcGo b t F (wipeE en vs) (ds.drop i) fun o => Qd (.list (done ++ o)),
    ⟨ds.length, by simp, Nat.zero_le _, x0, .of (Xt.upd nD), rD, [], [], upd_same, .nil, Nat.zero_le _, by simpa using hgo0⟩, fun i m H2 hW => ?_⟩
  obtain ⟨rfl, hi, x12, xb, r2, acc, done, hD, ha, hal, hgo⟩ := hW
  have occ2 : ∀ b ∈ D :: O, H2 b ≠ none ∧ ∀ ps, H2 b ≠ some (.tbl ps) := r2.occ
  obtain ⟨g1, g2, g3⟩ := gv (D :: O) H2 x12 (x12.trans hide_out) occ2
  by_cases hlt : i < ds.length
  · refine .inr ⟨g1 i hlt, fun H' => Xt (hide H1 O) (hide H' (D :: O)) ∧ XtB aρ H1 H' ∧ WRep K Ts ρ He (D :: O) σ H' en ∧ ∃ acc done, H' D = some (.lst acc) ∧ DpAll K (hide H' (D :: O)) acc done ∧ acc.length ≤ i + 1 ∧ wlcGo b t F (wipeE en vs) (ds.drop (i + 1)) fun o => Qd (.list (done ++ o)),
      fun H' ⟨a, c⟩ => ⟨ds.length - (i + 1), by omega, rfl, hlt, a, c⟩, fun x H3 hy => ?_⟩
    obtain ⟨d, hd, x23, t23, qd⟩ := g3 i x H3 hlt hy
    have r3 := r2.go x23 (t23 r2.tabs')
    rw [List.drop_eq_getElem_cons hlt] at hgo
    have hd' : ds[i] = d := by rw [List.getElem?_eq_getElem hlt] at hd; exact Option.some.inj hd
    rw [hd'] at hgo
    obtain ⟨e1, hb, hgo1⟩ := hgo
    refine ⟨He, D :: O, _, d, e1, r3.wipe hρ, qd, hb, fun σ2 r4 hw => ⟨hw.trans (wipe_wipe _ _), ?_⟩⟩
    have hsame : ∀ j, j ∉ vs → σ2[j]? = σ[j]? := fun j hj => by rw [← wipe_out hj, hw, wipe_wipe, wipe_out hj]
    have hown : ∀ (j : Nat) (es : List PyData), j ≠ ρ → en[j]? = some (Slot.own es) → e1[j]? = some (Slot.own es) ∧ σ2[j]? = σ[j]? := fun j es hj h1 => by
      have hjv : j ∉ vs := fun z => hno j z es h1
      exact ⟨by rw [hbv d _ e1 j hjv hb, wipeE_out hjv]; exact h1, hsame j hjv⟩
    have s1' : σ2[ρ]? = some (some (V.ref aρ)) := by rw [hsame ρ hρ]; exact s1
    have hD3 : H3 D = some (.lst acc) := x23.get D _ hD (fun _ z => nomatch z)
    refine ⟨He, D :: O, e1, _, r4, hgo1, fun k H4 hk r5 x34 => ?_⟩
    have hD4 : H4 D = some (.lst acc) := by
      rcases x34.2 aρ s1' D _ hneρ hD3 with q | ⟨_, _, z, _⟩
      · exact q
      · cases z
    have xh24 : Xt (hide H2 (D :: O)) (hide H4 (D :: O)) := (hide_mono x23).trans x34.1
    have xb4 : XtB aρ H1 H4 := (xb.trans (.of x23)).trans (x34.2 aρ s1')
    cases k with
    | false =>
      simp only [Bool.false_eq_true, if_false] at hk ⊢
      exact ⟨x12.trans xh24, xb4, r3.join r5 x34.1 (hsame ρ hρ) hown, acc, done, hD4, DpAll.mono xh24 ha, by omega, hk⟩
    | true =>
      simp only [if_true] at hk ⊢
      refine ⟨He, D :: O, e1, _, r5, hk, fun y v H5 hy5 r6 q6 x45 => ?_⟩
      have hD5 : H5 D = some (.lst acc) := by
        rcases x45.2 aρ s1' D _ hneρ hD4 with q | ⟨_, _, z, _⟩
        · exact q
        · cases z
      have xh25 := xh24.trans x45.1
      have xb5 : XtB aρ H1 H5 := xb4.trans (x45.2 aρ s1')
      have hu : Xt (hide H5 (D :: O)) (hide (upd H5 D (.lst (acc ++ [v]))) (D :: O)) := hide_upd hDm
      have r7 := r3.join r6 (x34.trans x45).1 (hsame ρ hρ) hown
      refine ⟨acc, hD5, by rw [sizeLine_eq]; omega, x12.trans (xh25.trans hu), fun bb o hb2 e => ?_, r7.grow hDm hD5 nDHe noD, acc ++ [v], done ++ [y], upd_same, DpAll.app (DpAll.mono (xh25.trans hu) ha) (.cons (Dp.mono hu q6) .nil), by rw [List.length_append]; simp; omega, by simpa using hy5⟩
      have hne : bb ≠ D := ne_of_none e nD
      rw [upd_ne hne]
      exact xb5 bb o hb2 e
  · have hie : i = ds.length := by omega
    subst hie
    rw [List.drop_of_length_le (Nat.le_refl _)] at hgo
    have hq : Qd (.list done) := by simpa [wlcGo] using hgo
    refine .inl ⟨g2, kk done D acc H2 hq r2 noD nDHe nDH hD ha (x1.1.trans x12) fun r hr => ?_⟩
    have : r = aρ := by rw [s1] at hr; cases hr; rfl
    subst this
    exact (x1.2 r s1).trans xb
end
abbrev WNew (X : Cx) (Ts : TsT) (ρ : Nat) (e : Expr) (F : WF) : Prop := PE X e (tWNew2 X.K Ts ρ F)
def lOwnW (i : Nat) (F : WF) : LF := fun en Q => F en fun d => ∃ ds, d = .list ds ∧ i < en.length ∧ Q (.nx (en.set i (.own ds)))
def lPut (ρ i : Nat) (g f : En → Option PyData) : LF := fun en Q => ∃ d k ds j, (∀ rw, f (en.set ρ (.own rw)) = some d) ∧ (∀ rw, g (en.set ρ (.own rw)) = some (.int k)) ∧ en[i]? = some (.own ds) ∧ ixN ds.length k = some j ∧ Q (.nx (en.set i (.own (ds.set j d))))
def lRel (i : Nat) : LF := fun en Q => ∃ ds, en[i]? = some (.own ds) ∧ Q (.nx (en.set i (.dat (.list ds))))
section
variable {X : Cx} {Ts : TsT} {ρ : Nat} {fin : Bool} {pos p : Pos} {st : Stmt} {rest : List Stmt} {F G : LF} {e elt tg iter : Expr} {ifs : List Expr} {scope : Scope} {own : List (Str × Nat)} {it : En → (List PyData → Prop) → Prop} {b : PyData → En → Option En} {t : En → (Bool → Prop) → Prop} {f : WF}
theorem wn_lc (hc : X.calm = true) (hN : X.N.Nodup) (hi : WI X Ts ρ tg iter it) (ok : BlkOk X.N X.env.scope scope own) (hρ : ρ ∉ own.map (·.2)) (hbo : BOk ρ b) (hbv : ∀ (d : PyData) (en e1 : En) (j : Nat), j ∉ own.map (·.2) → b d en = some e1 → e1[j]? = en[j]?)
    (hg : ∀ s H C cl fp, DG (BX X scope s H C cl fp) Ts tg (own.map (·.2)) b) (ht : ∀ s H C cl fp, PTs (BX X scope s H C cl fp) ifs (tWT X.K Ts ρ t))
    (he : ∀ s H C cl fp, WE (BX X scope s H C cl fp) Ts ρ elt f) (mf : Mn f) (mt : MnT t) (mi : MnI it) (hs : ∀ x, foldedSetIterable iter X.env x = pure x := by intro _; rfl) : WNew X Ts ρ (.ListComp elt [⟨tg, iter, ifs, 0⟩] scope pos) (wLc it b t f (own.map (·.2))) :=
  PE.imp (pe_lc hc hN hi ok (fun s H C cl fp => wg_of (hg s H C cl fp) hbo) (fun s H C cl fp => ht s H C cl fp) (fun s H C cl fp => he s H C cl fp) hs) fun σ H Q h => wlc_w2 hρ hbo hbv h
theorem v_ownW {i : Nat} {x : Str} {pos' : Pos} (hN : X.N.Nodup) (hi : X.N[i]? = some x) (hx : Loc X.env.scope x) (hiρ : i ≠ ρ) (he : WNew X Ts ρ e f) (hs : swapsWith e (some (.Name x pos')) pos.line X.env = pure false := by rfl) (hf : X.fn x = true ∨ X.env.scope.names.lookup x = some .local := by first | exact .inl rfl | exact .inr rfl | assumption) :
    VS X Ts ρ fin (.Assign [.Name x pos'] e pos) (lOwnW i f) := PS.imp (ps_set hN hi hx he hs hf) fun D σ H ⟨aa, He, O₀, Vz, en, Q, ⟨O, s1, rp, hA, xv⟩, hF, k, _⟩ => by
    refine ⟨He, O, en, _, rp, hF, fun ds a vs H' hq r' no nE na ha q x xb => ?_⟩
    obtain ⟨ds', h1, h2, h3⟩ := hq
    cases h1
    obtain ⟨hl, rw, hr, rp1⟩ := r'
    have r2 := rp1.setAt (i := i) (by simpa using h2) List.mem_cons_self nE ha q (fun j es aa g1 g2 => no j es aa ⟨rw, g1⟩ g2)
    rw [List.set_comm _ _ (Ne.symm hiρ)] at r2
    exact k _ _ H' h3 ⟨a :: O, fun b hb => ⟨List.mem_cons_of_mem _ (s1 b hb).1, (s1 b hb).2⟩, ⟨by simpa using hl, rw, hr, r2⟩, by rw [List.getElem?_set_ne hiρ]; exact hA, xv.trans x⟩
theorem v_put {i : Nat} {x : Str} {px pos' : Pos} {ie : Expr} {g f : En → Option PyData} (hiρ : i ≠ ρ) (he : DE X Ts e f) (hi : DE X Ts ie g) (hN : X.N[i]? = some x := by rfl) (hv : Vis X.env.scope x := by first | exact Or.inl rfl | exact Or.inr (Or.inl rfl) | exact Or.inr (Or.inr rfl)) (hd : (x == ("__debug__" : Str)) = false := by decide) (hcd : (x == ("__classdict__" : Str)) = false := by decide)
    (hs : swapsWithSole [.Subscript (.Name x px) ie pos'] e pos.line X.env = pure false := by rfl) (hw : swappedStores [.Subscript (.Name x px) ie pos'] e X.env = pure none := by rfl)
    (h1 : (assignEach [.Subscript (.Name x px) ie pos'] X.env).map (·.2) = [assign (.Subscript (.Name x px) ie pos') X.env] := by rfl)
    (ha : ∀ v, assign (.Subscript (.Name x px) ie pos') X.env v = (do
      let ov ← holding [v] (eval (.Name x px) X.env)
      let iv ← holding [v, ov] (eval ie X.env)
      standAt pos'
      holding [v, ov, iv] (setItem ov iv v)
      release [v, ov, iv] []) := by intro _; rfl) : VS X Ts ρ fin (.Assign [.Subscript (.Name x px) ie pos'] e pos) (lPut ρ i g f) :=
  PS.imp (ps_asg he (pg_sub (pe_var hN hv hd hcd) hi set_list ha) hs hw h1) fun D σ H ⟨aa, He, O₀, Vz, en, Q, ⟨O, s1, ⟨hl, rw, hr, rp⟩, hA, xv⟩, ⟨d, kk, ds, j, g1, g2, g3, g4, hq⟩, k, _⟩ => by
    have hk : (en.set ρ (.own rw))[i]? = some (.own ds) := by rw [List.getElem?_set_ne (Ne.symm hiρ)]; exact g3
    refine tD.of rp (g1 rw) fun v H1 x1 r1 q1 => ?_
    obtain ⟨a, vs, p1, p2, p3, p4, p5⟩ := r1.own i ds hk
    refine ⟨.ref a, p1, tD.of r1 (g2 rw) fun w H2 x2 r2 q2 => ?_⟩
    cases q2
    have p4' := x2.get a _ p4 (fun _ z => nomatch z)
    have q1' := Dp.mono (hide_mono (O := O) x2) q1
    have p5' := DpAll.mono (hide_mono (O := O) x2) p5
    have r3 := r2.put hk p1 p2 p3 p4' (DpAll.put j p5' q1')
    rw [List.set_comm _ _ (Ne.symm hiρ)] at r3
    exact ⟨a, vs, kk, j, rfl, rfl, p4', by rw [DpAll.len p5]; exact g4, k _ σ _ hq ⟨O, s1, ⟨by simpa using hl, rw, hr, r3⟩, hA, xv.trans ((hide_mono (x1.trans x2)).trans (hide_upd p2))⟩⟩
theorem Rep.rel {K : PySem.W.Frag} {Ts : TsT} {He : Hp} {O : List Addr} {σ : St} {H : Hp} {en : En} {i : Nat} {ds : List PyData} (rp : Rep K Ts He O σ H en) (hd : en[i]? = some (.own ds)) : ∃ O', (∀ b ∈ O', b ∈ O) ∧ (∀ b ∈ O, He b ≠ none → b ∈ O') ∧ Rep K Ts He O' σ H (en.set i (.dat (.list ds))) := by
  obtain ⟨a, vs, p1, p2, p3, p4, p5⟩ := rp.own i ds hd
  have hi : i < en.length := (List.getElem?_eq_some_iff.mp hd).1
  have hsub : ∀ b ∈ O.filter (fun b => decide (b ≠ a)), b ∈ O := fun b hb => (List.mem_filter.mp hb).1
  have nA : a ∉ O.filter (fun b => decide (b ≠ a)) := fun z => by simpa using (List.mem_filter.mp z).2
  have hs : Xt (hide H O) (hide H (O.filter (fun b => decide (b ≠ a)))) := hide_sub hsub
  refine ⟨O.filter (fun b => decide (b ≠ a)), hsub, fun b hb nb => List.mem_filter.mpr ⟨hb, decide_eq_true fun z => nb (by rw [z]; exact p3)⟩, ⟨by simp [rp.len], fun j d h => ?_, fun j es h => ?_, fun j k es es' aa h1 h2 h3 h4 => ?_, fun b hb => rp.occ b (hsub b hb), rp.ext, rp.tabs⟩⟩
  · by_cases hj : i = j
    · subst hj
      rw [List.getElem?_set_self hi] at h
      cases h
      exact ⟨.ref a, p1, .lst (.inl (.inl (hide_of nA p4))) (DpAll.mono hs p5)⟩
    · rw [List.getElem?_set_ne hj] at h
      obtain ⟨v, q1, q2⟩ := rp.dat j d h
      exact ⟨v, q1, Dp.mono hs q2⟩
  · have hj : i ≠ j := fun z => by subst z; rw [List.getElem?_set_self hi] at h; cases h
    rw [List.getElem?_set_ne hj] at h
    obtain ⟨a', vs', q1, q2, q3, q4, q5⟩ := rp.own j es h
    refine ⟨a', vs', q1, List.mem_filter.mpr ⟨q2, decide_eq_true fun z => hj ?_⟩, q3, q4, DpAll.mono hs q5⟩
    subst z
    exact rp.inj i j ds es a' hd h p1 q1
  · have hj : i ≠ j := fun z => by subst z; rw [List.getElem?_set_self hi] at h1; cases h1
    have hk : i ≠ k := fun z => by subst z; rw [List.getElem?_set_self hi] at h2; cases h2
    rw [List.getElem?_set_ne hj] at h1
    rw [List.getElem?_set_ne hk] at h2
    exact rp.inj j k es es' aa h1 h2 h3 h4
theorem v_rel (i : Nat) (hiρ : i ≠ ρ) (h : VSs X Ts ρ fin rest G) : VSs X Ts ρ fin rest (lSeq (lRel i) G) := PSs.imp h fun D σ H ⟨aa, He, O₀, Vz, en, Q, ⟨O, s1, ⟨hl, rw, hr, rp⟩, hA, xv⟩, hF, k, l⟩ => by
  obtain ⟨ds, hd, hQ⟩ := hF
  have hk : (en.set ρ (.own rw))[i]? = some (.own ds) := by rw [List.getElem?_set_ne (Ne.symm hiρ)]; exact hd
  obtain ⟨a, vs, p1, p2, p3, p4, p5⟩ := rp.own i ds hk
  have hne : a ≠ aa := fun z => by
    subst z
    exact hiρ (rp.inj i ρ ds rw a hk (by rw [List.getElem?_set_self hl]) p1 hA)
  obtain ⟨O', o1, o2, r2⟩ := rp.rel hk
  rw [List.set_comm _ _ (Ne.symm hiρ)] at r2
  refine ⟨aa, He, O₀, Vz, _, Q, ⟨O', fun b hb => ⟨?_, (s1 b hb).2⟩, ⟨by simpa using hl, rw, hr, r2⟩, hA, xv.trans (hide_sub o1)⟩, hQ, k, l⟩
  rcases (s1 b hb).2 with q | q
  · obtain ⟨aρ, vρ, w1, w2, _⟩ := r2.own ρ rw (by rw [List.getElem?_set_self (by simpa using hl)])
    rw [hA] at w1
    cases w1
    rw [q]
    exact w2
  · exact o2 b (s1 b hb).1 q
end
end DN
namespace Ty
open PySem PySem.Spec PyProof.Rows L2 DN
def FUEL : Nat := 100000000
def F_is_whole : En → Option Fl := (sRet (fAnd (fIsi isInt (fVar 0)) (fNot (fIsi isBool (fVar 0)))))
def S_is_whole := runD 1 (F_is_whole)
def F_is_between (c_is_whole : List PyData → Option PyData) : En → Option Fl := (sRet (fAnd (fCall 1 c_is_whole (fCons (fVar 0) fNil)) (fChain gLe gLe (fVar 1) (fVar 0) (fVar 2))))
def S_is_between := runD 3 (F_is_between S_is_whole)
def F_ratio : En → Option Fl := (sSeq (sSet 2 (fGcd (fVar 0) (fVar 1))) (sRet (fTup (fCons (fDiv (fVar 0) (fVar 2)) (fCons (fDiv (fVar 1) (fVar 2)) fNil)))))
def S_ratio := runD 3 (F_ratio)
def F__law_ratio (w0 : En → Nat) : En → Option Fl := (sSeq (sPar 2 3 (fAbs (fVar 0)) (fAbs (fVar 1))) (sSeq (sWhile w0 (fT (fNe (fVar 3) (fLit (.int 0)))) (sPar 2 3 (fVar 3) (fMod (fInt (fVar 2)) (fVar 3)))) (sRet (fIf (fT (fGt (fVar 1) (fLit (.int 0)))) (fTup (fCons (fDiv (fVar 0) (fVar 2)) (fCons (fDiv (fVar 1) (fVar 2)) fNil))) (fTup (fCons (fSub (fLit (.int 0)) (fDiv (fVar 0) (fVar 2))) (fCons (fSub (fLit (.int 0)) (fDiv (fVar 1) (fVar 2))) fNil)))))))
def S__law_ratio := runD 4 (F__law_ratio (fun _ => FUEL))
def F__law_plus (c__law_ratio : List PyData → Option PyData) : En → Option Fl := (sRet (fCall 2 c__law_ratio (fCons (fPlus (fTimes (fIx (fVar 0) (fLit (.int 0))) (fIx (fVar 1) (fLit (.int 1)))) (fTimes (fIx (fVar 1) (fLit (.int 0))) (fIx (fVar 0) (fLit (.int 1))))) (fCons (fTimes (fIx (fVar 0) (fLit (.int 1))) (fIx (fVar 1) (fLit (.int 1)))) fNil))))
def S__law_plus := runD 2 (F__law_plus S__law_ratio)
def F__law_by (c__law_ratio : List PyData → Option PyData) : En → Option Fl := (sRet (fCall 2 c__law_ratio (fCons (fTimes (fIx (fVar 0) (fLit (.int 0))) (fIx (fVar 1) (fLit (.int 0)))) (fCons (fTimes (fIx (fVar 0) (fLit (.int 1))) (fIx (fVar 1) (fLit (.int 1)))) fNil))))
def S__law_by := runD 2 (F__law_by S__law_ratio)
def F__law_sum (c__law_plus : List PyData → Option PyData) : En → Option Fl := (sSeq (sSet 1 (fTup (fCons (fLit (.int 0)) (fCons (fLit (.int 1)) fNil)))) (sSeq (sFor (iSeq (fVar 0)) (bName 2) (sSet 1 (fCall 2 c__law_plus (fCons (fVar 1) (fCons (fVar 2) fNil))))) (sRet (fVar 1))))
def S__law_sum := runD 3 (F__law_sum S__law_plus)
def N__law_ratio (top' : Int) (bottom' : Int) : Option (Int × Int) := ((some (abs1 top')).bind fun one_3 => (some (abs1 bottom')).bind fun other_4 => ((whileO (fun s5 => (some (!decide (s5.2 = (0 : Int))))) (fun s5 => ((some s5.2).bind fun one_12 => (modO s5.1 s5.2).bind fun other_13 => some (one_12, other_13))) FUEL (one_3, other_4)).bind fun s14 => (iteO (some (decide ((0 : Int) < bottom'))) ((divO top' s14.1).bind fun x22 => (divO bottom' s14.1).bind fun x23 => some (x22, x23)) (((some (0 : Int)).bind fun x26 => (divO top' s14.1).bind fun y27 => some (x26 - y27)).bind fun x32 => ((some (0 : Int)).bind fun x30 => (divO bottom' s14.1).bind fun y31 => some (x30 - y31)).bind fun x33 => some (x32, x33)))))
theorem t__law_ratio (top' : Int) (bottom' : Int) : S__law_ratio [eI top', eI bottom'] = (N__law_ratio top' bottom').map (e2 eI eI) := d_run (r_seq_par (i := 2) (j := 3) (A := (some (abs1 top'))) (B := (some (abs1 bottom'))) (t_f1 (A := (some top')) (h := (fun x1 => some (abs1 x1))) g_abs (t_var (i := 0) (e := eI) (v := top') rfl)) (t_f1 (A := (some bottom')) (h := (fun x2 => some (abs1 x2))) g_abs (t_var (i := 1) (e := eI) (v := bottom') rfl)) (lt_of rfl) (lt_of rfl) (fun one_3 other_4 => (r_seq_nx (env := (fun (s : (Int × Int)) (z : Unit) => [.dat (eI top'), .dat (eI bottom'), .dat (eI s.1), .dat (eI s.2)])) (A := (whileO (fun s5 => (some (!decide (s5.2 = (0 : Int))))) (fun s5 => ((some s5.2).bind fun one_12 => (modO s5.1 s5.2).bind fun other_13 => some (one_12, other_13))) FUEL (one_3, other_4))) (n_while (env := (fun (s : (Int × Int)) (z : Unit) => [.dat (eI top'), .dat (eI bottom'), .dat (eI s.1), .dat (eI s.2)])) (s := (one_3, other_4)) (z := ()) (T := fun s5 => (some (!decide (s5.2 = (0 : Int))))) (Bd := fun s5 => ((some s5.2).bind fun one_12 => (modO s5.1 s5.2).bind fun other_13 => some (one_12, other_13))) rfl (fun s5 z6 => (t_T (P := (some (!decide (s5.2 = (0 : Int))))) (t_f2 (A := (some s5.2)) (B := (some (0 : Int))) (h := (fun x7 y8 => some (!decide (x7 = y8)))) (g_ne enc_I rfl) (t_var (i := 3) (e := eI) (v := s5.2) rfl) (t_int (i := 0))))) (fun s5 z6 => (n_par  (K := fun one_12 other_13 => (one_12, other_13)) (i := 2) (j := 3) (A := (some s5.2)) (B := (modO s5.1 s5.2)) (t_var (i := 3) (e := eI) (v := s5.2) rfl) (t_f2 (A := (some s5.1)) (B := (some s5.2)) (h := (fun x10 y11 => (modO x10 y11))) g_mod (t_f1 (A := (some s5.1)) (h := (fun x9 => some x9)) g_int (t_var (i := 2) (e := eI) (v := s5.1) rfl)) (t_var (i := 3) (e := eI) (v := s5.2) rfl)) (lt_of rfl) (lt_of rfl) (fun one_12 other_13 => ⟨(), rfl⟩)))) (fun s14 z15 => (r_ret (A := (iteO (some (decide ((0 : Int) < bottom'))) ((divO top' s14.1).bind fun x22 => (divO bottom' s14.1).bind fun x23 => some (x22, x23)) (((some (0 : Int)).bind fun x26 => (divO top' s14.1).bind fun y27 => some (x26 - y27)).bind fun x32 => ((some (0 : Int)).bind fun x30 => (divO bottom' s14.1).bind fun y31 => some (x30 - y31)).bind fun x33 => some (x32, x33)))) (t_if (P := (some (decide ((0 : Int) < bottom')))) (A := ((divO top' s14.1).bind fun x22 => (divO bottom' s14.1).bind fun x23 => some (x22, x23))) (B := (((some (0 : Int)).bind fun x26 => (divO top' s14.1).bind fun y27 => some (x26 - y27)).bind fun x32 => ((some (0 : Int)).bind fun x30 => (divO bottom' s14.1).bind fun y31 => some (x30 - y31)).bind fun x33 => some (x32, x33))) (t_T (P := (some (decide ((0 : Int) < bottom')))) (t_f2 (A := (some bottom')) (B := (some (0 : Int))) (h := (fun x16 y17 => some (decide (y17 < x16)))) g_gt (t_var (i := 1) (e := eI) (v := bottom') rfl) (t_int (i := 0)))) (t_tup2 (A := (divO top' s14.1)) (B := (divO bottom' s14.1)) (t_f2 (A := (some top')) (B := (some s14.1)) (h := (fun x18 y19 => (divO x18 y19))) g_div (t_var (i := 0) (e := eI) (v := top') rfl) (t_var (i := 2) (e := eI) (v := s14.1) rfl)) (t_f2 (A := (some bottom')) (B := (some s14.1)) (h := (fun x20 y21 => (divO x20 y21))) g_div (t_var (i := 1) (e := eI) (v := bottom') rfl) (t_var (i := 2) (e := eI) (v := s14.1) rfl))) (t_tup2 (A := ((some (0 : Int)).bind fun x26 => (divO top' s14.1).bind fun y27 => some (x26 - y27))) (B := ((some (0 : Int)).bind fun x30 => (divO bottom' s14.1).bind fun y31 => some (x30 - y31))) (t_f2 (A := (some (0 : Int))) (B := (divO top' s14.1)) (h := (fun x26 y27 => some (x26 - y27))) g_sub (t_int (i := 0)) (t_f2 (A := (some top')) (B := (some s14.1)) (h := (fun x24 y25 => (divO x24 y25))) g_div (t_var (i := 0) (e := eI) (v := top') rfl) (t_var (i := 2) (e := eI) (v := s14.1) rfl))) (t_f2 (A := (some (0 : Int))) (B := (divO bottom' s14.1)) (h := (fun x30 y31 => some (x30 - y31))) g_sub (t_int (i := 0)) (t_f2 (A := (some bottom')) (B := (some s14.1)) (h := (fun x28 y29 => (divO x28 y29))) g_div (t_var (i := 1) (e := eI) (v := bottom') rfl) (t_var (i := 2) (e := eI) (v := s14.1) rfl))))))))))
def N__law_plus (one' : (Int × Int)) (other' : (Int × Int)) : Option (Int × Int) := (((mulO one'.1 other'.2).bind fun x9 => (mulO other'.1 one'.2).bind fun y10 => some (x9 + y10)).bind fun a15 => (mulO one'.2 other'.2).bind fun a16 => N__law_ratio a15 a16)
theorem t__law_plus (one' : (Int × Int)) (other' : (Int × Int)) : S__law_plus [(e2 eI eI) one', (e2 eI eI) other'] = (N__law_plus one' other').map (e2 eI eI) := d_run (r_ret (A := (((mulO one'.1 other'.2).bind fun x9 => (mulO other'.1 one'.2).bind fun y10 => some (x9 + y10)).bind fun a15 => (mulO one'.2 other'.2).bind fun a16 => N__law_ratio a15 a16)) (t_call2 (A := ((mulO one'.1 other'.2).bind fun x9 => (mulO other'.1 one'.2).bind fun y10 => some (x9 + y10))) (B := (mulO one'.2 other'.2)) t__law_ratio (t_f2 (A := (mulO one'.1 other'.2)) (B := (mulO other'.1 one'.2)) (h := (fun x9 y10 => some (x9 + y10))) g_add (t_f2 (A := (some one'.1)) (B := (some other'.2)) (h := (fun x3 y4 => (mulO x3 y4))) g_mul (t_ixc (A := (some one')) (k := 0) (pr := fun x1 => x1.1) (eb := eI) (fun _ => rfl) (t_var (i := 0) (e := (e2 eI eI)) (v := one') rfl)) (t_ixc (A := (some other')) (k := 1) (pr := fun x2 => x2.2) (eb := eI) (fun _ => rfl) (t_var (i := 1) (e := (e2 eI eI)) (v := other') rfl))) (t_f2 (A := (some other'.1)) (B := (some one'.2)) (h := (fun x7 y8 => (mulO x7 y8))) g_mul (t_ixc (A := (some other')) (k := 0) (pr := fun x5 => x5.1) (eb := eI) (fun _ => rfl) (t_var (i := 1) (e := (e2 eI eI)) (v := other') rfl)) (t_ixc (A := (some one')) (k := 1) (pr := fun x6 => x6.2) (eb := eI) (fun _ => rfl) (t_var (i := 0) (e := (e2 eI eI)) (v := one') rfl)))) (t_f2 (A := (some one'.2)) (B := (some other'.2)) (h := (fun x13 y14 => (mulO x13 y14))) g_mul (t_ixc (A := (some one')) (k := 1) (pr := fun x11 => x11.2) (eb := eI) (fun _ => rfl) (t_var (i := 0) (e := (e2 eI eI)) (v := one') rfl)) (t_ixc (A := (some other')) (k := 1) (pr := fun x12 => x12.2) (eb := eI) (fun _ => rfl) (t_var (i := 1) (e := (e2 eI eI)) (v := other') rfl)))))
def N__law_by (one' : (Int × Int)) (other' : (Int × Int)) : Option (Int × Int) := ((mulO one'.1 other'.1).bind fun a9 => (mulO one'.2 other'.2).bind fun a10 => N__law_ratio a9 a10)
theorem t__law_by (one' : (Int × Int)) (other' : (Int × Int)) : S__law_by [(e2 eI eI) one', (e2 eI eI) other'] = (N__law_by one' other').map (e2 eI eI) := d_run (r_ret (A := ((mulO one'.1 other'.1).bind fun a9 => (mulO one'.2 other'.2).bind fun a10 => N__law_ratio a9 a10)) (t_call2 (A := (mulO one'.1 other'.1)) (B := (mulO one'.2 other'.2)) t__law_ratio (t_f2 (A := (some one'.1)) (B := (some other'.1)) (h := (fun x3 y4 => (mulO x3 y4))) g_mul (t_ixc (A := (some one')) (k := 0) (pr := fun x1 => x1.1) (eb := eI) (fun _ => rfl) (t_var (i := 0) (e := (e2 eI eI)) (v := one') rfl)) (t_ixc (A := (some other')) (k := 0) (pr := fun x2 => x2.1) (eb := eI) (fun _ => rfl) (t_var (i := 1) (e := (e2 eI eI)) (v := other') rfl))) (t_f2 (A := (some one'.2)) (B := (some other'.2)) (h := (fun x7 y8 => (mulO x7 y8))) g_mul (t_ixc (A := (some one')) (k := 1) (pr := fun x5 => x5.2) (eb := eI) (fun _ => rfl) (t_var (i := 0) (e := (e2 eI eI)) (v := one') rfl)) (t_ixc (A := (some other')) (k := 1) (pr := fun x6 => x6.2) (eb := eI) (fun _ => rfl) (t_var (i := 1) (e := (e2 eI eI)) (v := other') rfl)))))
def N__law_sum (some' : (List (Int × Int))) : Option (Int × Int) := ((some ((0 : Int), (1 : Int))).bind fun found_1 => ((foldO (fun i4 s2 => ((N__law_plus s2 i4).bind fun found_5 => some found_5)) some' found_1).bind fun s6 => (some s6)))
theorem t__law_sum (some' : (List (Int × Int))) : S__law_sum [(eL (e2 eI eI)) some'] = (N__law_sum some').map (e2 eI eI) := d_run (r_seq_set (i := 1) (A := (some ((0 : Int), (1 : Int)))) (t_tup2 (A := (some (0 : Int))) (B := (some (1 : Int))) (t_int (i := 0)) (t_int (i := 1))) (lt_of rfl) (fun found_1 => (r_seq_nx (env := (fun (s : ((Int × Int))) (z : (Slot)) => [.dat ((eL (e2 eI eI)) some'), .dat ((e2 eI eI) s), z])) (A := (foldO (fun i4 s2 => ((N__law_plus s2 i4).bind fun found_5 => some found_5)) some' found_1)) (n_for (env := (fun (s : ((Int × Int))) (z : (Slot)) => [.dat ((eL (e2 eI eI)) some'), .dat ((e2 eI eI) s), z])) (s := found_1) (z := (.no : Slot)) (L := (some some')) (ea := (e2 eI eI)) (Bd := (fun i4 s2 => ((N__law_plus s2 i4).bind fun found_5 => some found_5))) rfl (i_seqL (A := (some some')) (e := (e2 eI eI)) (t_var (i := 0) (e := (eL (e2 eI eI))) (v := some') rfl)) (fun i4 s2 z3 => ⟨[.dat ((eL (e2 eI eI)) some'), .dat ((e2 eI eI) s2), .dat ((e2 eI eI) i4)], rfl, (n_set  (K := fun found_5 => found_5) (i := 1) (A := (N__law_plus s2 i4)) (t_call2 (A := (some s2)) (B := (some i4)) t__law_plus (t_var (i := 1) (e := (e2 eI eI)) (v := s2) rfl) (t_var (i := 2) (e := (e2 eI eI)) (v := i4) rfl)) (lt_of rfl) (fun found_5 => ⟨(.dat ((e2 eI eI) i4) : Slot), rfl⟩))⟩)) (fun s6 z7 => (r_ret (A := (some s6)) (t_var (i := 1) (e := (e2 eI eI)) (v := s6) rfl))))))
def N_is_whole (value' : Int) : Option Bool := (some (true && (!false)))
theorem t_is_whole (value' : Int) : S_is_whole [eI value'] = (N_is_whole value').map eB := d_run (r_ret (A := (some (true && (!false)))) (t_andP (b := true) (c := (!false)) (t_isi (A := (some value')) (b := fun x1 => true) (fun _ => rfl) (t_var (i := 0) (e := eI) (v := value') rfl)) (t_not (P := (some false)) (t_isi (A := (some value')) (b := fun x2 => false) (fun _ => rfl) (t_var (i := 0) (e := eI) (v := value') rfl)))))
def N_is_between (value' : Int) (least' : Int) (most' : Int) : Option Bool := (andO (N_is_whole value') (some (decide (least' ≤ value') && decide (value' ≤ most'))))
theorem t_is_between (value' : Int) (least' : Int) (most' : Int) : S_is_between [eI value', eI least', eI most'] = (N_is_between value' least' most').map eB := d_run (r_ret (A := (andO (N_is_whole value') (some (decide (least' ≤ value') && decide (value' ≤ most'))))) (t_and (P := (N_is_whole value')) (Q := (some (decide (least' ≤ value') && decide (value' ≤ most')))) (t_call1 (A := (some value')) t_is_whole (t_var (i := 0) (e := eI) (v := value') rfl)) (t_chainP (x := least') (y := value') (z := most') (t_var (i := 1) (e := eI) (v := least') rfl) (t_var (i := 0) (e := eI) (v := value') rfl) (t_var (i := 2) (e := eI) (v := most') rfl))))
def N_ratio (top' : Int) (bottom' : Int) : Option (Int × Int) := ((some ((Nat.gcd (top').natAbs (bottom').natAbs : Nat) : Int)).bind fun shared_1 => ((divO top' shared_1).bind fun x8 => (divO bottom' shared_1).bind fun x9 => some (x8, x9)))
theorem t_ratio (top' : Int) (bottom' : Int) : S_ratio [eI top', eI bottom'] = (N_ratio top' bottom').map (e2 eI eI) := d_run (r_seq_set (i := 2) (A := (some ((Nat.gcd (top').natAbs (bottom').natAbs : Nat) : Int))) (t_f2 (A := (some top')) (B := (some bottom')) (h := (fun x2 y3 => some ((Nat.gcd (x2).natAbs (y3).natAbs : Nat) : Int))) g_gcd (t_var (i := 0) (e := eI) (v := top') rfl) (t_var (i := 1) (e := eI) (v := bottom') rfl)) (lt_of rfl) (fun shared_1 => (r_ret (A := ((divO top' shared_1).bind fun x8 => (divO bottom' shared_1).bind fun x9 => some (x8, x9))) (t_tup2 (A := (divO top' shared_1)) (B := (divO bottom' shared_1)) (t_f2 (A := (some top')) (B := (some shared_1)) (h := (fun x4 y5 => (divO x4 y5))) g_div (t_var (i := 0) (e := eI) (v := top') rfl) (t_var (i := 2) (e := eI) (v := shared_1) rfl)) (t_f2 (A := (some bottom')) (B := (some shared_1)) (h := (fun x6 y7 => (divO x6 y7))) g_div (t_var (i := 1) (e := eI) (v := bottom') rfl) (t_var (i := 2) (e := eI) (v := shared_1) rfl))))))
def F_is_ratio (c_is_whole : List PyData → Option PyData) : En → Option Fl := (sSeq (sIf (kNot (kAnd (fT (fIsi isTup (fVar 0))) (fT (fEq (fLen (fVar 0)) (fLit (.int 2)))))) (sRet (fLit (.bool false))) sNil) (sSeq (sBind (bTup [1, 2]) (fVar 0)) (sRet (fAnd (fCall 1 c_is_whole (fCons (fVar 1) fNil)) (fAnd (fCall 1 c_is_whole (fCons (fVar 2) fNil)) (fAnd (fGt (fVar 2) (fLit (.int 0))) (fEq (fGcd (fVar 1) (fVar 2)) (fLit (.int 1)))))))))
def S_is_ratio := runD 3 (F_is_ratio S_is_whole)
def F_plus (c_ratio : List PyData → Option PyData) : En → Option Fl := (sRet (fCall 2 c_ratio (fCons (fPlus (fTimes (fIx (fVar 0) (fLit (.int 0))) (fIx (fVar 1) (fLit (.int 1)))) (fTimes (fIx (fVar 1) (fLit (.int 0))) (fIx (fVar 0) (fLit (.int 1))))) (fCons (fTimes (fIx (fVar 0) (fLit (.int 1))) (fIx (fVar 1) (fLit (.int 1)))) fNil))))
def S_plus := runD 2 (F_plus S_ratio)
def F_times (c_ratio : List PyData → Option PyData) : En → Option Fl := (sRet (fCall 2 c_ratio (fCons (fTimes (fIx (fVar 0) (fLit (.int 0))) (fIx (fVar 1) (fLit (.int 0)))) (fCons (fTimes (fIx (fVar 0) (fLit (.int 1))) (fIx (fVar 1) (fLit (.int 1)))) fNil))))
def S_times := runD 2 (F_times S_ratio)
def N_plus (one' : (Int × Int)) (other' : (Int × Int)) : Option (Int × Int) := (((mulO one'.1 other'.2).bind fun x9 => (mulO other'.1 one'.2).bind fun y10 => some (x9 + y10)).bind fun a15 => (mulO one'.2 other'.2).bind fun a16 => N_ratio a15 a16)
theorem t_plus (one' : (Int × Int)) (other' : (Int × Int)) : S_plus [(e2 eI eI) one', (e2 eI eI) other'] = (N_plus one' other').map (e2 eI eI) := d_run (r_ret (A := (((mulO one'.1 other'.2).bind fun x9 => (mulO other'.1 one'.2).bind fun y10 => some (x9 + y10)).bind fun a15 => (mulO one'.2 other'.2).bind fun a16 => N_ratio a15 a16)) (t_call2 (A := ((mulO one'.1 other'.2).bind fun x9 => (mulO other'.1 one'.2).bind fun y10 => some (x9 + y10))) (B := (mulO one'.2 other'.2)) t_ratio (t_f2 (A := (mulO one'.1 other'.2)) (B := (mulO other'.1 one'.2)) (h := (fun x9 y10 => some (x9 + y10))) g_add (t_f2 (A := (some one'.1)) (B := (some other'.2)) (h := (fun x3 y4 => (mulO x3 y4))) g_mul (t_ixc (A := (some one')) (k := 0) (pr := fun x1 => x1.1) (eb := eI) (fun _ => rfl) (t_var (i := 0) (e := (e2 eI eI)) (v := one') rfl)) (t_ixc (A := (some other')) (k := 1) (pr := fun x2 => x2.2) (eb := eI) (fun _ => rfl) (t_var (i := 1) (e := (e2 eI eI)) (v := other') rfl))) (t_f2 (A := (some other'.1)) (B := (some one'.2)) (h := (fun x7 y8 => (mulO x7 y8))) g_mul (t_ixc (A := (some other')) (k := 0) (pr := fun x5 => x5.1) (eb := eI) (fun _ => rfl) (t_var (i := 1) (e := (e2 eI eI)) (v := other') rfl)) (t_ixc (A := (some one')) (k := 1) (pr := fun x6 => x6.2) (eb := eI) (fun _ => rfl) (t_var (i := 0) (e := (e2 eI eI)) (v := one') rfl)))) (t_f2 (A := (some one'.2)) (B := (some other'.2)) (h := (fun x13 y14 => (mulO x13 y14))) g_mul (t_ixc (A := (some one')) (k := 1) (pr := fun x11 => x11.2) (eb := eI) (fun _ => rfl) (t_var (i := 0) (e := (e2 eI eI)) (v := one') rfl)) (t_ixc (A := (some other')) (k := 1) (pr := fun x12 => x12.2) (eb := eI) (fun _ => rfl) (t_var (i := 1) (e := (e2 eI eI)) (v := other') rfl)))))
def N_times (one' : (Int × Int)) (other' : (Int × Int)) : Option (Int × Int) := ((mulO one'.1 other'.1).bind fun a9 => (mulO one'.2 other'.2).bind fun a10 => N_ratio a9 a10)
theorem t_times (one' : (Int × Int)) (other' : (Int × Int)) : S_times [(e2 eI eI) one', (e2 eI eI) other'] = (N_times one' other').map (e2 eI eI) := d_run (r_ret (A := ((mulO one'.1 other'.1).bind fun a9 => (mulO one'.2 other'.2).bind fun a10 => N_ratio a9 a10)) (t_call2 (A := (mulO one'.1 other'.1)) (B := (mulO one'.2 other'.2)) t_ratio (t_f2 (A := (some one'.1)) (B := (some other'.1)) (h := (fun x3 y4 => (mulO x3 y4))) g_mul (t_ixc (A := (some one')) (k := 0) (pr := fun x1 => x1.1) (eb := eI) (fun _ => rfl) (t_var (i := 0) (e := (e2 eI eI)) (v := one') rfl)) (t_ixc (A := (some other')) (k := 0) (pr := fun x2 => x2.1) (eb := eI) (fun _ => rfl) (t_var (i := 1) (e := (e2 eI eI)) (v := other') rfl))) (t_f2 (A := (some one'.2)) (B := (some other'.2)) (h := (fun x7 y8 => (mulO x7 y8))) g_mul (t_ixc (A := (some one')) (k := 1) (pr := fun x5 => x5.2) (eb := eI) (fun _ => rfl) (t_var (i := 0) (e := (e2 eI eI)) (v := one') rfl)) (t_ixc (A := (some other')) (k := 1) (pr := fun x6 => x6.2) (eb := eI) (fun _ => rfl) (t_var (i := 1) (e := (e2 eI eI)) (v := other') rfl)))))
def N_is_ratio (value' : (Int × Int)) : Option Bool := (iteO (some (!(true && (decide ((2 : Int) = (2 : Int)))))) (some false) ((some value').bind fun p6 => (andO (N_is_whole p6.1) (andO (N_is_whole p6.2) (some ((decide ((0 : Int) < p6.2)) && (decide (((Nat.gcd (p6.1).natAbs (p6.2).natAbs : Nat) : Int) = (1 : Int)))))))))
theorem t_is_ratio (value' : (Int × Int)) : S_is_ratio [(e2 eI eI) value'] = (N_is_ratio value').map eB := d_run (r_seq_ifret (P := (some (!(true && (decide ((2 : Int) = (2 : Int))))))) (A := (some false)) (t_knot (P := (some (true && (decide ((2 : Int) = (2 : Int)))))) (t_kandP (b := true) (c := (decide ((2 : Int) = (2 : Int)))) (t_T (P := (some true)) (t_isi (A := (some value')) (b := fun x1 => true) (fun _ => rfl) (t_var (i := 0) (e := (e2 eI eI)) (v := value') rfl))) (t_T (P := (some (decide ((2 : Int) = (2 : Int))))) (t_f2 (A := (some (2 : Int))) (B := (some (2 : Int))) (h := (fun x3 y4 => some (decide (x3 = y4)))) (g_eq enc_I rfl) (t_f1 (A := (some value')) (h := (fun x2 => some (2 : Int))) (fun _ => rfl) (t_var (i := 0) (e := (e2 eI eI)) (v := value') rfl)) (t_int (i := 2)))))) (r_ret (A := (some false)) (t_bl (b := false))) (r_seq_bind (A := (some value')) (envb := fun p6 => [.dat ((e2 eI eI) value'), .dat (eI p6.1), .dat (eI p6.2)]) (t_var (i := 0) (e := (e2 eI eI)) (v := value') rfl) (fun _ => rfl) (fun p6 => (r_ret (A := (andO (N_is_whole p6.1) (andO (N_is_whole p6.2) (some ((decide ((0 : Int) < p6.2)) && (decide (((Nat.gcd (p6.1).natAbs (p6.2).natAbs : Nat) : Int) = (1 : Int)))))))) (t_and (P := (N_is_whole p6.1)) (Q := (andO (N_is_whole p6.2) (some ((decide ((0 : Int) < p6.2)) && (decide (((Nat.gcd (p6.1).natAbs (p6.2).natAbs : Nat) : Int) = (1 : Int))))))) (t_call1 (A := (some p6.1)) t_is_whole (t_var (i := 1) (e := eI) (v := p6.1) rfl)) (t_and (P := (N_is_whole p6.2)) (Q := (some ((decide ((0 : Int) < p6.2)) && (decide (((Nat.gcd (p6.1).natAbs (p6.2).natAbs : Nat) : Int) = (1 : Int)))))) (t_call1 (A := (some p6.2)) t_is_whole (t_var (i := 2) (e := eI) (v := p6.2) rfl)) (t_andP (b := (decide ((0 : Int) < p6.2))) (c := (decide (((Nat.gcd (p6.1).natAbs (p6.2).natAbs : Nat) : Int) = (1 : Int)))) (t_f2 (A := (some p6.2)) (B := (some (0 : Int))) (h := (fun x9 y10 => some (decide (y10 < x9)))) g_gt (t_var (i := 2) (e := eI) (v := p6.2) rfl) (t_int (i := 0))) (t_f2 (A := (some ((Nat.gcd (p6.1).natAbs (p6.2).natAbs : Nat) : Int))) (B := (some (1 : Int))) (h := (fun x13 y14 => some (decide (x13 = y14)))) (g_eq enc_I rfl) (t_f2 (A := (some p6.1)) (B := (some p6.2)) (h := (fun x11 y12 => some ((Nat.gcd (x11).natAbs (y12).natAbs : Nat) : Int))) g_gcd (t_var (i := 1) (e := eI) (v := p6.1) rfl) (t_var (i := 2) (e := eI) (v := p6.2) rfl)) (t_int (i := 1))))))))))
end Ty
namespace ZL
open PySem PySem.Spec PyProof.Rows L2 DN
open Sem (wp)
structure ZlG (P : Nat → Array Value → Prop) (lo : Addr) (h : Heap) (as : List Addr) : Prop where
  rise : as.Pairwise (· < ·)
  above : ∀ a ∈ as, lo < a
  pairs : ∀ (j : Nat) (a : Addr), as[j]? = some a → ∃ vals, P j vals ∧ h.get? a = some { cls := .type "tuple", data := .seq vals }
theorem ZlG.there {P : Nat → Array Value → Prop} {lo : Addr} {h : Heap} {as : List Addr} (g : ZlG P lo h as) {a : Addr} (ha : a ∈ as) : a < h.objs.size := by
  obtain ⟨j, hj⟩ := List.mem_iff_getElem?.mp ha
  obtain ⟨_, _, e⟩ := g.pairs j a hj
  exact Heap.lt_size e
section
variable {prog : Program} {w : World} {A : Around} {z TI TO i1 i2 i3 a1 a2 a3 : Addr} {b1 b2 b3 : Bool} {xs ys zs : List Value}
def St2 (z TI TO i1 i2 a1 a2 : Addr) (b1 b2 : Bool) (xs ys : List Value) : Nat → Addr → Heap → Prop := fun i T h =>
  ((i = 0 ∧ IsZip h z TI TO .none ∧ ∃ u v, IsTupOf2 h TO u v) ∨ (0 < i ∧ ∃ f oT, IsZipHeld h z TI TO T f ∧ h.get? T = some oT ∧ T ≠ z ∧ T ≠ TO ∧ T ≠ i1 ∧ T ≠ i2)) ∧ IsTupOf2 h TI (.ref i1) (.ref i2) ∧ (ItB b1 h i1 a1 i ∧ IsB b1 h a1 xs.toArray) ∧ (ItB b2 h i2 a2 i ∧ IsB b2 h a2 ys.toArray)
end
end ZL
namespace DN
open PySem PySem.Spec PyProof.Rows L2 ZL
end DN
namespace Ty
open PySem PySem.Spec PyProof.Rows L2 DN
def F_is_row_of_ratios (c_is_ratio : List PyData → Option PyData) : En → Option Fl := (sSeq (sIf (kNot (kAnd (fT (fIsi isTup (fVar 0))) (fT (fEq (fLen (fVar 0)) (fVar 1))))) (sRet (fLit (.bool false))) sNil) (sRet (fAll true (iSeq (fVar 0)) (bName 2) (fAnd (fCall 1 c_is_ratio (fCons (fVar 2) fNil)) (fGe (fIx (fVar 2) (fLit (.int 0))) (fLit (.int 0)))) [2])))
def S_is_row_of_ratios := runD 3 (F_is_row_of_ratios S_is_ratio)
def N_is_row_of_ratios (value' : (List (Int × Int))) (count' : Int) : Option Bool := (iteO (some (!(true && (decide (((value').length : Int) = count'))))) (some false) (allO true (fun i6 => (andO (N_is_ratio i6) (some (decide ((0 : Int) ≤ i6.1))))) value'))
theorem t_is_row_of_ratios (value' : (List (Int × Int))) (count' : Int) : S_is_row_of_ratios [(eR (e2 eI eI)) value', eI count'] = (N_is_row_of_ratios value' count').map eB := d_run (r_seq_ifret (P := (some (!(true && (decide (((value').length : Int) = count')))))) (A := (some false)) (t_knot (P := (some (true && (decide (((value').length : Int) = count'))))) (t_kandP (b := true) (c := (decide (((value').length : Int) = count'))) (t_T (P := (some true)) (t_isi (A := (some value')) (b := fun x1 => true) (fun _ => rfl) (t_var (i := 0) (e := (eR (e2 eI eI))) (v := value') rfl))) (t_T (P := (some (decide (((value').length : Int) = count')))) (t_f2 (A := (some ((value').length : Int))) (B := (some count')) (h := (fun x3 y4 => some (decide (x3 = y4)))) (g_eq enc_I rfl) (t_f1 (A := (some value')) (h := (fun x2 => some ((x2).length : Int))) g_lenR (t_var (i := 0) (e := (eR (e2 eI eI))) (v := value') rfl)) (t_var (i := 1) (e := eI) (v := count') rfl))))) (r_ret (A := (some false)) (t_bl (b := false))) (r_ret (A := (allO true (fun i6 => (andO (N_is_ratio i6) (some (decide ((0 : Int) ≤ i6.1))))) value')) (t_all (L := (some value')) (ea := (e2 eI eI)) (Bf := fun i6 => (andO (N_is_ratio i6) (some (decide ((0 : Int) ≤ i6.1))))) (i_seqR (A := (some value')) (e := (e2 eI eI)) (t_var (i := 0) (e := (eR (e2 eI eI))) (v := value') rfl)) (fun i6 => ⟨[.dat ((eR (e2 eI eI)) value'), .dat (eI count'), .dat ((e2 eI eI) i6)], rfl, (t_and (P := (N_is_ratio i6)) (Q := (some (decide ((0 : Int) ≤ i6.1)))) (t_call1 (A := (some i6)) t_is_ratio (t_var (i := 2) (e := (e2 eI eI)) (v := i6) rfl)) (t_f2 (A := (some i6.1)) (B := (some (0 : Int))) (h := (fun x10 y11 => some (decide (y11 ≤ x10)))) g_ge (t_ixc (A := (some i6)) (k := 0) (pr := fun x7 => x7.1) (eb := eI) (fun _ => rfl) (t_var (i := 2) (e := (e2 eI eI)) (v := i6) rfl)) (t_int (i := 0))))⟩))))
end Ty
namespace DN
open PySem PySem.Spec PyProof.Rows L2
def spR (K : PySem.W.Frag) (Ts : TsT) (n : Nat) (C : Value) (R : List PyData → Bool) : Sp := fun vs H _ E => vs.length = n ∧ ∃ O ds, DpAll K (hide H O) vs ds ∧ Tb Ts H ∧ (∀ b ∈ O, H b ≠ none ∧ ∀ ps, H b ≠ some (.tbl ps)) ∧ R ds = true ∧
  ∀ H', Xt H H' → Tb Ts H' → E C none H'
structure CR (P : Program) (w : World) (K : PySem.W.Frag) (mg : Str → Option Value) (base : Heap) (Ts : TsT) (k : Nat) (x : Str) (n : Nat) (C : Value) (R : List PyData → Bool) : Prop where
  ex : ∃ f fd ps, mg x = some (.ref f) ∧ PySem.W.keepIn K (.ref f) = true ∧ Binds K fd ps [] ∧ FnOk P w K mg base (L2.CX P w) k f fd ps (spR K Ts n C R)
theorem CR.imp {P : Program} {w : World} {K : PySem.W.Frag} {mg : Str → Option Value} {base : Heap} {Ts : TsT} {k : Nat} {x : Str} {n : Nat} {C : Value} {R S : List PyData → Bool} (c : CR P w K mg base Ts k x n C R) (h : ∀ ds, S ds = true → R ds = true) : CR P w K mg base Ts k x n C S := by
  obtain ⟨f, fd, ps, h1, h2, h3, h4⟩ := c.ex
  exact ⟨f, fd, ps, h1, h2, h3, h4.imp fun vs H Q E ⟨a, O, ds, b, c, d, e, k⟩ => ⟨a, O, ds, b, c, d, h ds e, k⟩⟩
section
variable {P : Program} {w : World} {K : PySem.W.Frag} {mg : Str → Option Value} {base : Heap} {Ts : TsT}
theorem CR.of {k n : Nat} {x : Str} {C : Value} {R : List PyData → Bool} {f : Addr} {fd : FuncData} {ps : List Str} (h1 : mg x = some (.ref f)) (h2 : PySem.W.keepIn K (.ref f) = true) (h3 : Binds K fd ps []) (h4 : FnOk P w K mg base (L2.CX P w) k f fd ps (spR K Ts n C R)) : CR P w K mg base Ts k x n C R := ⟨f, fd, ps, h1, h2, h3, h4⟩
end
theorem spR.imp {K : PySem.W.Frag} {Ts : TsT} {n : Nat} {C : Value} {R S : List PyData → Bool} (h : ∀ ds, S ds = true → R ds = true) : ∀ vs H Q E, spR K Ts n C S vs H Q E → spR K Ts n C R vs H Q E := fun vs H Q E ⟨a, O, ds, b, c, d, e, k⟩ => ⟨a, O, ds, b, c, d, h ds e, k⟩
end DN
namespace DN
open PySem PySem.Spec PyProof.Rows L2 LamX
end DN
namespace Ty
open PySem PySem.Spec PyProof.Rows L2 DN
end Ty
set_option maxHeartbeats 400000
namespace DN
open PySem PySem.Spec PyProof.Rows L2
end DN
set_option maxHeartbeats 1000000
namespace DN
open PySem PySem.Spec PyProof.Rows L2 LamX
end DN
set_option maxHeartbeats 3200000
namespace DN
open PySem PySem.Spec PyProof.Rows L2
end DN
set_option maxHeartbeats 4000000
namespace Ty
open PySem PySem.Spec PyProof.Rows L2 DN
def leU3 (a b : Int × Int × Bool) : Bool := decide (-a.1 ≤ -b.1)
def sortU3 (l : List (Int × Int × Bool)) : Option (List (Int × Int × Bool)) := if l.length ≤ 1000000 then some (l.mergeSort leU3) else none
universe u
def putO {α : Type} (l : List α) (k : Int) (x : α) : Option (List α) := (ixN l.length k).map fun j => l.set j x
section
variable {α β γ σ τ ζ ξ : Type} {en : En} {f g : En → Option PyData} {F G : En → Option Fl} {ea : α → PyData} {er : ξ → PyData} {i j : Nat} {env : σ → ζ → En}
theorem put_eq {A : Option α} {B : Option Int} {v : List α} (pa : f en = A.map ea) (pb : g en = B.map eI) (ho : en[i]? = some (.own (v.map ea))) : sPut i g f en = (A.bind fun x => B.bind fun k => putO v k x).map fun w => Fl.nx (en.set i (.own (w.map ea))) := by
  unfold sPut
  rw [pa, pb]
  cases A with
  | none => rfl
  | some a => cases B with
    | none => rfl
    | some k =>
      show (match PyData.int k, en[i]? with
        | .int k, some (.own ds) => (ixN ds.length k).map fun j => Fl.nx (en.set i (.own (ds.set j (ea a))))
        | _, _ => none) = (putO v k a).map _
      rw [ho]
      show (ixN (v.map ea).length k).map _ = (putO v k a).map _
      unfold putO
      rw [List.length_map]
      cases ixN v.length k with
      | none => rfl
      | some j => exact congrArg (fun z => some (Fl.nx (en.set i (.own z)))) (List.map_set).symm
theorem g_anyL (l : List Bool) : gAny (eL eB l) = (some (l.any id)).map eB := by
  show (boolsOf (l.map eB)).map _ = _
  have : boolsOf (l.map eB) = some l := by
    induction l with
    | nil => rfl
    | cons x l ih =>
      show (boolsOf (l.map eB)).map (x :: ·) = _
      rw [ih]
      rfl
  rw [this]
  rfl
end
noncomputable def N_uses_of_water (curve' : (Int × Int × (List (Int × Int)))) (pairs' : (List (Int × Int))) (water' : Int) : Option (List (Int × Int × Bool)) := ((compL (fun (i3 : (Int × Int)) => (some true)) (fun (i3 : (Int × Int)) => (some (i3.1, i3.2, true))) curve'.2.2).bind fun held_1 => ((compL (fun (i5 : (Int × Int)) => (some true)) (fun (i5 : (Int × Int)) => (some (i5.2, i5.1, false))) pairs').bind fun sold_4 => (((catO held_1 sold_4).bind fun x10 => (some [((0 : Int), (water' + (1 : Int)), false)]).bind fun y11 => (catO x10 y11)).bind (fun x12 => (sortU3 x12)))))
noncomputable def N_best_hold (curve' : (Int × Int × (List (Int × Int)))) (pairs' : (List (Int × Int))) (water' : Int) : Option Int := ((some curve'.1).bind fun held_1 => ((some (water' - held_1)).bind fun left_3 => (((N_uses_of_water curve' pairs' water').bind fun l => foldO (fun i8 s6 => ((some (min2 s6.1 i8.2.1)).bind fun taken_9 => ((some taken_9).bind fun x14 => (fun left_15 => (iteO (some i8.2.2) (((some taken_9)).bind fun x16 => (fun held_17 => some (left_15, held_17)) (s6.2 + x16)) (some (left_15, s6.2)))) (s6.1 - x14)))) l (left_3, held_1)).bind fun s18 => (some s18.2))))
end Ty
namespace PySem
open Sem (wp)
end PySem
namespace DN
open PySem PySem.Spec PyProof.Rows L2
end DN
namespace Ty
open PySem PySem.Spec PyProof.Rows L2 DN
def F__law_alike (c__law_alike : List PyData → Option PyData) : En → Option Fl := (sSeq (sIf (fT (fIsi (fun d => isTup d || isLst d) (fVar 1))) (sSeq (sIf (kOr (kNot (fT (fIsi (fun d => isTup d || isLst d) (fVar 0)))) (fT (fNe (fIsi isLst (fVar 0)) (fIsi isLst (fVar 1))))) (sRet (fLit (.bool false))) sNil) (sSeq (sIf (fT (fNe (fLen (fVar 0)) (fLen (fVar 1)))) (sRet (fLit (.bool false))) sNil) (sRet (fEq (fLc (iRange1 (fLen (fVar 1))) (bName 2) (kNot (fT (fCall 2 c__law_alike (fCons (fIx (fVar 0) (fVar 2)) (fCons (fIx (fVar 1) (fVar 2)) fNil))))) (fVar 2) [2]) (fLst fNil))))) sNil) (sSeq (sIf (kOr (fT (fIsN (fVar 1) (fLit .none))) (fT (fIsi isStr (fVar 1)))) (sRet (fAnd (fEq (fVar 0) (fVar 1)) (fEq (fIsi isStr (fVar 0)) (fIsi isStr (fVar 1))))) sNil) (sRet (fAnd (fIsi isInt (fVar 0)) (fAnd (fEq (fIsi isBool (fVar 0)) (fIsi isBool (fVar 1))) (fEq (fVar 0) (fVar 1)))))))
def F__law_alike0 : En → Option Fl := (sSeq (sIf (fT (fIsi (fun d => isTup d || isLst d) (fVar 1))) sNever sNil) (sSeq (sIf (kOr (fT (fIsN (fVar 1) (fLit .none))) (fT (fIsi isStr (fVar 1)))) (sRet (fAnd (fEq (fVar 0) (fVar 1)) (fEq (fIsi isStr (fVar 0)) (fIsi isStr (fVar 1))))) sNil) (sRet (fAnd (fIsi isInt (fVar 0)) (fAnd (fEq (fIsi isBool (fVar 0)) (fIsi isBool (fVar 1))) (fEq (fVar 0) (fVar 1)))))))
def S__law_alike : Nat → List PyData → Option PyData
  | 0 => runD 3 F__law_alike0
  | n + 1 => runD 3 (F__law_alike (S__law_alike n))
def N__law_alike (rec : PyData → PyData → Option Bool) (found' : PyData) (due' : PyData) : Option Bool := (iteO (some (isTup (eA due') || isLst (eA due'))) (iteO (some ((!(isTup (eA found') || isLst (eA found'))) || (!decide ((isLst (eA found')) = (isLst (eA due')))))) (some false) (iteO ((lenA found').bind fun x10 => (lenA due').bind fun y11 => some (!decide (x10 = y11))) (some false) ((((lenA due').bind range1O).bind fun l => compL (fun i13 => (((ixA found' i13).bind fun a18 => (ixA due' i13).bind fun a19 => rec a18 a19).bind fun b20 => some (!b20))) (fun i13 => (some i13)) l).bind fun x21 => (some ([] : (List Int))).bind fun y22 => some (decide (x21 = y22))))) (iteO (some ((isNone due') || (isStr (eA due')))) (andO (eqO (eA found') (eA due')) (some (decide ((isStr (eA found')) = (isStr (eA due')))))) (andO (some (isInt (eA found'))) (andO (some (decide ((isBool (eA found')) = (isBool (eA due'))))) (eqO (eA found') (eA due'))))))
theorem t__law_alike {S : List PyData → Option PyData} {rec : PyData → PyData → Option Bool} (hrec : ∀ x y, S [eA x, eA y] = (rec x y).map eB) (found' : PyData) (due' : PyData) : runD 3 (F__law_alike S) [eA found', eA due'] = (N__law_alike rec found' due').map eB := d_run (r_seq_ifret (P := (some (isTup (eA due') || isLst (eA due')))) (A := (iteO (some ((!(isTup (eA found') || isLst (eA found'))) || (!decide ((isLst (eA found')) = (isLst (eA due')))))) (some false) (iteO ((lenA found').bind fun x10 => (lenA due').bind fun y11 => some (!decide (x10 = y11))) (some false) ((((lenA due').bind range1O).bind fun l => compL (fun i13 => (((ixA found' i13).bind fun a18 => (ixA due' i13).bind fun a19 => rec a18 a19).bind fun b20 => some (!b20))) (fun i13 => (some i13)) l).bind fun x21 => (some ([] : (List Int))).bind fun y22 => some (decide (x21 = y22)))))) (t_T (P := (some (isTup (eA due') || isLst (eA due')))) (t_isi (A := (some due')) (b := fun x1 => (isTup (eA x1) || isLst (eA x1))) (fun _ => rfl) (t_var (i := 1) (e := eA) (v := due') rfl))) (r_seq_ifret (P := (some ((!(isTup (eA found') || isLst (eA found'))) || (!decide ((isLst (eA found')) = (isLst (eA due'))))))) (A := (some false)) (t_korP (b := (!(isTup (eA found') || isLst (eA found')))) (c := (!decide ((isLst (eA found')) = (isLst (eA due'))))) (t_knot (P := (some (isTup (eA found') || isLst (eA found')))) (t_T (P := (some (isTup (eA found') || isLst (eA found')))) (t_isi (A := (some found')) (b := fun x2 => (isTup (eA x2) || isLst (eA x2))) (fun _ => rfl) (t_var (i := 0) (e := eA) (v := found') rfl)))) (t_T (P := (some (!decide ((isLst (eA found')) = (isLst (eA due')))))) (t_f2 (A := (some (isLst (eA found')))) (B := (some (isLst (eA due')))) (h := (fun x6 y7 => some (!decide (x6 = y7)))) (g_ne enc_B rfl) (t_isi (A := (some found')) (b := fun x4 => (isLst (eA x4))) (fun _ => rfl) (t_var (i := 0) (e := eA) (v := found') rfl)) (t_isi (A := (some due')) (b := fun x5 => (isLst (eA x5))) (fun _ => rfl) (t_var (i := 1) (e := eA) (v := due') rfl))))) (r_ret (A := (some false)) (t_bl (b := false))) (r_seq_ifret (P := ((lenA found').bind fun x10 => (lenA due').bind fun y11 => some (!decide (x10 = y11)))) (A := (some false)) (t_T (P := ((lenA found').bind fun x10 => (lenA due').bind fun y11 => some (!decide (x10 = y11)))) (t_f2 (A := (lenA found')) (B := (lenA due')) (h := (fun x10 y11 => some (!decide (x10 = y11)))) (g_ne enc_I rfl) (t_f1 (A := (some found')) (h := (fun x8 => (lenA x8))) g_lenA (t_var (i := 0) (e := eA) (v := found') rfl)) (t_f1 (A := (some due')) (h := (fun x9 => (lenA x9))) g_lenA (t_var (i := 1) (e := eA) (v := due') rfl)))) (r_ret (A := (some false)) (t_bl (b := false))) (r_ret (A := ((((lenA due').bind range1O).bind fun l => compL (fun i13 => (((ixA found' i13).bind fun a18 => (ixA due' i13).bind fun a19 => rec a18 a19).bind fun b20 => some (!b20))) (fun i13 => (some i13)) l).bind fun x21 => (some ([] : (List Int))).bind fun y22 => some (decide (x21 = y22)))) (t_f2 (A := (((lenA due').bind range1O).bind fun l => compL (fun i13 => (((ixA found' i13).bind fun a18 => (ixA due' i13).bind fun a19 => rec a18 a19).bind fun b20 => some (!b20))) (fun i13 => (some i13)) l)) (B := (some ([] : (List Int)))) (h := (fun x21 y22 => some (decide (x21 = y22)))) (g_eq (enc_L enc_I) rfl) (t_lc (L := ((lenA due').bind range1O)) (ea := eI) (eb := eI) (T := fun i13 => (((ixA found' i13).bind fun a18 => (ixA due' i13).bind fun a19 => rec a18 a19).bind fun b20 => some (!b20))) (Bf := fun i13 => (some i13)) (i_range1 (A := (lenA due')) (t_f1 (A := (some due')) (h := (fun x12 => (lenA x12))) g_lenA (t_var (i := 1) (e := eA) (v := due') rfl))) (fun i13 => ⟨[.dat (eA found'), .dat (eA due'), .dat (eI i13)], rfl, (t_knot (P := ((ixA found' i13).bind fun a18 => (ixA due' i13).bind fun a19 => rec a18 a19)) (t_T (P := ((ixA found' i13).bind fun a18 => (ixA due' i13).bind fun a19 => rec a18 a19)) (t_call2 (A := (ixA found' i13)) (B := (ixA due' i13)) hrec (t_f2 (A := (some found')) (B := (some i13)) (h := (fun x14 y15 => (ixA x14 y15))) g_ixA (t_var (i := 0) (e := eA) (v := found') rfl) (t_var (i := 2) (e := eI) (v := i13) rfl)) (t_f2 (A := (some due')) (B := (some i13)) (h := (fun x16 y17 => (ixA x16 y17))) g_ixA (t_var (i := 1) (e := eA) (v := due') rfl) (t_var (i := 2) (e := eI) (v := i13) rfl))))), (t_var (i := 2) (e := eI) (v := i13) rfl)⟩)) (t_lstL (L := some []) (t_nil (α := Int) (e := eI))))))) (r_seq_ifret (P := (some ((isNone due') || (isStr (eA due'))))) (A := (andO (eqO (eA found') (eA due')) (some (decide ((isStr (eA found')) = (isStr (eA due'))))))) (t_korP (b := (isNone due')) (c := (isStr (eA due'))) (t_T (P := (some (isNone due'))) (t_f2 (A := (some due')) (B := (some ())) (h := (fun x23 y24 => some (isNone x23))) g_isNA (t_var (i := 1) (e := eA) (v := due') rfl) t_non)) (t_T (P := (some (isStr (eA due')))) (t_isi (A := (some due')) (b := fun x25 => (isStr (eA x25))) (fun _ => rfl) (t_var (i := 1) (e := eA) (v := due') rfl)))) (r_ret (A := (andO (eqO (eA found') (eA due')) (some (decide ((isStr (eA found')) = (isStr (eA due'))))))) (t_and (P := (eqO (eA found') (eA due'))) (Q := (some (decide ((isStr (eA found')) = (isStr (eA due')))))) (t_f2 (A := (some found')) (B := (some due')) (h := (fun x26 y27 => (eqO (eA x26) (eA y27)))) g_eqA (t_var (i := 0) (e := eA) (v := found') rfl) (t_var (i := 1) (e := eA) (v := due') rfl)) (t_f2 (A := (some (isStr (eA found')))) (B := (some (isStr (eA due')))) (h := (fun x30 y31 => some (decide (x30 = y31)))) (g_eq enc_B rfl) (t_isi (A := (some found')) (b := fun x28 => (isStr (eA x28))) (fun _ => rfl) (t_var (i := 0) (e := eA) (v := found') rfl)) (t_isi (A := (some due')) (b := fun x29 => (isStr (eA x29))) (fun _ => rfl) (t_var (i := 1) (e := eA) (v := due') rfl))))) (r_ret (A := (andO (some (isInt (eA found'))) (andO (some (decide ((isBool (eA found')) = (isBool (eA due'))))) (eqO (eA found') (eA due'))))) (t_and (P := (some (isInt (eA found')))) (Q := (andO (some (decide ((isBool (eA found')) = (isBool (eA due'))))) (eqO (eA found') (eA due')))) (t_isi (A := (some found')) (b := fun x32 => (isInt (eA x32))) (fun _ => rfl) (t_var (i := 0) (e := eA) (v := found') rfl)) (t_and (P := (some (decide ((isBool (eA found')) = (isBool (eA due')))))) (Q := (eqO (eA found') (eA due'))) (t_f2 (A := (some (isBool (eA found')))) (B := (some (isBool (eA due')))) (h := (fun x35 y36 => some (decide (x35 = y36)))) (g_eq enc_B rfl) (t_isi (A := (some found')) (b := fun x33 => (isBool (eA x33))) (fun _ => rfl) (t_var (i := 0) (e := eA) (v := found') rfl)) (t_isi (A := (some due')) (b := fun x34 => (isBool (eA x34))) (fun _ => rfl) (t_var (i := 1) (e := eA) (v := due') rfl))) (t_f2 (A := (some found')) (B := (some due')) (h := (fun x37 y38 => (eqO (eA x37) (eA y38)))) g_eqA (t_var (i := 0) (e := eA) (v := found') rfl) (t_var (i := 1) (e := eA) (v := due') rfl)))))))
def N__law_alike0 (found' : PyData) (due' : PyData) : Option Bool := (iteO (some (isTup (eA due') || isLst (eA due'))) none (iteO (some ((isNone due') || (isStr (eA due')))) (andO (eqO (eA found') (eA due')) (some (decide ((isStr (eA found')) = (isStr (eA due')))))) (andO (some (isInt (eA found'))) (andO (some (decide ((isBool (eA found')) = (isBool (eA due'))))) (eqO (eA found') (eA due'))))))
theorem t__law_alike0 (found' : PyData) (due' : PyData) : runD 3 F__law_alike0 [eA found', eA due'] = (N__law_alike0 found' due').map eB := d_run (r_seq_ifret (P := (some (isTup (eA due') || isLst (eA due')))) (A := none) (t_T (P := (some (isTup (eA due') || isLst (eA due')))) (t_isi (A := (some due')) (b := fun x1 => (isTup (eA x1) || isLst (eA x1))) (fun _ => rfl) (t_var (i := 1) (e := eA) (v := due') rfl))) r_never (r_seq_ifret (P := (some ((isNone due') || (isStr (eA due'))))) (A := (andO (eqO (eA found') (eA due')) (some (decide ((isStr (eA found')) = (isStr (eA due'))))))) (t_korP (b := (isNone due')) (c := (isStr (eA due'))) (t_T (P := (some (isNone due'))) (t_f2 (A := (some due')) (B := (some ())) (h := (fun x2 y3 => some (isNone x2))) g_isNA (t_var (i := 1) (e := eA) (v := due') rfl) t_non)) (t_T (P := (some (isStr (eA due')))) (t_isi (A := (some due')) (b := fun x4 => (isStr (eA x4))) (fun _ => rfl) (t_var (i := 1) (e := eA) (v := due') rfl)))) (r_ret (A := (andO (eqO (eA found') (eA due')) (some (decide ((isStr (eA found')) = (isStr (eA due'))))))) (t_and (P := (eqO (eA found') (eA due'))) (Q := (some (decide ((isStr (eA found')) = (isStr (eA due')))))) (t_f2 (A := (some found')) (B := (some due')) (h := (fun x5 y6 => (eqO (eA x5) (eA y6)))) g_eqA (t_var (i := 0) (e := eA) (v := found') rfl) (t_var (i := 1) (e := eA) (v := due') rfl)) (t_f2 (A := (some (isStr (eA found')))) (B := (some (isStr (eA due')))) (h := (fun x9 y10 => some (decide (x9 = y10)))) (g_eq enc_B rfl) (t_isi (A := (some found')) (b := fun x7 => (isStr (eA x7))) (fun _ => rfl) (t_var (i := 0) (e := eA) (v := found') rfl)) (t_isi (A := (some due')) (b := fun x8 => (isStr (eA x8))) (fun _ => rfl) (t_var (i := 1) (e := eA) (v := due') rfl))))) (r_ret (A := (andO (some (isInt (eA found'))) (andO (some (decide ((isBool (eA found')) = (isBool (eA due'))))) (eqO (eA found') (eA due'))))) (t_and (P := (some (isInt (eA found')))) (Q := (andO (some (decide ((isBool (eA found')) = (isBool (eA due'))))) (eqO (eA found') (eA due')))) (t_isi (A := (some found')) (b := fun x11 => (isInt (eA x11))) (fun _ => rfl) (t_var (i := 0) (e := eA) (v := found') rfl)) (t_and (P := (some (decide ((isBool (eA found')) = (isBool (eA due')))))) (Q := (eqO (eA found') (eA due'))) (t_f2 (A := (some (isBool (eA found')))) (B := (some (isBool (eA due')))) (h := (fun x14 y15 => some (decide (x14 = y15)))) (g_eq enc_B rfl) (t_isi (A := (some found')) (b := fun x12 => (isBool (eA x12))) (fun _ => rfl) (t_var (i := 0) (e := eA) (v := found') rfl)) (t_isi (A := (some due')) (b := fun x13 => (isBool (eA x13))) (fun _ => rfl) (t_var (i := 1) (e := eA) (v := due') rfl))) (t_f2 (A := (some found')) (B := (some due')) (h := (fun x16 y17 => (eqO (eA x16) (eA y17)))) g_eqA (t_var (i := 0) (e := eA) (v := found') rfl) (t_var (i := 1) (e := eA) (v := due') rfl)))))))
def alikeR : Nat → PyData → PyData → Option Bool
  | 0 => N__law_alike0
  | n + 1 => N__law_alike (alikeR n)
theorem t_alike : ∀ (n : Nat) (x y : PyData), S__law_alike n [eA x, eA y] = (alikeR n x y).map eB
  | 0, x, y => t__law_alike0 x y
  | n + 1, x, y => t__law_alike (t_alike n) x y
theorem iteO_t {α : Type} (a b : Option α) : iteO (some true) a b = a := rfl
theorem iteO_f {α : Type} (a b : Option α) : iteO (some false) a b = b := rfl
def Alk {α : Type} [DecidableEq α] (n : Nat) (e : α → PyData) : Prop := ∀ a b, alikeR n (e a) (e b) = some (decide (a = b))
theorem eqO_I (a b : Int) : eqO (.int a) (.int b) = some (decide (a = b)) := rfl
theorem alk_I : ∀ n, Alk n eI
  | 0 => fun a b => eqO_I a b
  | n + 1 => fun a b => eqO_I a b
theorem compO_filter {α : Type} {T : α → Option Bool} {t : α → Bool} : ∀ l : List α, (∀ x ∈ l, T x = some (t x)) → compO T (fun i => some i) l = some (l.filter t)
  | [], _ => rfl
  | x :: r, h => by
    rw [compO_cons, h x List.mem_cons_self, compO_filter r fun y hy => h y (List.mem_cons_of_mem _ hy)]
    cases e : t x with
    | true => simp [e]
    | false => simp [e]
theorem atI_nat {α : Type} {l : List α} {i : Nat} (h : i < l.length) : atI l (0 + (i : Int)) = some l[i] := by
  unfold atI
  rw [Int.zero_add, ixN_at h]
  exact List.getElem?_eq_getElem h
section
variable {α β γ δ : Type} [DecidableEq α] [DecidableEq β] [DecidableEq γ] [DecidableEq δ] {n : Nat} {ea : α → PyData} {eb : β → PyData} {ec : γ → PyData} {ed : δ → PyData}
theorem range_self (k : Nat) (h : k ≤ 1000000) : range1O (k : Int) = some ((List.range k).map fun i : Nat => (0 + (i : Int))) := by
  unfold range1O
  rw [if_pos (by omega), Int.toNat_natCast]
theorem alk_items {xs ys : List PyData} {p : Nat → Bool} (hl : xs.length = ys.length) (h64 : ys.length ≤ 1000000) (hp : ∀ i (h : i < ys.length), alikeR n (xs[i]'(by omega)) ys[i] = some (p i)) (mk : List PyData → PyData) (hmk : mk = .tuple ∨ mk = .list) :
    alikeR (n + 1) (mk xs) (mk ys) = some (decide (∀ i, i < ys.length → p i = true)) := by
  have key : ∀ (d1 d2 : PyData), items d1 = some xs → items d2 = some ys → (compL (fun i13 => (((ixA d1 i13).bind fun a18 => (ixA d2 i13).bind fun a19 => alikeR n a18 a19).bind fun b20 => some (!b20))) (fun i13 => (some i13)) ((List.range ys.length).map fun i : Nat => (0 + (i : Int)))).bind (fun x21 => (some ([] : (List Int))).bind fun y22 => some (decide (x21 = y22))) = some (decide (∀ i, i < ys.length → p i = true)) := by
    intro d1 d2 h1 h2
    unfold compL
    rw [if_pos (by rw [List.length_map, List.length_range]; exact h64)]
    rw [compO_filter (t := fun z : Int => !p z.toNat)]
    · simp only [Option.bind_some]
      congr 1
      rw [decide_eq_decide]
      rw [List.filter_eq_nil_iff]
      constructor
      · intro h i hi
        have := h (0 + (i : Int)) (List.mem_map.mpr ⟨i, List.mem_range.mpr hi, rfl⟩)
        simpa using this
      · intro h z hz
        obtain ⟨i, hi, rfl⟩ := List.mem_map.mp hz
        have := h i (List.mem_range.mp hi)
        simp [this]
    · intro z hz
      obtain ⟨i, hi, rfl⟩ := List.mem_map.mp hz
      have hi' := List.mem_range.mp hi
      unfold ixA
      rw [h1, h2]
      simp only [Option.bind_some]
      rw [atI_nat (l := xs) (by omega), atI_nat (l := ys) hi']
      simp only [Option.bind_some]
      rw [hp i hi']
      simp
  have hlen : (lenA (mk xs)).bind (fun x10 => (lenA (mk ys)).bind fun y11 => some (!decide (x10 = y11))) = some false := by
    rcases hmk with rfl | rfl <;> simp [lenA, hl]
  have hr : (lenA (mk ys)).bind range1O = some ((List.range ys.length).map fun i : Nat => (0 + (i : Int))) := by
    rcases hmk with rfl | rfl <;> exact range_self _ h64
  show N__law_alike (alikeR n) (mk xs) (mk ys) = _
  unfold N__law_alike
  rcases hmk with rfl | rfl
  · show iteO (some true) (iteO (some ((!true) || (!decide (false = false)))) (some false) (iteO _ (some false) _)) _ = _
    rw [iteO_t]
    show iteO (some false) _ _ = _
    rw [iteO_f]
    show iteO ((lenA (PyData.tuple xs)).bind (fun x10 => (lenA (PyData.tuple ys)).bind fun y11 => some (!decide (x10 = y11)))) _ _ = _
    rw [hlen, iteO_f]
    show (((lenA (PyData.tuple ys)).bind range1O).bind fun l => compL _ _ l).bind _ = _
    rw [hr]
    exact key (.tuple xs) (.tuple ys) rfl rfl
  · show iteO (some true) (iteO (some ((!true) || (!decide (true = true)))) (some false) (iteO _ (some false) _)) _ = _
    rw [iteO_t]
    show iteO (some false) _ _ = _
    rw [iteO_f]
    show iteO ((lenA (PyData.list xs)).bind (fun x10 => (lenA (PyData.list ys)).bind fun y11 => some (!decide (x10 = y11)))) _ _ = _
    rw [hlen, iteO_f]
    show (((lenA (PyData.list ys)).bind range1O).bind fun l => compL _ _ l).bind _ = _
    rw [hr]
    exact key (.list xs) (.list ys) rfl rfl
theorem alk_lens {xs ys : List PyData} (hl : xs.length ≠ ys.length) (mk : List PyData → PyData) (hmk : mk = .tuple ∨ mk = .list) : alikeR (n + 1) (mk xs) (mk ys) = some false := by
  have hlen : (lenA (mk xs)).bind (fun x10 => (lenA (mk ys)).bind fun y11 => some (!decide (x10 = y11))) = some true := by
    rcases hmk with rfl | rfl <;> (simp [lenA]; omega)
  show N__law_alike (alikeR n) (mk xs) (mk ys) = _
  unfold N__law_alike
  rcases hmk with rfl | rfl
  · show iteO (some true) (iteO (some false) (some false) (iteO ((lenA (PyData.tuple xs)).bind (fun x10 => (lenA (PyData.tuple ys)).bind fun y11 => some (!decide (x10 = y11)))) (some false) _)) _ = _
    rw [iteO_t, iteO_f, hlen, iteO_t]
  · show iteO (some true) (iteO (some false) (some false) (iteO ((lenA (PyData.list xs)).bind (fun x10 => (lenA (PyData.list ys)).bind fun y11 => some (!decide (x10 = y11)))) (some false) _)) _ = _
    rw [iteO_t, iteO_f, hlen, iteO_t]
theorem alk_seq (E : Alk n ea) (mk : List PyData → PyData) (hmk : mk = .tuple ∨ mk = .list) (l m : List α) (hm : m.length ≤ 1000000) : alikeR (n + 1) (mk (l.map ea)) (mk (m.map ea)) = some (decide (l = m)) := by
  by_cases hl : l.length = m.length
  · rw [alk_items (p := fun i => decide (l[i]? = m[i]?)) (by simpa using hl) (by simpa using hm) ?_ mk hmk]
    · congr 1
      rw [decide_eq_decide]
      constructor
      · intro h
        refine List.ext_getElem? fun i => ?_
        by_cases hi : i < m.length
        · exact of_decide_eq_true (h i (by simpa using hi))
        · rw [List.getElem?_eq_none (by omega), List.getElem?_eq_none (by omega)]
      · rintro rfl i _
        simp
    · intro i hi
      have hi' : i < m.length := by simpa using hi
      rw [List.getElem_map, List.getElem_map, E]
      congr 1
      rw [decide_eq_decide, List.getElem?_eq_getElem (by omega), List.getElem?_eq_getElem hi']
      simp
  · rw [alk_lens (by simpa using hl) mk hmk, decide_eq_false (fun z => hl (by rw [z]))]
theorem alk_R (E : Alk n ea) (l m : List α) (hm : m.length ≤ 1000000) : alikeR (n + 1) (eR ea l) (eR ea m) = some (decide (l = m)) := alk_seq E .tuple (.inl rfl) l m hm
theorem alk_2 (E : Alk n ea) (F : Alk n eb) : Alk (n + 1) (e2 ea eb) := fun p q => by
  refine (alk_items (n := n) (xs := [ea p.1, eb p.2]) (ys := [ea q.1, eb q.2]) (p := fun i => if i = 0 then decide (p.1 = q.1) else decide (p.2 = q.2)) rfl (by simp) (fun i hi => ?_) .tuple (.inl rfl)).trans ?_
  · match i, hi with
    | 0, _ => exact E p.1 q.1
    | 1, _ => exact F p.2 q.2
  · congr 1
    rw [decide_eq_decide]
    constructor
    · intro h
      have h0 := h 0 (by simp)
      have h1 := h 1 (by simp)
      simp at h0 h1
      exact Prod.ext h0 h1
    · rintro rfl i _
      split <;> simp
end
def alikeT {α β : Type} (n : Nat) (ea : α → PyData) (eb : β → PyData) (a : α) (b : β) : Option Bool := alikeR n (ea a) (eb b)
theorem t_alikeT {α β : Type} (n : Nat) (ea : α → PyData) (eb : β → PyData) (a : α) (b : β) : S__law_alike n [ea a, eb b] = (alikeT n ea eb a b).map eB := t_alike n (ea a) (eb b)
abbrev DamT : Type := Int × Int × Int × List Int
structure DamIn (m : Int) (d : DamT) : Prop where
  c0 : 0 ≤ d.1
  c1 : d.1 ≤ 1000
  s0 : 0 ≤ d.2.1
  s1 : d.2.1 ≤ d.1
  e0 : 0 ≤ d.2.2.1
  e1 : d.2.2.1 ≤ d.1
  fl : Flows d.2.2.2
  l0 : 0 < d.2.2.2.length
  l1 : (d.2.2.2.length : Int) ≤ m
theorem rangeI_len (n : Int) : (rangeI n).length = n.toNat := by simp [rangeI]
section
variable {α β γ δ ε : Type} {en : En} {f g h k l : En → Option PyData} {ea : α → PyData} {eb : β → PyData} {ec : γ → PyData} {ed : δ → PyData} {ee : ε → PyData} {A : Option α} {B : Option β} {C : Option γ} {D : Option δ} {E : Option ε}
def e5 (a : α → PyData) (b : β → PyData) (c : γ → PyData) (d : δ → PyData) (e : ε → PyData) (p : α × β × γ × δ × ε) : PyData := .tuple [a p.1, b p.2.1, c p.2.2.1, d p.2.2.2.1, e p.2.2.2.2]
end
def F_sum_of_ratios (c_plus : List PyData → Option PyData) : En → Option Fl := (sSeq (sSet 1 (fTup (fCons (fLit (.int 0)) (fCons (fLit (.int 1)) fNil)))) (sSeq (sFor (iSeq (fVar 0)) (bName 2) (sSet 1 (fCall 2 c_plus (fCons (fVar 1) (fCons (fVar 2) fNil))))) (sRet (fVar 1))))
def S_sum_of_ratios := runD 3 (F_sum_of_ratios S_plus)
noncomputable def N_sum_of_ratios (ratios' : (List (Int × Int))) : Option (Int × Int) := ((some ((0 : Int), (1 : Int))).bind fun total_1 => ((foldO (fun (i4 : (Int × Int)) (s2 : ((Int × Int))) => ((N_plus s2 i4).bind fun total_5 => some total_5)) ratios' total_1).bind fun s6 => (some s6)))
end Ty
namespace EZ
open PySem PySem.Spec PyProof.Rows L2 DN
open Sem (wp)
section
variable {prog : Program} {w : World} {A : Around} {E : Value → Shared → Prop} {s : Shared} {z TI TO T i1 i2 : Addr} {f : Bool} {u1 u2 : Value} {fp1 fp2 : List Addr} {n1 n2 i : Nat} {P1 P2 : Nat → Value → Prop} {St1 St2 : Nat → Heap → Prop}
def ZipAny (h : Heap) (z TI TO : Addr) : Prop := IsZip h z TI TO .none ∨ ∃ T f, IsZipHeld h z TI TO T f
theorem ZipAny.cell {h : Heap} (q : ZipAny h z TI TO) : ∃ vs, h.get? z = some { cls := .type "zip", dict := none, data := .fields vs, slots := #[] } := by
  rcases q with e | ⟨_, _, e⟩
  · exact ⟨_, e⟩
  · exact ⟨_, e⟩
theorem ZipAny.at {h h' : Heap} (q : ZipAny h z TI TO) (k : ∀ o, h.get? z = some o → h'.get? z = some o) : ZipAny h' z TI TO := by
  rcases q with e | ⟨T, f, e⟩
  · exact .inl (k _ e)
  · exact .inr ⟨T, f, k _ e⟩
variable {e : Addr} {old : Value}
end
end EZ
namespace DN
open PySem PySem.Spec PyProof.Rows L2
end DN
namespace Ty
open PySem PySem.Spec PyProof.Rows L2 DN
end Ty
namespace DN
open PySem PySem.Spec PyProof.Rows L2
end DN
namespace DN
open PySem PySem.Spec PyProof.Rows L2 Ty
theorem w_put {α : Type} {en : En} {ρ i : Nat} {f g : En → Option PyData} {e : α → PyData} {v w : List α} {x : α} {k : Int} {Q : Fl → Prop} (hi : en[i]? = some (.own (List.map e v))) (hf : ∀ rw, f (en.set ρ (.own rw)) = some (e x)) (hg : ∀ rw, g (en.set ρ (.own rw)) = some (.int k)) (hw : putO v k x = some w) (h : Q (.nx (en.set i (.own (List.map e w))))) : lPut ρ i g f en Q := by
  unfold putO at hw
  obtain ⟨j, h1, rfl⟩ := Option.map_eq_some_iff.mp hw
  refine ⟨e x, k, _, j, hf, hg, hi, by rw [List.length_map]; exact h1, ?_⟩
  rw [List.map_set] at h
  exact h
theorem n_put {α σ ζ : Type} {en : En} {f g : En → Option PyData} {ea : α → PyData} {i : Nat} {env : σ → ζ → En} {A : Option α} {B : Option Int} {v : List α} {K : List α → σ} (pa : f en = A.map ea) (pb : g en = B.map eI) (ho : en[i]? = some (.own (v.map ea))) (q : ∀ w : List α, ∃ z, en.set i (.own (w.map ea)) = env (K w) z) : NX (sPut i g f en) ((A.bind fun x => B.bind fun k => putO v k x).bind fun w => some (K w)) env := by
  rw [put_eq pa pb ho]
  cases (A.bind fun x => B.bind fun k => putO v k x) with
  | none => exact rfl
  | some w =>
    obtain ⟨z, e⟩ := q w
    exact ⟨z, congrArg (fun y => some (Fl.nx y)) e⟩
end DN
namespace Ty
open PySem PySem.Spec PyProof.Rows L2 DN
def F_is_pond (c_is_between : List PyData → Option PyData) : En → Option Fl := (sSeq (sIf (kNot (kAnd (fT (fIsi isTup (fVar 0))) (fT (fEq (fLen (fVar 0)) (fLit (.int 2)))))) (sRet (fLit (.bool false))) sNil) (sRet (fAnd (fCall 3 c_is_between (fCons (fIx (fVar 0) (fLit (.int 0))) (fCons (fLit (.int 1)) (fCons (fLit (.int 8)) fNil)))) (fCall 3 c_is_between (fCons (fIx (fVar 0) (fLit (.int 1))) (fCons (fLit (.int 1)) (fCons (fIx (fVar 0) (fLit (.int 0))) fNil)))))))
def S_is_pond := runD 1 (F_is_pond S_is_between)
def F_is_chances (c_is_row_of_ratios c_sum_of_ratios : List PyData → Option PyData) : En → Option Fl := (sSeq (sIf (kNot (kAnd (fT (fIsi isTup (fVar 0))) (fT (fChain gLe gLe (fLit (.int 2)) (fLen (fVar 0)) (fLit (.int 6)))))) (sRet (fLit (.bool false))) sNil) (sSeq (sIf (kOr (kNot (fT (fCall 2 c_is_row_of_ratios (fCons (fVar 0) (fCons (fLen (fVar 0)) fNil))))) (fT (fAnyL (fLc (iSeq (fVar 0)) (bName 1) kYes (fGt (fIx (fVar 1) (fLit (.int 1))) (fLit (.int 100))) [1])))) (sRet (fLit (.bool false))) sNil) (sRet (fEq (fCall 1 c_sum_of_ratios (fCons (fVar 0) fNil)) (fTup (fCons (fLit (.int 1)) (fCons (fLit (.int 1)) fNil)))))))
def S_is_chances := runD 2 (F_is_chances S_is_row_of_ratios S_sum_of_ratios)
def F_check_chances (c_is_chances : List PyData → Option PyData) : En → Option Fl := (sIf (kNot (fT (fCall 1 c_is_chances (fCons (fVar 0) fNil)))) sNever sNil)
def S_check_chances := runD 1 (F_check_chances S_is_chances)
def F_check_pond (c_is_pond : List PyData → Option PyData) : En → Option Fl := (sIf (kNot (fT (fCall 1 c_is_pond (fCons (fVar 0) fNil)))) sNever sNil)
def S_check_pond := runD 1 (F_check_pond S_is_pond)
def F_check_pond_and_chances (c_check_pond c_check_chances : List PyData → Option PyData) : En → Option Fl := (sSeq (sExpr (fCall 1 c_check_pond (fCons (fVar 0) fNil))) (sExpr (fCall 1 c_check_chances (fCons (fVar 1) fNil))))
def S_check_pond_and_chances := runD 2 (F_check_pond_and_chances S_check_pond S_check_chances)
def F_count_of_levels : En → Option Fl := (sRet (fPlus (fSub (fIx (fVar 0) (fLit (.int 0))) (fIx (fVar 0) (fLit (.int 1)))) (fLit (.int 1))))
def S_count_of_levels := runD 1 (F_count_of_levels)
def F_check_level (c_is_between c_count_of_levels : List PyData → Option PyData) : En → Option Fl := (sIf (kNot (fT (fCall 3 c_is_between (fCons (fVar 1) (fCons (fLit (.int 0)) (fCons (fSub (fCall 1 c_count_of_levels (fCons (fVar 0) fNil)) (fLit (.int 1))) fNil)))))) sNever sNil)
def S_check_level := runD 2 (F_check_level S_is_between S_count_of_levels)
def F_check_months (c_is_between : List PyData → Option PyData) : En → Option Fl := (sIf (kNot (fT (fCall 3 c_is_between (fCons (fVar 0) (fCons (fLit (.int 0)) (fCons (fLit (.int 24)) fNil)))))) sNever sNil)
def S_check_months := runD 1 (F_check_months S_is_between)
def F_months_from : En → Option Fl := (sSeq (sBind (bTup [3, 4]) (fVar 0)) (sSeq (sOwn 5 (fLst fNil)) (sSeq (sFor (iEnumF (fVar 1)) (bTup [6, 7]) (sSeq (sSet 8 (fMin2 (fVar 3) (fPlus (fVar 2) (fVar 6)))) (sSeq (sSet 9 (fMin2 (fVar 4) (fVar 8))) (sApp 5 (fTup (fCons (fVar 7) (fCons (fVar 9) (fCons (fSub (fPlus (fVar 2) (fVar 6)) (fVar 8)) (fCons (fSub (fVar 8) (fVar 9)) fNil))))))))) (sSeq (sRel 5) (sRet (fVar 5))))))
def S_months_from := runD 10 (F_months_from)
def F_month_later (c_months_from c_plus c_times : List PyData → Option PyData) : En → Option Fl := (sSeq (sOwn 3 (fRepL (fLst (fCons (fTup (fCons (fLit (.int 0)) (fCons (fLit (.int 1)) fNil))) fNil)) (fLen (fVar 2)))) (sSeq (sFor (iEnumF (fVar 2)) (bTup [4, 5]) (sFor (iSeq (fCall 3 c_months_from (fCons (fVar 0) (fCons (fVar 1) (fCons (fVar 4) fNil))))) (bTup [6, 7, 7, 8]) (sPut 3 (fVar 8) (fCall 2 c_plus (fCons (fIx (fOwn 3) (fVar 8)) (fCons (fCall 2 c_times (fCons (fVar 5) (fCons (fVar 6) fNil))) fNil)))))) (sSeq (sRel 3) (sRet (fVar 3)))))
def S_month_later := runD 9 (F_month_later S_months_from S_plus S_times)
def F_sure_of (c_count_of_levels : List PyData → Option PyData) : En → Option Fl := (sRet (fLc (iRange1 (fCall 1 c_count_of_levels (fCons (fVar 0) fNil))) (bName 2) kYes (fIf (fT (fEq (fVar 2) (fVar 1))) (fTup (fCons (fLit (.int 1)) (fCons (fLit (.int 1)) fNil))) (fTup (fCons (fLit (.int 0)) (fCons (fLit (.int 1)) fNil)))) [2]))
def S_sure_of := runD 3 (F_sure_of S_count_of_levels)
def F_months_later (c_sure_of c_month_later : List PyData → Option PyData) : En → Option Fl := (sSeq (sSet 4 (fCall 2 c_sure_of (fCons (fVar 0) (fCons (fVar 2) fNil)))) (sSeq (sFor (iRange1 (fVar 3)) (bName 5) (sSet 4 (fCall 3 c_month_later (fCons (fVar 0) (fCons (fVar 1) (fCons (fVar 4) fNil)))))) (sRet (fTuple (fVar 4)))))
def S_months_later := runD 6 (F_months_later S_sure_of S_month_later)
def F_pond_steps (c_check_pond_and_chances c_check_level c_check_months c_months_later : List PyData → Option PyData) : En → Option Fl := (sSeq (sExpr (fCall 2 c_check_pond_and_chances (fCons (fVar 0) (fCons (fVar 1) fNil)))) (sSeq (sExpr (fCall 2 c_check_level (fCons (fVar 0) (fCons (fVar 2) fNil)))) (sSeq (sExpr (fCall 1 c_check_months (fCons (fVar 3) fNil))) (sRet (fCall 4 c_months_later (fCons (fVar 0) (fCons (fVar 1) (fCons (fVar 2) (fCons (fVar 3) fNil)))))))))
def S_pond_steps := runD 4 (F_pond_steps S_check_pond_and_chances S_check_level S_check_months S_months_later)
def F__law_month : En → Option Fl := (sSeq (sSet 3 (fMin2 (fIx (fVar 0) (fLit (.int 0))) (fPlus (fVar 1) (fVar 2)))) (sSeq (sSet 4 (fMin2 (fIx (fVar 0) (fLit (.int 1))) (fVar 3))) (sRet (fTup (fCons (fVar 4) (fCons (fSub (fPlus (fVar 1) (fVar 2)) (fVar 3)) (fCons (fSub (fVar 3) (fVar 4)) fNil)))))))
def S__law_month := runD 5 (F__law_month)
def F__law_step (c__law_month c__law_plus c__law_by : List PyData → Option PyData) : En → Option Fl := (sSeq (sOwn 3 (fRepL (fLst (fCons (fTup (fCons (fLit (.int 0)) (fCons (fLit (.int 1)) fNil))) fNil)) (fLen (fVar 2)))) (sSeq (sFor (iRange1 (fLen (fVar 2))) (bName 4) (sFor (iRange1 (fLen (fVar 1))) (bName 5) (sSeq (sSet 6 (fIx (fCall 3 c__law_month (fCons (fVar 0) (fCons (fVar 4) (fCons (fVar 5) fNil)))) (fLit (.int 2)))) (sPut 3 (fVar 6) (fCall 2 c__law_plus (fCons (fIx (fOwn 3) (fVar 6)) (fCons (fCall 2 c__law_by (fCons (fIx (fVar 2) (fVar 4)) (fCons (fIx (fVar 1) (fVar 5)) fNil))) fNil))))))) (sSeq (sRel 3) (sRet (fVar 3)))))
def S__law_step := runD 7 (F__law_step S__law_month S__law_plus S__law_by)
noncomputable def N_is_pond (value' : (Int × Int)) : Option Bool := (iteO (some (!(true && (decide ((2 : Int) = (2 : Int)))))) (some false) (andO (N_is_between value'.1 (1 : Int) (8 : Int)) (N_is_between value'.2 (1 : Int) value'.1)))
theorem t_is_pond (value' : (Int × Int)) : S_is_pond [(e2 eI eI) value'] = (N_is_pond value').map eB := d_run (r_seq_ifret (P := (some (!(true && (decide ((2 : Int) = (2 : Int))))))) (A := (some false)) (t_knot (P := (some (true && (decide ((2 : Int) = (2 : Int)))))) (t_kandP (b := true) (c := (decide ((2 : Int) = (2 : Int)))) (t_T (P := (some true)) (t_isi (A := (some value')) (b := fun x1 => true) (fun _ => rfl) (t_var (i := 0) (e := (e2 eI eI)) (v := value') rfl))) (t_T (P := (some (decide ((2 : Int) = (2 : Int))))) (t_f2 (A := (some (2 : Int))) (B := (some (2 : Int))) (h := (fun x3 y4 => some (decide (x3 = y4)))) (g_eq enc_I rfl) (t_f1 (A := (some value')) (h := (fun x2 => some (2 : Int))) (fun _ => rfl) (t_var (i := 0) (e := (e2 eI eI)) (v := value') rfl)) (t_int (i := 2)))))) (r_ret (A := (some false)) (t_bl (b := false))) (r_ret (A := (andO (N_is_between value'.1 (1 : Int) (8 : Int)) (N_is_between value'.2 (1 : Int) value'.1))) (t_and (P := (N_is_between value'.1 (1 : Int) (8 : Int))) (Q := (N_is_between value'.2 (1 : Int) value'.1)) (t_call3 (A := (some value'.1)) (B := (some (1 : Int))) (C := (some (8 : Int))) (N := N_is_between) t_is_between (t_ixc (A := (some value')) (k := 0) (pr := fun x6 => x6.1) (eb := eI) (fun _ => rfl) (t_var (i := 0) (e := (e2 eI eI)) (v := value') rfl)) (t_int (i := 1)) (t_int (i := 8))) (t_call3 (A := (some value'.2)) (B := (some (1 : Int))) (C := (some value'.1)) (N := N_is_between) t_is_between (t_ixc (A := (some value')) (k := 1) (pr := fun x7 => x7.2) (eb := eI) (fun _ => rfl) (t_var (i := 0) (e := (e2 eI eI)) (v := value') rfl)) (t_int (i := 1)) (t_ixc (A := (some value')) (k := 0) (pr := fun x8 => x8.1) (eb := eI) (fun _ => rfl) (t_var (i := 0) (e := (e2 eI eI)) (v := value') rfl))))))
noncomputable def N_check_pond (pond' : (Int × Int)) : Option Unit := (iteO ((N_is_pond pond').bind fun b1 => some (!b1)) none (some ())).bind fun _ => some ()
theorem t_check_pond (pond' : (Int × Int)) : S_check_pond [(e2 eI eI) pond'] = (N_check_pond pond').map eU := d_runN (env := (fun (s : Unit) (z : Unit) => [.dat ((e2 eI eI) pond')])) (n_if (P := ((N_is_pond pond').bind fun b1 => some (!b1))) (A := none) (B := (some ())) (t_knot (P := (N_is_pond pond')) (t_T (P := (N_is_pond pond')) (t_call1 (A := (some pond')) (N := N_is_pond) t_is_pond (t_var (i := 0) (e := (e2 eI eI)) (v := pond') rfl)))) n_never (n_nil (s := ()) (z := ()) rfl))
noncomputable def N_sum_of_ratios_1 (ratios' : (List (Int × Int))) : Option (Int × Int) := ((some ((0 : Int), (1 : Int))).bind fun total_1 => ((foldO (fun (i4 : (Int × Int)) (s2 : ((Int × Int))) => ((N_plus s2 i4).bind fun total_5 => some total_5)) ratios' total_1).bind fun s6 => (some s6)))
theorem t_sum_of_ratios_1 (ratios' : (List (Int × Int))) : S_sum_of_ratios [(eR (e2 eI eI)) ratios'] = (N_sum_of_ratios_1 ratios').map (e2 eI eI) := d_run (r_seq_set (i := 1) (A := (some ((0 : Int), (1 : Int)))) (t_tup2 (A := (some (0 : Int))) (B := (some (1 : Int))) (t_int (i := 0)) (t_int (i := 1))) (lt_of rfl) (fun total_1 => (r_seq_nx (env := (fun (s : ((Int × Int))) (z : (Slot)) => [.dat ((eR (e2 eI eI)) ratios'), .dat ((e2 eI eI) s), z])) (n_for (env := (fun (s : ((Int × Int))) (z : (Slot)) => [.dat ((eR (e2 eI eI)) ratios'), .dat ((e2 eI eI) s), z])) (s := total_1) (z := (.no : Slot)) (L := (some ratios')) (ea := (e2 eI eI)) (Bd := (fun (i4 : (Int × Int)) (s2 : ((Int × Int))) => ((N_plus s2 i4).bind fun total_5 => some total_5))) rfl (i_seqR (A := (some ratios')) (e := (e2 eI eI)) (t_var (i := 0) (e := (eR (e2 eI eI))) (v := ratios') rfl)) (fun i4 s2 z3 => ⟨[.dat ((eR (e2 eI eI)) ratios'), .dat ((e2 eI eI) s2), .dat ((e2 eI eI) i4)], rfl, (n_set  (K := fun total_5 => total_5) (i := 1) (A := (N_plus s2 i4)) (t_call2 (A := (some s2)) (B := (some i4)) (N := N_plus) t_plus (t_var (i := 1) (e := (e2 eI eI)) (v := s2) rfl) (t_var (i := 2) (e := (e2 eI eI)) (v := i4) rfl)) (lt_of rfl) (fun total_5 => ⟨(.dat ((e2 eI eI) i4) : Slot), rfl⟩))⟩)) (fun s6 z7 => (r_ret (A := (some s6)) (t_var (i := 1) (e := (e2 eI eI)) (v := s6) rfl))))))
noncomputable def N_is_chances (value' : (List (Int × Int))) : Option Bool := (iteO (some (!(true && (decide ((2 : Int) ≤ ((value').length : Int)) && decide (((value').length : Int) ≤ (6 : Int)))))) (some false) (iteO (orO ((N_is_row_of_ratios value' ((value').length : Int)).bind fun b5 => some (!b5)) ((compL (fun (i6 : (Int × Int)) => (some true)) (fun (i6 : (Int × Int)) => (some (decide ((100 : Int) < i6.2)))) value').bind (fun x12 => some (List.any x12 id)))) (some false) ((N_sum_of_ratios_1 value').bind fun x13 => (some ((1 : Int), (1 : Int))).bind fun y14 => some (decide (x13 = y14)))))
theorem t_is_chances (value' : (List (Int × Int))) : S_is_chances [(eR (e2 eI eI)) value'] = (N_is_chances value').map eB := d_run (r_seq_ifret (P := (some (!(true && (decide ((2 : Int) ≤ ((value').length : Int)) && decide (((value').length : Int) ≤ (6 : Int))))))) (A := (some false)) (t_knot (P := (some (true && (decide ((2 : Int) ≤ ((value').length : Int)) && decide (((value').length : Int) ≤ (6 : Int)))))) (t_kandP (b := true) (c := (decide ((2 : Int) ≤ ((value').length : Int)) && decide (((value').length : Int) ≤ (6 : Int)))) (t_T (P := (some true)) (t_isi (A := (some value')) (b := fun x1 => true) (fun _ => rfl) (t_var (i := 0) (e := (eR (e2 eI eI))) (v := value') rfl))) (t_T (P := (some (decide ((2 : Int) ≤ ((value').length : Int)) && decide (((value').length : Int) ≤ (6 : Int))))) (t_chainP (x := (2 : Int)) (y := ((value').length : Int)) (z := (6 : Int)) (t_int (i := 2)) (t_f1 (A := (some value')) (h := (fun x2 => some ((x2).length : Int))) g_lenR (t_var (i := 0) (e := (eR (e2 eI eI))) (v := value') rfl)) (t_int (i := 6)))))) (r_ret (A := (some false)) (t_bl (b := false))) (r_seq_ifret (P := (orO ((N_is_row_of_ratios value' ((value').length : Int)).bind fun b5 => some (!b5)) ((compL (fun (i6 : (Int × Int)) => (some true)) (fun (i6 : (Int × Int)) => (some (decide ((100 : Int) < i6.2)))) value').bind (fun x12 => some (List.any x12 id))))) (A := (some false)) (t_kor (P := ((N_is_row_of_ratios value' ((value').length : Int)).bind fun b5 => some (!b5))) (Q := ((compL (fun (i6 : (Int × Int)) => (some true)) (fun (i6 : (Int × Int)) => (some (decide ((100 : Int) < i6.2)))) value').bind (fun x12 => some (List.any x12 id)))) (t_knot (P := (N_is_row_of_ratios value' ((value').length : Int))) (t_T (P := (N_is_row_of_ratios value' ((value').length : Int))) (t_call2 (A := (some value')) (B := (some ((value').length : Int))) (N := N_is_row_of_ratios) t_is_row_of_ratios (t_var (i := 0) (e := (eR (e2 eI eI))) (v := value') rfl) (t_f1 (A := (some value')) (h := (fun x4 => some ((x4).length : Int))) g_lenR (t_var (i := 0) (e := (eR (e2 eI eI))) (v := value') rfl))))) (t_T (P := ((compL (fun (i6 : (Int × Int)) => (some true)) (fun (i6 : (Int × Int)) => (some (decide ((100 : Int) < i6.2)))) value').bind (fun x12 => some (List.any x12 id)))) (t_f1 (A := (compL (fun (i6 : (Int × Int)) => (some true)) (fun (i6 : (Int × Int)) => (some (decide ((100 : Int) < i6.2)))) value')) (h := (fun x12 => some (List.any x12 id))) g_anyL (t_lc (L := (some value')) (ea := (e2 eI eI)) (eb := eB) (T := fun (i6 : (Int × Int)) => (some true)) (Bf := fun (i6 : (Int × Int)) => (some (decide ((100 : Int) < i6.2)))) (i_seqR (A := (some value')) (e := (e2 eI eI)) (t_var (i := 0) (e := (eR (e2 eI eI))) (v := value') rfl)) (fun i6 => ⟨[.dat ((eR (e2 eI eI)) value'), .dat ((e2 eI eI) i6)], rfl, t_yes, (t_f2 (A := (some i6.2)) (B := (some (100 : Int))) (h := (fun x10 y11 => some (decide (y11 < x10)))) g_gt (t_ixc (A := (some i6)) (k := 1) (pr := fun x7 => x7.2) (eb := eI) (fun _ => rfl) (t_var (i := 1) (e := (e2 eI eI)) (v := i6) rfl)) (t_int (i := 100)))⟩))))) (r_ret (A := (some false)) (t_bl (b := false))) (r_ret (A := ((N_sum_of_ratios_1 value').bind fun x13 => (some ((1 : Int), (1 : Int))).bind fun y14 => some (decide (x13 = y14)))) (t_f2 (A := (N_sum_of_ratios_1 value')) (B := (some ((1 : Int), (1 : Int)))) (h := (fun x13 y14 => some (decide (x13 = y14)))) (g_eq (enc_2 enc_I enc_I) rfl) (t_call1 (A := (some value')) (N := N_sum_of_ratios_1) t_sum_of_ratios_1 (t_var (i := 0) (e := (eR (e2 eI eI))) (v := value') rfl)) (t_tup2 (A := (some (1 : Int))) (B := (some (1 : Int))) (t_int (i := 1)) (t_int (i := 1)))))))
noncomputable def N_check_chances (chances' : (List (Int × Int))) : Option Unit := (iteO ((N_is_chances chances').bind fun b1 => some (!b1)) none (some ())).bind fun _ => some ()
theorem t_check_chances (chances' : (List (Int × Int))) : S_check_chances [(eR (e2 eI eI)) chances'] = (N_check_chances chances').map eU := d_runN (env := (fun (s : Unit) (z : Unit) => [.dat ((eR (e2 eI eI)) chances')])) (n_if (P := ((N_is_chances chances').bind fun b1 => some (!b1))) (A := none) (B := (some ())) (t_knot (P := (N_is_chances chances')) (t_T (P := (N_is_chances chances')) (t_call1 (A := (some chances')) (N := N_is_chances) t_is_chances (t_var (i := 0) (e := (eR (e2 eI eI))) (v := chances') rfl)))) n_never (n_nil (s := ()) (z := ()) rfl))
noncomputable def N_check_pond_and_chances (pond' : (Int × Int)) (chances' : (List (Int × Int))) : Option Unit := ((N_check_pond pond').bind fun _ => ((N_check_chances chances').bind fun _ => some ())).bind fun _ => some ()
theorem t_check_pond_and_chances (pond' : (Int × Int)) (chances' : (List (Int × Int))) : S_check_pond_and_chances [(e2 eI eI) pond', (eR (e2 eI eI)) chances'] = (N_check_pond_and_chances pond' chances').map eU := d_runN (env := (fun (s : Unit) (z : Unit) => [.dat ((e2 eI eI) pond'), .dat ((eR (e2 eI eI)) chances')])) (n_seq_expr (A := (N_check_pond pond')) (t_call1 (A := (some pond')) (N := N_check_pond) t_check_pond (t_var (i := 0) (e := (e2 eI eI)) (v := pond') rfl)) (n_expr (A := (N_check_chances chances')) (s := ()) (z := ()) (t_call1 (A := (some chances')) (N := N_check_chances) t_check_chances (t_var (i := 1) (e := (eR (e2 eI eI))) (v := chances') rfl)) rfl))
noncomputable def N_count_of_levels (pond' : (Int × Int)) : Option Int := (some ((pond'.1 - pond'.2) + (1 : Int)))
theorem t_count_of_levels (pond' : (Int × Int)) : S_count_of_levels [(e2 eI eI) pond'] = (N_count_of_levels pond').map eI := d_run (r_ret (A := (some ((pond'.1 - pond'.2) + (1 : Int)))) (t_f2 (A := (some (pond'.1 - pond'.2))) (B := (some (1 : Int))) (h := (fun x5 y6 => some (x5 + y6))) g_add (t_f2 (A := (some pond'.1)) (B := (some pond'.2)) (h := (fun x3 y4 => some (x3 - y4))) g_sub (t_ixc (A := (some pond')) (k := 0) (pr := fun x1 => x1.1) (eb := eI) (fun _ => rfl) (t_var (i := 0) (e := (e2 eI eI)) (v := pond') rfl)) (t_ixc (A := (some pond')) (k := 1) (pr := fun x2 => x2.2) (eb := eI) (fun _ => rfl) (t_var (i := 0) (e := (e2 eI eI)) (v := pond') rfl))) (t_int (i := 1))))
noncomputable def N_check_level (pond' : (Int × Int)) (level' : Int) : Option Unit := (iteO (((some level').bind fun a3 => (some (0 : Int)).bind fun a4 => ((N_count_of_levels pond').bind fun x1 => (some (1 : Int)).bind fun y2 => some (x1 - y2)).bind fun a5 => N_is_between a3 a4 a5).bind fun b6 => some (!b6)) none (some ())).bind fun _ => some ()
theorem t_check_level (pond' : (Int × Int)) (level' : Int) : S_check_level [(e2 eI eI) pond', eI level'] = (N_check_level pond' level').map eU := d_runN (env := (fun (s : Unit) (z : Unit) => [.dat ((e2 eI eI) pond'), .dat (eI level')])) (n_if (P := (((some level').bind fun a3 => (some (0 : Int)).bind fun a4 => ((N_count_of_levels pond').bind fun x1 => (some (1 : Int)).bind fun y2 => some (x1 - y2)).bind fun a5 => N_is_between a3 a4 a5).bind fun b6 => some (!b6))) (A := none) (B := (some ())) (t_knot (P := ((some level').bind fun a3 => (some (0 : Int)).bind fun a4 => ((N_count_of_levels pond').bind fun x1 => (some (1 : Int)).bind fun y2 => some (x1 - y2)).bind fun a5 => N_is_between a3 a4 a5)) (t_T (P := ((some level').bind fun a3 => (some (0 : Int)).bind fun a4 => ((N_count_of_levels pond').bind fun x1 => (some (1 : Int)).bind fun y2 => some (x1 - y2)).bind fun a5 => N_is_between a3 a4 a5)) (t_call3 (A := (some level')) (B := (some (0 : Int))) (C := ((N_count_of_levels pond').bind fun x1 => (some (1 : Int)).bind fun y2 => some (x1 - y2))) (N := N_is_between) t_is_between (t_var (i := 1) (e := eI) (v := level') rfl) (t_int (i := 0)) (t_f2 (A := (N_count_of_levels pond')) (B := (some (1 : Int))) (h := (fun x1 y2 => some (x1 - y2))) g_sub (t_call1 (A := (some pond')) (N := N_count_of_levels) t_count_of_levels (t_var (i := 0) (e := (e2 eI eI)) (v := pond') rfl)) (t_int (i := 1)))))) n_never (n_nil (s := ()) (z := ()) rfl))
noncomputable def N_check_months (months' : Int) : Option Unit := (iteO ((N_is_between months' (0 : Int) (24 : Int)).bind fun b1 => some (!b1)) none (some ())).bind fun _ => some ()
theorem t_check_months (months' : Int) : S_check_months [eI months'] = (N_check_months months').map eU := d_runN (env := (fun (s : Unit) (z : Unit) => [.dat (eI months')])) (n_if (P := ((N_is_between months' (0 : Int) (24 : Int)).bind fun b1 => some (!b1))) (A := none) (B := (some ())) (t_knot (P := (N_is_between months' (0 : Int) (24 : Int))) (t_T (P := (N_is_between months' (0 : Int) (24 : Int))) (t_call3 (A := (some months')) (B := (some (0 : Int))) (C := (some (24 : Int))) (N := N_is_between) t_is_between (t_var (i := 0) (e := eI) (v := months') rfl) (t_int (i := 0)) (t_int (i := 24))))) n_never (n_nil (s := ()) (z := ()) rfl))
noncomputable def N_sure_of (pond' : (Int × Int)) (level' : Int) : Option (List (Int × Int)) := (((N_count_of_levels pond').bind range1O).bind fun l => compL (fun (i1 : Int) => (some true)) (fun (i1 : Int) => (some (cond (decide (i1 = level')) ((1 : Int), (1 : Int)) ((0 : Int), (1 : Int))))) l)
theorem t_sure_of (pond' : (Int × Int)) (level' : Int) : S_sure_of [(e2 eI eI) pond', eI level'] = (N_sure_of pond' level').map (eL (e2 eI eI)) := d_run (r_ret (A := (((N_count_of_levels pond').bind range1O).bind fun l => compL (fun (i1 : Int) => (some true)) (fun (i1 : Int) => (some (cond (decide (i1 = level')) ((1 : Int), (1 : Int)) ((0 : Int), (1 : Int))))) l)) (t_lc (L := ((N_count_of_levels pond').bind range1O)) (ea := eI) (eb := (e2 eI eI)) (T := fun (i1 : Int) => (some true)) (Bf := fun (i1 : Int) => (some (cond (decide (i1 = level')) ((1 : Int), (1 : Int)) ((0 : Int), (1 : Int))))) (i_range1 (A := (N_count_of_levels pond')) (t_call1 (A := (some pond')) (N := N_count_of_levels) t_count_of_levels (t_var (i := 0) (e := (e2 eI eI)) (v := pond') rfl))) (fun i1 => ⟨[.dat ((e2 eI eI) pond'), .dat (eI level'), .dat (eI i1)], rfl, t_yes, (t_ifP (b := (decide (i1 = level'))) (x := ((1 : Int), (1 : Int))) (y := ((0 : Int), (1 : Int))) (t_T (P := (some (decide (i1 = level')))) (t_f2 (A := (some i1)) (B := (some level')) (h := (fun x2 y3 => some (decide (x2 = y3)))) (g_eq enc_I rfl) (t_var (i := 2) (e := eI) (v := i1) rfl) (t_var (i := 1) (e := eI) (v := level') rfl))) (t_tup2 (A := (some (1 : Int))) (B := (some (1 : Int))) (t_int (i := 1)) (t_int (i := 1))) (t_tup2 (A := (some (0 : Int))) (B := (some (1 : Int))) (t_int (i := 0)) (t_int (i := 1))))⟩)))
noncomputable def N_months_from (pond' : (Int × Int)) (chances' : (List (Int × Int))) (level' : Int) : Option (List ((Int × Int) × Int × Int × Int)) := ((some pond').bind fun p1 => ((some []).bind fun months_2 => ((foldO (fun (i6 : (Int × (Int × Int))) (s4 : ((List ((Int × Int) × Int × Int × Int)))) => ((some (min2 p1.1 (level' + i6.1))).bind fun there_7 => ((some (min2 p1.2 there_7)).bind fun given_14 => ((appO s4 (i6.2, given_14, ((level' + i6.1) - there_7), (there_7 - given_14))).bind fun months_25 => some months_25)))) (enumN 0 chances') months_2).bind fun s27 => (some s27))))
theorem t_months_from (pond' : (Int × Int)) (chances' : (List (Int × Int))) (level' : Int) : S_months_from [(e2 eI eI) pond', (eR (e2 eI eI)) chances', eI level'] = (N_months_from pond' chances' level').map (eL (e4 (e2 eI eI) eI eI eI)) := d_run (r_seq_bind (A := (some pond')) (envb := fun p1 => [.dat ((e2 eI eI) pond'), .dat ((eR (e2 eI eI)) chances'), .dat (eI level'), .dat (eI p1.1), .dat (eI p1.2), .no, .no, .no, .no, .no]) (t_var (i := 0) (e := (e2 eI eI)) (v := pond') rfl) (fun _ => rfl) (fun p1 => (r_seq_own (i := 5) (ea := (e4 (e2 eI eI) eI eI eI)) (A := (some [])) (t_lstL (L := some []) (t_nil (α := ((Int × Int) × Int × Int × Int)) (e := (e4 (e2 eI eI) eI eI eI)))) (lt_of rfl) (fun months_2 => (r_seq_nx (env := (fun (s : ((List ((Int × Int) × Int × Int × Int)))) (z : (Slot × Slot × Slot × Slot)) => [.dat ((e2 eI eI) pond'), .dat ((eR (e2 eI eI)) chances'), .dat (eI level'), .dat (eI p1.1), .dat (eI p1.2), .own (List.map (e4 (e2 eI eI) eI eI eI) s), z.1, z.2.1, z.2.2.1, z.2.2.2])) (n_for (env := (fun (s : ((List ((Int × Int) × Int × Int × Int)))) (z : (Slot × Slot × Slot × Slot)) => [.dat ((e2 eI eI) pond'), .dat ((eR (e2 eI eI)) chances'), .dat (eI level'), .dat (eI p1.1), .dat (eI p1.2), .own (List.map (e4 (e2 eI eI) eI eI eI) s), z.1, z.2.1, z.2.2.1, z.2.2.2])) (s := months_2) (z := ((.no : Slot), (.no : Slot), (.no : Slot), (.no : Slot))) (L := (some (enumN 0 chances'))) (ea := (e2 eI (e2 eI eI))) (Bd := (fun (i6 : (Int × (Int × Int))) (s4 : ((List ((Int × Int) × Int × Int × Int)))) => ((some (min2 p1.1 (level' + i6.1))).bind fun there_7 => ((some (min2 p1.2 there_7)).bind fun given_14 => ((appO s4 (i6.2, given_14, ((level' + i6.1) - there_7), (there_7 - given_14))).bind fun months_25 => some months_25))))) rfl (i_enumR (A := (some chances')) (e := (e2 eI eI)) (t_var (i := 1) (e := (eR (e2 eI eI))) (v := chances') rfl)) (fun i6 s4 z5 => ⟨[.dat ((e2 eI eI) pond'), .dat ((eR (e2 eI eI)) chances'), .dat (eI level'), .dat (eI p1.1), .dat (eI p1.2), .own (List.map (e4 (e2 eI eI) eI eI eI) s4), .dat (eI i6.1), .dat ((e2 eI eI) i6.2), z5.2.2.1, z5.2.2.2], rfl, (n_seq_set (i := 8) (A := (some (min2 p1.1 (level' + i6.1)))) (t_f2 (A := (some p1.1)) (B := (some (level' + i6.1))) (h := (fun x12 y13 => some (min2 x12 y13))) g_min2 (t_var (i := 3) (e := eI) (v := p1.1) rfl) (t_f2 (A := (some level')) (B := (some i6.1)) (h := (fun x8 y9 => some (x8 + y9))) g_add (t_var (i := 2) (e := eI) (v := level') rfl) (t_var (i := 6) (e := eI) (v := i6.1) rfl))) (lt_of rfl) (fun there_7 => (n_seq_set (i := 9) (A := (some (min2 p1.2 there_7))) (t_f2 (A := (some p1.2)) (B := (some there_7)) (h := (fun x17 y18 => some (min2 x17 y18))) g_min2 (t_var (i := 4) (e := eI) (v := p1.2) rfl) (t_var (i := 8) (e := eI) (v := there_7) rfl)) (lt_of rfl) (fun given_14 => (n_app (i := 5) (A := (some (i6.2, given_14, ((level' + i6.1) - there_7), (there_7 - given_14)))) (v := s4) (K := fun months_25 => months_25) (t_tup4 (A := (some i6.2)) (B := (some given_14)) (C := (some ((level' + i6.1) - there_7))) (D := (some (there_7 - given_14))) (t_var (i := 7) (e := (e2 eI eI)) (v := i6.2) rfl) (t_var (i := 9) (e := eI) (v := given_14) rfl) (t_f2 (A := (some (level' + i6.1))) (B := (some there_7)) (h := (fun x21 y22 => some (x21 - y22))) g_sub (t_f2 (A := (some level')) (B := (some i6.1)) (h := (fun x19 y20 => some (x19 + y20))) g_add (t_var (i := 2) (e := eI) (v := level') rfl) (t_var (i := 6) (e := eI) (v := i6.1) rfl)) (t_var (i := 8) (e := eI) (v := there_7) rfl)) (t_f2 (A := (some there_7)) (B := (some given_14)) (h := (fun x23 y24 => some (x23 - y24))) g_sub (t_var (i := 8) (e := eI) (v := there_7) rfl) (t_var (i := 9) (e := eI) (v := given_14) rfl))) rfl (fun months_25 => ⟨((.dat (eI i6.1) : Slot), (.dat ((e2 eI eI) i6.2) : Slot), (.dat (eI there_7) : Slot), (.dat (eI given_14) : Slot)), rfl⟩))))))⟩)) (fun s27 z28 => (r_seq_rel (i := 5) (ea := (e4 (e2 eI eI) eI eI eI)) (a := s27) rfl (r_ret (A := (some s27)) (t_var (i := 5) (e := (eL (e4 (e2 eI eI) eI eI eI))) (v := s27) rfl)))))))))
noncomputable def N_month_later (pond' : (Int × Int)) (chances' : (List (Int × Int))) (shares' : (List (Int × Int))) : Option (List (Int × Int)) := ((repL [((0 : Int), (1 : Int))] ((shares').length : Int)).bind fun later_1 => ((foldO (fun (i8 : (Int × (Int × Int))) (s6 : ((List (Int × Int)))) => (((N_months_from pond' chances' i8.1).bind fun l => foldO (fun (i11 : ((Int × Int) × Int × Int × Int)) (s9 : ((List (Int × Int)))) => ((((atI s9 i11.2.2.2).bind fun a14 => (N_times i8.2 i11.1).bind fun a15 => N_plus a14 a15).bind fun x16 => (some i11.2.2.2).bind fun y17 => putO s9 y17 x16).bind fun later_18 => some later_18)) l s6).bind fun s19 => some s19)) (enumN 0 shares') later_1).bind fun s21 => (some s21)))
theorem t_month_later (pond' : (Int × Int)) (chances' : (List (Int × Int))) (shares' : (List (Int × Int))) : S_month_later [(e2 eI eI) pond', (eR (e2 eI eI)) chances', (eL (e2 eI eI)) shares'] = (N_month_later pond' chances' shares').map (eL (e2 eI eI)) := d_run (r_seq_own (i := 3) (ea := (e2 eI eI)) (A := (repL [((0 : Int), (1 : Int))] ((shares').length : Int))) (t_f2 (A := (some [((0 : Int), (1 : Int))])) (B := (some ((shares').length : Int))) (h := (fun x3 y4 => (repL x3 y4))) g_repL (t_lstL (L := (some [((0 : Int), (1 : Int))])) (t_cons (A := (some ((0 : Int), (1 : Int)))) (L := (some [])) (t_tup2 (A := (some (0 : Int))) (B := (some (1 : Int))) (t_int (i := 0)) (t_int (i := 1))) (t_nil (α := (Int × Int)) (e := (e2 eI eI))))) (t_f1 (A := (some shares')) (h := (fun x2 => some ((x2).length : Int))) g_lenL (t_var (i := 2) (e := (eL (e2 eI eI))) (v := shares') rfl))) (lt_of rfl) (fun later_1 => (r_seq_nx (env := (fun (s : ((List (Int × Int)))) (z : (Slot × Slot × Slot × Slot × Slot)) => [.dat ((e2 eI eI) pond'), .dat ((eR (e2 eI eI)) chances'), .dat ((eL (e2 eI eI)) shares'), .own (List.map (e2 eI eI) s), z.1, z.2.1, z.2.2.1, z.2.2.2.1, z.2.2.2.2])) (n_for (env := (fun (s : ((List (Int × Int)))) (z : (Slot × Slot × Slot × Slot × Slot)) => [.dat ((e2 eI eI) pond'), .dat ((eR (e2 eI eI)) chances'), .dat ((eL (e2 eI eI)) shares'), .own (List.map (e2 eI eI) s), z.1, z.2.1, z.2.2.1, z.2.2.2.1, z.2.2.2.2])) (s := later_1) (z := ((.no : Slot), (.no : Slot), (.no : Slot), (.no : Slot), (.no : Slot))) (L := (some (enumN 0 shares'))) (ea := (e2 eI (e2 eI eI))) rfl (i_enumL (A := (some shares')) (e := (e2 eI eI)) (t_var (i := 2) (e := (eL (e2 eI eI))) (v := shares') rfl)) (fun i8 s6 z7 => ⟨[.dat ((e2 eI eI) pond'), .dat ((eR (e2 eI eI)) chances'), .dat ((eL (e2 eI eI)) shares'), .own (List.map (e2 eI eI) s6), .dat (eI i8.1), .dat ((e2 eI eI) i8.2), z7.2.2.1, z7.2.2.2.1, z7.2.2.2.2], rfl, (n_conv (env2 := (fun (s : ((List (Int × Int)))) (z : (Slot × Slot × Slot)) => [.dat ((e2 eI eI) pond'), .dat ((eR (e2 eI eI)) chances'), .dat ((eL (e2 eI eI)) shares'), .own (List.map (e2 eI eI) s), .dat (eI i8.1), .dat ((e2 eI eI) i8.2), z.1, z.2.1, z.2.2])) (K := fun s19 => s19) (n_for (env := (fun (s : ((List (Int × Int)))) (z : (Slot × Slot × Slot)) => [.dat ((e2 eI eI) pond'), .dat ((eR (e2 eI eI)) chances'), .dat ((eL (e2 eI eI)) shares'), .own (List.map (e2 eI eI) s), .dat (eI i8.1), .dat ((e2 eI eI) i8.2), z.1, z.2.1, z.2.2])) (s := s6) (z := ((z7.2.2.1 : Slot), (z7.2.2.2.1 : Slot), (z7.2.2.2.2 : Slot))) (L := (N_months_from pond' chances' i8.1)) (ea := (e4 (e2 eI eI) eI eI eI)) (Bd := (fun (i11 : ((Int × Int) × Int × Int × Int)) (s9 : ((List (Int × Int)))) => ((((atI s9 i11.2.2.2).bind fun a14 => (N_times i8.2 i11.1).bind fun a15 => N_plus a14 a15).bind fun x16 => (some i11.2.2.2).bind fun y17 => putO s9 y17 x16).bind fun later_18 => some later_18))) rfl (i_seqL (A := (N_months_from pond' chances' i8.1)) (e := (e4 (e2 eI eI) eI eI eI)) (t_call3 (A := (some pond')) (B := (some chances')) (C := (some i8.1)) (N := N_months_from) t_months_from (t_var (i := 0) (e := (e2 eI eI)) (v := pond') rfl) (t_var (i := 1) (e := (eR (e2 eI eI))) (v := chances') rfl) (t_var (i := 4) (e := eI) (v := i8.1) rfl))) (fun i11 s9 z10 => ⟨[.dat ((e2 eI eI) pond'), .dat ((eR (e2 eI eI)) chances'), .dat ((eL (e2 eI eI)) shares'), .own (List.map (e2 eI eI) s9), .dat (eI i8.1), .dat ((e2 eI eI) i8.2), .dat ((e2 eI eI) i11.1), .dat (eI i11.2.2.1), .dat (eI i11.2.2.2)], rfl, (n_put (i := 3) (ea := (e2 eI eI)) (A := ((atI s9 i11.2.2.2).bind fun a14 => (N_times i8.2 i11.1).bind fun a15 => N_plus a14 a15)) (B := (some i11.2.2.2)) (v := s9) (t_call2 (A := (atI s9 i11.2.2.2)) (B := (N_times i8.2 i11.1)) (N := N_plus) t_plus (t_f2 (A := (some s9)) (B := (some i11.2.2.2)) (h := (fun x12 y13 => (atI x12 y13))) g_ixL (t_own (i := 3) (e := (e2 eI eI)) (v := s9) rfl) (t_var (i := 8) (e := eI) (v := i11.2.2.2) rfl)) (t_call2 (A := (some i8.2)) (B := (some i11.1)) (N := N_times) t_times (t_var (i := 5) (e := (e2 eI eI)) (v := i8.2) rfl) (t_var (i := 6) (e := (e2 eI eI)) (v := i11.1) rfl))) (t_var (i := 8) (e := eI) (v := i11.2.2.2) rfl) rfl (K := fun later_18 => later_18) (fun later_18 => ⟨((.dat ((e2 eI eI) i11.1) : Slot), (.dat (eI i11.2.2.1) : Slot), (.dat (eI i11.2.2.2) : Slot)), rfl⟩))⟩)) (fun s19 z20 => ⟨((.dat (eI i8.1) : Slot), (.dat ((e2 eI eI) i8.2) : Slot), (z20.1 : Slot), (z20.2.1 : Slot), (z20.2.2 : Slot)), rfl⟩))⟩)) (fun s21 z22 => (r_seq_rel (i := 3) (ea := (e2 eI eI)) (a := s21) rfl (r_ret (A := (some s21)) (t_var (i := 3) (e := (eL (e2 eI eI))) (v := s21) rfl)))))))
noncomputable def N_months_later (pond' : (Int × Int)) (chances' : (List (Int × Int))) (level' : Int) (months' : Int) : Option (List (Int × Int)) := ((N_sure_of pond' level').bind fun shares_1 => (((range1O months').bind fun l => foldO (fun (i4 : Int) (s2 : ((List (Int × Int)))) => ((N_month_later pond' chances' s2).bind fun shares_5 => some shares_5)) l shares_1).bind fun s6 => (some s6)))
theorem t_months_later (pond' : (Int × Int)) (chances' : (List (Int × Int))) (level' : Int) (months' : Int) : S_months_later [(e2 eI eI) pond', (eR (e2 eI eI)) chances', eI level', eI months'] = (N_months_later pond' chances' level' months').map (eR (e2 eI eI)) := d_run (r_seq_set (i := 4) (A := (N_sure_of pond' level')) (t_call2 (A := (some pond')) (B := (some level')) (N := N_sure_of) t_sure_of (t_var (i := 0) (e := (e2 eI eI)) (v := pond') rfl) (t_var (i := 2) (e := eI) (v := level') rfl)) (lt_of rfl) (fun shares_1 => (r_seq_nx (env := (fun (s : ((List (Int × Int)))) (z : (Slot)) => [.dat ((e2 eI eI) pond'), .dat ((eR (e2 eI eI)) chances'), .dat (eI level'), .dat (eI months'), .dat ((eL (e2 eI eI)) s), z])) (n_for (env := (fun (s : ((List (Int × Int)))) (z : (Slot)) => [.dat ((e2 eI eI) pond'), .dat ((eR (e2 eI eI)) chances'), .dat (eI level'), .dat (eI months'), .dat ((eL (e2 eI eI)) s), z])) (s := shares_1) (z := (.no : Slot)) (L := (range1O months')) (ea := eI) (Bd := (fun (i4 : Int) (s2 : ((List (Int × Int)))) => ((N_month_later pond' chances' s2).bind fun shares_5 => some shares_5))) rfl (i_range1 (A := (some months')) (t_var (i := 3) (e := eI) (v := months') rfl)) (fun i4 s2 z3 => ⟨[.dat ((e2 eI eI) pond'), .dat ((eR (e2 eI eI)) chances'), .dat (eI level'), .dat (eI months'), .dat ((eL (e2 eI eI)) s2), .dat (eI i4)], rfl, (n_set  (K := fun shares_5 => shares_5) (i := 4) (A := (N_month_later pond' chances' s2)) (t_call3 (A := (some pond')) (B := (some chances')) (C := (some s2)) (N := N_month_later) t_month_later (t_var (i := 0) (e := (e2 eI eI)) (v := pond') rfl) (t_var (i := 1) (e := (eR (e2 eI eI))) (v := chances') rfl) (t_var (i := 4) (e := (eL (e2 eI eI))) (v := s2) rfl)) (lt_of rfl) (fun shares_5 => ⟨(.dat (eI i4) : Slot), rfl⟩))⟩)) (fun s6 z7 => (r_ret (A := (some s6)) (t_f1 (A := (some s6)) (h := (fun x8 => some x8)) g_tupL (t_var (i := 4) (e := (eL (e2 eI eI))) (v := s6) rfl)))))))
noncomputable def N_pond_steps (pond' : (Int × Int)) (chances' : (List (Int × Int))) (level' : Int) (months' : Int) : Option (List (Int × Int)) := ((N_check_pond_and_chances pond' chances').bind fun _ => ((N_check_level pond' level').bind fun _ => ((N_check_months months').bind fun _ => (N_months_later pond' chances' level' months'))))
theorem t_pond_steps (pond' : (Int × Int)) (chances' : (List (Int × Int))) (level' : Int) (months' : Int) : S_pond_steps [(e2 eI eI) pond', (eR (e2 eI eI)) chances', eI level', eI months'] = (N_pond_steps pond' chances' level' months').map (eR (e2 eI eI)) := d_run (r_seq_expr (A := (N_check_pond_and_chances pond' chances')) (t_call2 (A := (some pond')) (B := (some chances')) (N := N_check_pond_and_chances) t_check_pond_and_chances (t_var (i := 0) (e := (e2 eI eI)) (v := pond') rfl) (t_var (i := 1) (e := (eR (e2 eI eI))) (v := chances') rfl)) (r_seq_expr (A := (N_check_level pond' level')) (t_call2 (A := (some pond')) (B := (some level')) (N := N_check_level) t_check_level (t_var (i := 0) (e := (e2 eI eI)) (v := pond') rfl) (t_var (i := 2) (e := eI) (v := level') rfl)) (r_seq_expr (A := (N_check_months months')) (t_call1 (A := (some months')) (N := N_check_months) t_check_months (t_var (i := 3) (e := eI) (v := months') rfl)) (r_ret (A := (N_months_later pond' chances' level' months')) (t_call4 (A := (some pond')) (B := (some chances')) (C := (some level')) (D := (some months')) (N := N_months_later) t_months_later (t_var (i := 0) (e := (e2 eI eI)) (v := pond') rfl) (t_var (i := 1) (e := (eR (e2 eI eI))) (v := chances') rfl) (t_var (i := 2) (e := eI) (v := level') rfl) (t_var (i := 3) (e := eI) (v := months') rfl))))))
noncomputable def N__law_month (pond' : (Int × Int)) (level' : Int) (inflow' : Int) : Option (Int × Int × Int) := ((some (min2 pond'.1 (level' + inflow'))).bind fun held_1 => ((some (min2 pond'.2 held_1)).bind fun given_9 => (some (given_9, ((level' + inflow') - held_1), (held_1 - given_9)))))
theorem t__law_month (pond' : (Int × Int)) (level' : Int) (inflow' : Int) : S__law_month [(e2 eI eI) pond', eI level', eI inflow'] = (N__law_month pond' level' inflow').map (e3 eI eI eI) := d_run (r_seq_set (i := 3) (A := (some (min2 pond'.1 (level' + inflow')))) (t_f2 (A := (some pond'.1)) (B := (some (level' + inflow'))) (h := (fun x7 y8 => some (min2 x7 y8))) g_min2 (t_ixc (A := (some pond')) (k := 0) (pr := fun x2 => x2.1) (eb := eI) (fun _ => rfl) (t_var (i := 0) (e := (e2 eI eI)) (v := pond') rfl)) (t_f2 (A := (some level')) (B := (some inflow')) (h := (fun x3 y4 => some (x3 + y4))) g_add (t_var (i := 1) (e := eI) (v := level') rfl) (t_var (i := 2) (e := eI) (v := inflow') rfl))) (lt_of rfl) (fun held_1 => (r_seq_set (i := 4) (A := (some (min2 pond'.2 held_1))) (t_f2 (A := (some pond'.2)) (B := (some held_1)) (h := (fun x13 y14 => some (min2 x13 y14))) g_min2 (t_ixc (A := (some pond')) (k := 1) (pr := fun x10 => x10.2) (eb := eI) (fun _ => rfl) (t_var (i := 0) (e := (e2 eI eI)) (v := pond') rfl)) (t_var (i := 3) (e := eI) (v := held_1) rfl)) (lt_of rfl) (fun given_9 => (r_ret (A := (some (given_9, ((level' + inflow') - held_1), (held_1 - given_9)))) (t_tup3 (A := (some given_9)) (B := (some ((level' + inflow') - held_1))) (C := (some (held_1 - given_9))) (t_var (i := 4) (e := eI) (v := given_9) rfl) (t_f2 (A := (some (level' + inflow'))) (B := (some held_1)) (h := (fun x17 y18 => some (x17 - y18))) g_sub (t_f2 (A := (some level')) (B := (some inflow')) (h := (fun x15 y16 => some (x15 + y16))) g_add (t_var (i := 1) (e := eI) (v := level') rfl) (t_var (i := 2) (e := eI) (v := inflow') rfl)) (t_var (i := 3) (e := eI) (v := held_1) rfl)) (t_f2 (A := (some held_1)) (B := (some given_9)) (h := (fun x19 y20 => some (x19 - y20))) g_sub (t_var (i := 3) (e := eI) (v := held_1) rfl) (t_var (i := 4) (e := eI) (v := given_9) rfl))))))))
noncomputable def N__law_step (pond' : (Int × Int)) (chances' : (List (Int × Int))) (some' : (List (Int × Int))) : Option (List (Int × Int)) := ((repL [((0 : Int), (1 : Int))] ((some').length : Int)).bind fun found_1 => (((range1O ((some').length : Int)).bind fun l => foldO (fun (i8 : Int) (s6 : ((List (Int × Int)))) => (((range1O ((chances').length : Int)).bind fun l => foldO (fun (i12 : Int) (s10 : ((List (Int × Int)))) => (((N__law_month pond' i8 i12).bind fun x14 => some x14.2.2).bind fun later_13 => ((((atI s10 later_13).bind fun a23 => ((atI some' i8).bind fun a21 => (atI chances' i12).bind fun a22 => N__law_by a21 a22).bind fun a24 => N__law_plus a23 a24).bind fun x25 => (some later_13).bind fun y26 => putO s10 y26 x25).bind fun found_27 => some found_27))) l s6).bind fun s28 => some s28)) l found_1).bind fun s30 => (some s30)))
theorem t__law_step (pond' : (Int × Int)) (chances' : (List (Int × Int))) (some' : (List (Int × Int))) : S__law_step [(e2 eI eI) pond', (eR (e2 eI eI)) chances', (eL (e2 eI eI)) some'] = (N__law_step pond' chances' some').map (eL (e2 eI eI)) := d_run (r_seq_own (i := 3) (ea := (e2 eI eI)) (A := (repL [((0 : Int), (1 : Int))] ((some').length : Int))) (t_f2 (A := (some [((0 : Int), (1 : Int))])) (B := (some ((some').length : Int))) (h := (fun x3 y4 => (repL x3 y4))) g_repL (t_lstL (L := (some [((0 : Int), (1 : Int))])) (t_cons (A := (some ((0 : Int), (1 : Int)))) (L := (some [])) (t_tup2 (A := (some (0 : Int))) (B := (some (1 : Int))) (t_int (i := 0)) (t_int (i := 1))) (t_nil (α := (Int × Int)) (e := (e2 eI eI))))) (t_f1 (A := (some some')) (h := (fun x2 => some ((x2).length : Int))) g_lenL (t_var (i := 2) (e := (eL (e2 eI eI))) (v := some') rfl))) (lt_of rfl) (fun found_1 => (r_seq_nx (env := (fun (s : ((List (Int × Int)))) (z : (Slot × Slot × Slot)) => [.dat ((e2 eI eI) pond'), .dat ((eR (e2 eI eI)) chances'), .dat ((eL (e2 eI eI)) some'), .own (List.map (e2 eI eI) s), z.1, z.2.1, z.2.2])) (n_for (env := (fun (s : ((List (Int × Int)))) (z : (Slot × Slot × Slot)) => [.dat ((e2 eI eI) pond'), .dat ((eR (e2 eI eI)) chances'), .dat ((eL (e2 eI eI)) some'), .own (List.map (e2 eI eI) s), z.1, z.2.1, z.2.2])) (s := found_1) (z := ((.no : Slot), (.no : Slot), (.no : Slot))) (L := (range1O ((some').length : Int))) (ea := eI) rfl (i_range1 (A := (some ((some').length : Int))) (t_f1 (A := (some some')) (h := (fun x5 => some ((x5).length : Int))) g_lenL (t_var (i := 2) (e := (eL (e2 eI eI))) (v := some') rfl))) (fun i8 s6 z7 => ⟨[.dat ((e2 eI eI) pond'), .dat ((eR (e2 eI eI)) chances'), .dat ((eL (e2 eI eI)) some'), .own (List.map (e2 eI eI) s6), .dat (eI i8), z7.2.1, z7.2.2], rfl, (n_conv (env2 := (fun (s : ((List (Int × Int)))) (z : (Slot × Slot)) => [.dat ((e2 eI eI) pond'), .dat ((eR (e2 eI eI)) chances'), .dat ((eL (e2 eI eI)) some'), .own (List.map (e2 eI eI) s), .dat (eI i8), z.1, z.2])) (K := fun s28 => s28) (n_for (env := (fun (s : ((List (Int × Int)))) (z : (Slot × Slot)) => [.dat ((e2 eI eI) pond'), .dat ((eR (e2 eI eI)) chances'), .dat ((eL (e2 eI eI)) some'), .own (List.map (e2 eI eI) s), .dat (eI i8), z.1, z.2])) (s := s6) (z := ((z7.2.1 : Slot), (z7.2.2 : Slot))) (L := (range1O ((chances').length : Int))) (ea := eI) (Bd := (fun (i12 : Int) (s10 : ((List (Int × Int)))) => (((N__law_month pond' i8 i12).bind fun x14 => some x14.2.2).bind fun later_13 => ((((atI s10 later_13).bind fun a23 => ((atI some' i8).bind fun a21 => (atI chances' i12).bind fun a22 => N__law_by a21 a22).bind fun a24 => N__law_plus a23 a24).bind fun x25 => (some later_13).bind fun y26 => putO s10 y26 x25).bind fun found_27 => some found_27)))) rfl (i_range1 (A := (some ((chances').length : Int))) (t_f1 (A := (some chances')) (h := (fun x9 => some ((x9).length : Int))) g_lenR (t_var (i := 1) (e := (eR (e2 eI eI))) (v := chances') rfl))) (fun i12 s10 z11 => ⟨[.dat ((e2 eI eI) pond'), .dat ((eR (e2 eI eI)) chances'), .dat ((eL (e2 eI eI)) some'), .own (List.map (e2 eI eI) s10), .dat (eI i8), .dat (eI i12), z11.2], rfl, (n_seq_set (i := 6) (A := ((N__law_month pond' i8 i12).bind fun x14 => some x14.2.2)) (t_ixc (A := (N__law_month pond' i8 i12)) (k := 2) (pr := fun x14 => x14.2.2) (eb := eI) (fun _ => rfl) (t_call3 (A := (some pond')) (B := (some i8)) (C := (some i12)) (N := N__law_month) t__law_month (t_var (i := 0) (e := (e2 eI eI)) (v := pond') rfl) (t_var (i := 4) (e := eI) (v := i8) rfl) (t_var (i := 5) (e := eI) (v := i12) rfl))) (lt_of rfl) (fun later_13 => (n_put (i := 3) (ea := (e2 eI eI)) (A := ((atI s10 later_13).bind fun a23 => ((atI some' i8).bind fun a21 => (atI chances' i12).bind fun a22 => N__law_by a21 a22).bind fun a24 => N__law_plus a23 a24)) (B := (some later_13)) (v := s10) (t_call2 (A := (atI s10 later_13)) (B := ((atI some' i8).bind fun a21 => (atI chances' i12).bind fun a22 => N__law_by a21 a22)) (N := N__law_plus) t__law_plus (t_f2 (A := (some s10)) (B := (some later_13)) (h := (fun x15 y16 => (atI x15 y16))) g_ixL (t_own (i := 3) (e := (e2 eI eI)) (v := s10) rfl) (t_var (i := 6) (e := eI) (v := later_13) rfl)) (t_call2 (A := (atI some' i8)) (B := (atI chances' i12)) (N := N__law_by) t__law_by (t_f2 (A := (some some')) (B := (some i8)) (h := (fun x17 y18 => (atI x17 y18))) g_ixL (t_var (i := 2) (e := (eL (e2 eI eI))) (v := some') rfl) (t_var (i := 4) (e := eI) (v := i8) rfl)) (t_f2 (A := (some chances')) (B := (some i12)) (h := (fun x19 y20 => (atI x19 y20))) g_ixR (t_var (i := 1) (e := (eR (e2 eI eI))) (v := chances') rfl) (t_var (i := 5) (e := eI) (v := i12) rfl)))) (t_var (i := 6) (e := eI) (v := later_13) rfl) rfl (K := fun found_27 => found_27) (fun found_27 => ⟨((.dat (eI i12) : Slot), (.dat (eI later_13) : Slot)), rfl⟩))))⟩)) (fun s28 z29 => ⟨((.dat (eI i8) : Slot), (z29.1 : Slot), (z29.2 : Slot)), rfl⟩))⟩)) (fun s30 z31 => (r_seq_rel (i := 3) (ea := (e2 eI eI)) (a := s30) rfl (r_ret (A := (some s30)) (t_var (i := 3) (e := (eL (e2 eI eI))) (v := s30) rfl)))))))
def F__law_pond (c__law_ratio : List PyData → Option PyData) : LF := (lSeq (lSet 1 (w2 gPlus (wP 0 (fLit (.int 1))) (wDraw 1 cTaken (wCons (wP 0 (fLit (.int 8))) wNil)))) (lSeq (lSet 2 (w2 gPlus (wP 0 (fLit (.int 1))) (wDraw 1 cPick (wCons (wLst (wCons (wP 0 (fLit (.int 0))) (wCons (wDraw 1 cTaken (wCons (wP 0 (fVar 1)) wNil)) wNil))) wNil)))) (lSeq (lOwnW 3 (wLc (wRange1 (w2 gPlus (wP 0 (fLit (.int 2))) (wDraw 1 cTaken (wCons (wP 0 (fLit (.int 5))) wNil)))) (bName 4) wYes (wDraw 1 cPick (wCons (wLst (wCons (wP 0 (fLit (.int 0))) (wCons (wP 0 (fLit (.int 1))) (wCons (wP 0 (fLit (.int 2))) (wCons (wDraw 1 cTaken (wCons (wP 0 (fLit (.int 8))) wNil)) wNil))))) wNil)) [4])) (lSeq (lIf (wT 0 (fT (fEq (fSum (fOwn 3)) (fLit (.int 0))))) (lPut 0 3 (fNeg (fLit (.int 1))) (fLit (.int 1))) lNil) (lSeq (lRel 3) (lRetV (wP 0 (fTup (fCons (fTup (fCons (fVar 1) (fCons (fVar 2) fNil))) (fCons (fTuple (fLc (iSeq (fVar 3)) (bName 5) kYes (fCall 2 c__law_ratio (fCons (fVar 5) (fCons (fSum (fVar 3)) fNil))) [5])) fNil))))))))))
def W__law_pond  (K : ((Int × Int) × (List (Int × Int))) → Prop) : Prop := (∀ r87 : Int, 0 ≤ r87 → r87 < 8 → (0 < ((1 : Int) + r87) ∧ ((1 : Int) + r87) ≤ 1000000 ∧ ∀ r90 : Int, 0 ≤ r90 → r90 < ((1 : Int) + r87) → (∀ r93 : Int, r93 ∈ [(0 : Int), r90] → (∀ r97 : Int, 0 ≤ r97 → r97 < 5 → (-1000000 ≤ ((2 : Int) + r97) ∧ ((2 : Int) + r97) ≤ 1000000 ∧ ∀ l95 : List Int, All2 (fun (i100 : Int) (y : Int) => ∀ R : Int → Prop, ((∀ r101 : Int, 0 ≤ r101 → r101 < 8 → (∀ r104 : Int, r104 ∈ [(0 : Int), (1 : Int), (2 : Int), r101] → R r104))) → R y) (rangeI ((2 : Int) + r97)) l95 → (∃ b109 : Bool, (some (decide ((List.sum l95) = (0 : Int)))) = some b109 ∧ (b109 = true → (∃ w114 : List Int, putO l95 (-(1 : Int)) (1 : Int) = some w114 ∧ (∃ v121 : ((Int × Int) × (List (Int × Int))), ((some (((1 : Int) + r87), ((1 : Int) + r93))).bind fun x119 => ((compL (fun (i116 : Int) => (some true)) (fun (i116 : Int) => (N__law_ratio i116 (List.sum w114))) w114).bind (fun x118 => some x118)).bind fun x120 => some (x119, x120)) = some v121 ∧ K (v121)))) ∧ (b109 = false → (∃ v128 : ((Int × Int) × (List (Int × Int))), ((some (((1 : Int) + r87), ((1 : Int) + r93))).bind fun x126 => ((compL (fun (i123 : Int) => (some true)) (fun (i123 : Int) => (N__law_ratio i123 (List.sum l95))) l95).bind (fun x125 => some x125)).bind fun x127 => some (x126, x127)) = some v128 ∧ K (v128)))))))))
theorem w__law_pond  (K : ((Int × Int) × (List (Int × Int))) → Prop) (Qd : PyData → Prop) (hK : ∀ v, K v → Qd ((e2 (e2 eI eI) (eR (e2 eI eI))) v)) (H : W__law_pond  K) : runV 6 (F__law_pond S__law_ratio) [] Qd := ⟨eI (1 : Int), fun rw => (t_int (i := 1)), ⟨eI (8 : Int), fun rw => (t_int (i := 8)), ⟨rfl, (8 : Int), rfl, (by decide), (by decide), fun r87 g88 g89 => ⟨eI ((1 : Int) + r87), rfl, ⟨_, rfl, ⟨eI (1 : Int), fun rw => (t_int (i := 1)), ⟨eI (0 : Int), fun rw => (t_int (i := 0)), ⟨eI ((1 : Int) + r87), fun rw => (t_var (i := 1) (e := eI) (v := ((1 : Int) + r87)) rfl), ⟨rfl, ((1 : Int) + r87), rfl, (H r87 g88 g89).1, (H r87 g88 g89).2.1, fun r90 g91 g92 => ⟨Nat.le_of_ble_eq_true rfl, rfl, List.map eI [(0 : Int), r90], rfl, Nat.le_of_ble_eq_true rfl, Nat.le_of_ble_eq_true rfl, pick_of (fun r93 g94 => ⟨eI ((1 : Int) + r93), rfl, ⟨_, rfl, ⟨(noown1 (i := 4) rfl), ⟨eI (2 : Int), fun rw => (t_int (i := 2)), ⟨eI (5 : Int), fun rw => (t_int (i := 5)), ⟨rfl, (5 : Int), rfl, (by decide), (by decide), fun r97 g98 g99 => ⟨eI ((2 : Int) + r97), rfl, ⟨((2 : Int) + r97), rfl, ((((H r87 g88 g89).2.2 r90 g91 g92) r93 g94) r97 g98 g99).1, ((((H r87 g88 g89).2.2 r90 g91 g92) r93 g94) r97 g98 g99).2.1, rangeD_len ((((H r87 g88 g89).2.2 r90 g91 g92) r93 g94) r97 g98 g99).2.1, wlc_range (P := (fun (i100 : Int) (y : Int) => ∀ R : Int → Prop, ((∀ r101 : Int, 0 ≤ r101 → r101 < 8 → (∀ r104 : Int, r104 ∈ [(0 : Int), (1 : Int), (2 : Int), r101] → R r104))) → R y)) (eb := eI) (fun i100 => ⟨[.no, .dat (eI ((1 : Int) + r87)), .dat (eI ((1 : Int) + r93)), .no, .dat (eI i100), .no], rfl, fun Q hR => ⟨eI (0 : Int), fun rw => (t_int (i := 0)), ⟨eI (1 : Int), fun rw => (t_int (i := 1)), ⟨eI (2 : Int), fun rw => (t_int (i := 2)), ⟨eI (8 : Int), fun rw => (t_int (i := 8)), ⟨rfl, (8 : Int), rfl, (by decide), (by decide), fun r101 g102 g103 => ⟨Nat.le_of_ble_eq_true rfl, rfl, List.map eI [(0 : Int), (1 : Int), (2 : Int), r101], rfl, Nat.le_of_ble_eq_true rfl, Nat.le_of_ble_eq_true rfl, pick_of (fun r104 g105 => (hR r104 (fun R hh => ((hh r101 g102 g103) r104 g105))))⟩⟩⟩⟩⟩⟩⟩) (fun l95 g96 => ⟨_, rfl, lt_of rfl, (Exists.elim (((((H r87 g88 g89).2.2 r90 g91 g92) r93 g94) r97 g98 g99).2.2 l95 g96) fun b109 h110 => ⟨b109, fun rw => Eq.trans (t_T (P := (some (decide ((List.sum l95) = (0 : Int))))) (t_f2 (A := (some (List.sum l95))) (B := (some (0 : Int))) (h := (fun x107 y108 => some (decide (x107 = y108)))) (g_eq enc_I rfl) (t_f1 (A := (some l95)) (h := (fun x106 => some (List.sum x106))) g_sumL (t_own (i := 3) (e := eI) (v := l95) rfl)) (t_int (i := 0)))) h110.1, if_of (fun e111 => (Exists.elim (h110.2.1 e111) fun w114 h115 => w_put (i := 3) (e := eI) (v := l95) (w := w114) (x := (1 : Int)) (k := (-(1 : Int))) rfl (fun rw => (t_int (i := 1))) (fun rw => (t_f1 (A := (some (1 : Int))) (h := (fun x113 => some (-x113))) g_neg (t_int (i := 1)))) h115.1 ⟨List.map eI w114, rfl, (Exists.elim h115.2 fun v121 h122 => ⟨(e2 (e2 eI eI) (eR (e2 eI eI))) v121, fun rw => Eq.trans (t_tup2 (A := (some (((1 : Int) + r87), ((1 : Int) + r93)))) (B := ((compL (fun (i116 : Int) => (some true)) (fun (i116 : Int) => (N__law_ratio i116 (List.sum w114))) w114).bind (fun x118 => some x118))) (t_tup2 (A := (some ((1 : Int) + r87))) (B := (some ((1 : Int) + r93))) (t_var (i := 1) (e := eI) (v := ((1 : Int) + r87)) rfl) (t_var (i := 2) (e := eI) (v := ((1 : Int) + r93)) rfl)) (t_f1 (A := (compL (fun (i116 : Int) => (some true)) (fun (i116 : Int) => (N__law_ratio i116 (List.sum w114))) w114)) (h := (fun x118 => some x118)) g_tupL (t_lc (L := (some w114)) (ea := eI) (eb := (e2 eI eI)) (T := fun (i116 : Int) => (some true)) (Bf := fun (i116 : Int) => (N__law_ratio i116 (List.sum w114))) (i_seqL (A := (some w114)) (e := eI) (t_var (i := 3) (e := (eL eI)) (v := w114) rfl)) (fun i116 => ⟨[(.own rw), .dat (eI ((1 : Int) + r87)), .dat (eI ((1 : Int) + r93)), .dat ((eL eI) w114), .no, .dat (eI i116)], rfl, t_yes, (t_call2 (A := (some i116)) (B := (some (List.sum w114))) (N := N__law_ratio) t__law_ratio (t_var (i := 5) (e := eI) (v := i116) rfl) (t_f1 (A := (some w114)) (h := (fun x117 => some (List.sum x117))) g_sumL (t_var (i := 3) (e := (eL eI)) (v := w114) rfl)))⟩)))) (congrArg (Option.map (e2 (e2 eI eI) (eR (e2 eI eI)))) h122.1), ⟨_, rfl, hK _ h122.2⟩⟩)⟩)) (fun e112 => ⟨List.map eI l95, rfl, (Exists.elim (h110.2.2 e112) fun v128 h129 => ⟨(e2 (e2 eI eI) (eR (e2 eI eI))) v128, fun rw => Eq.trans (t_tup2 (A := (some (((1 : Int) + r87), ((1 : Int) + r93)))) (B := ((compL (fun (i123 : Int) => (some true)) (fun (i123 : Int) => (N__law_ratio i123 (List.sum l95))) l95).bind (fun x125 => some x125))) (t_tup2 (A := (some ((1 : Int) + r87))) (B := (some ((1 : Int) + r93))) (t_var (i := 1) (e := eI) (v := ((1 : Int) + r87)) rfl) (t_var (i := 2) (e := eI) (v := ((1 : Int) + r93)) rfl)) (t_f1 (A := (compL (fun (i123 : Int) => (some true)) (fun (i123 : Int) => (N__law_ratio i123 (List.sum l95))) l95)) (h := (fun x125 => some x125)) g_tupL (t_lc (L := (some l95)) (ea := eI) (eb := (e2 eI eI)) (T := fun (i123 : Int) => (some true)) (Bf := fun (i123 : Int) => (N__law_ratio i123 (List.sum l95))) (i_seqL (A := (some l95)) (e := eI) (t_var (i := 3) (e := (eL eI)) (v := l95) rfl)) (fun i123 => ⟨[(.own rw), .dat (eI ((1 : Int) + r87)), .dat (eI ((1 : Int) + r93)), .dat ((eL eI) l95), .no, .dat (eI i123)], rfl, t_yes, (t_call2 (A := (some i123)) (B := (some (List.sum l95))) (N := N__law_ratio) t__law_ratio (t_var (i := 5) (e := eI) (v := i123) rfl) (t_f1 (A := (some l95)) (h := (fun x124 => some (List.sum x124))) g_sumL (t_var (i := 3) (e := (eL eI)) (v := l95) rfl)))⟩)))) (congrArg (Option.map (e2 (e2 eI eI) (eR (e2 eI eI)))) h129.1), ⟨_, rfl, hK _ h129.2⟩⟩)⟩)⟩)⟩)⟩⟩⟩⟩⟩⟩⟩⟩)⟩⟩⟩⟩⟩⟩⟩⟩⟩⟩
abbrev Q2 : Type := Int × Int
def val (q : Q2) : Rat := (q.1 : Rat) / (q.2 : Rat)
structure Sz (n : Nat) (q : Q2) : Prop where
  pos : 0 < q.2
  top : q.1.natAbs < 2 ^ n
  bot : q.2.natAbs < 2 ^ n
  low : Nat.gcd q.1.natAbs q.2.natAbs = 1
theorem Sz.mono {n m : Nat} {q : Q2} (h : Sz n q) (hm : n ≤ m) : Sz m q :=
  ⟨h.pos, Nat.lt_of_lt_of_le h.top (Nat.pow_le_pow_right (by decide) hm), Nat.lt_of_lt_of_le h.bot (Nat.pow_le_pow_right (by decide) hm), h.low⟩
def rt (a b : Int) : Q2 := (a / (Nat.gcd a.natAbs b.natAbs : Nat), b / (Nat.gcd a.natAbs b.natAbs : Nat))
theorem cast_pos {b : Int} (h : 0 < b) : (0 : Rat) < (b : Rat) := by
  have := Rat.intCast_lt_intCast (a := 0) (b := b)
  simpa using this.mpr h
theorem cast_ne {b : Int} (h : 0 < b) : (b : Rat) ≠ 0 := fun e => by
  have := cast_pos h
  rw [e] at this
  exact absurd this (by decide)
theorem gcd_pos {a b : Int} (hb : 0 < b) : 0 < Nat.gcd a.natAbs b.natAbs := Nat.gcd_pos_of_pos_right _ (by omega)
theorem rt_parts (a b : Int) (hb : 0 < b) : ∃ g : Int, 0 < g ∧ a = g * (rt a b).1 ∧ b = g * (rt a b).2 ∧ g = (Nat.gcd a.natAbs b.natAbs : Nat) := by
  have hg := gcd_pos (a := a) hb
  have d1 : ((Nat.gcd a.natAbs b.natAbs : Nat) : Int) ∣ a := Int.ofNat_dvd_left.mpr (Nat.gcd_dvd_left _ _)
  have d2 : ((Nat.gcd a.natAbs b.natAbs : Nat) : Int) ∣ b := Int.ofNat_dvd_left.mpr (Nat.gcd_dvd_right _ _)
  exact ⟨_, by omega, (Int.mul_ediv_cancel' d1).symm, (Int.mul_ediv_cancel' d2).symm, rfl⟩
theorem rt_pos {a b : Int} (hb : 0 < b) : 0 < (rt a b).2 := by
  obtain ⟨g, hg, _, h2, _⟩ := rt_parts a b hb
  by_cases h : 0 < (rt a b).2
  · exact h
  · have := Int.mul_le_mul_of_nonneg_left (show (rt a b).2 ≤ 0 by omega) (Int.le_of_lt hg)
    rw [Int.mul_zero] at this
    omega
theorem rt_val {a b : Int} (hb : 0 < b) : val (rt a b) = (a : Rat) / b := by
  obtain ⟨g, hg, h1, h2, _⟩ := rt_parts a b hb
  have hp := cast_ne (rt_pos (a := a) hb)
  have hg' := cast_ne hg
  have e1 : (a : Rat) = (g : Rat) * ((rt a b).1 : Rat) := by rw [← Rat.intCast_mul, ← h1]
  have e2 : (b : Rat) = (g : Rat) * ((rt a b).2 : Rat) := by rw [← Rat.intCast_mul, ← h2]
  unfold val
  rw [e1, e2]
  grind
theorem rt_low {a b : Int} (hb : 0 < b) : Nat.gcd (rt a b).1.natAbs (rt a b).2.natAbs = 1 := by
  obtain ⟨g, hg, h1, h2, h3⟩ := rt_parts a b hb
  have e1 : a.natAbs = g.natAbs * (rt a b).1.natAbs := by rw [← Int.natAbs_mul, ← h1]
  have e2 : b.natAbs = g.natAbs * (rt a b).2.natAbs := by rw [← Int.natAbs_mul, ← h2]
  have e3 : g.natAbs = Nat.gcd a.natAbs b.natAbs := by rw [h3]; simp
  have : Nat.gcd a.natAbs b.natAbs = g.natAbs * Nat.gcd (rt a b).1.natAbs (rt a b).2.natAbs := by
    rw [← Nat.gcd_mul_left, ← e1, ← e2]
  rw [← e3] at this
  have hgn : 0 < g.natAbs := by omega
  exact Nat.eq_of_mul_eq_mul_left hgn (by omega)
theorem rt_small {a b : Int} (hb : 0 < b) : (rt a b).1.natAbs ≤ a.natAbs ∧ (rt a b).2.natAbs ≤ b.natAbs := by
  obtain ⟨g, hg, h1, h2, h3⟩ := rt_parts a b hb
  have e1 : a.natAbs = g.natAbs * (rt a b).1.natAbs := by rw [← Int.natAbs_mul, ← h1]
  have e2 : b.natAbs = g.natAbs * (rt a b).2.natAbs := by rw [← Int.natAbs_mul, ← h2]
  have hgn : 1 ≤ g.natAbs := by omega
  constructor
  · rw [e1]; exact Nat.le_mul_of_pos_left _ hgn
  · rw [e2]; exact Nat.le_mul_of_pos_left _ hgn
theorem rt_sz {a b : Int} {n : Nat} (hb : 0 < b) (h1 : a.natAbs < 2 ^ n) (h2 : b.natAbs < 2 ^ n) : Sz n (rt a b) :=
  ⟨rt_pos hb, Nat.lt_of_le_of_lt (rt_small hb).1 h1, Nat.lt_of_le_of_lt (rt_small hb).2 h2, rt_low hb⟩
theorem low_unique {p q : Q2} (hp : 0 < p.2) (hq : 0 < q.2) (gp : Nat.gcd p.1.natAbs p.2.natAbs = 1) (gq : Nat.gcd q.1.natAbs q.2.natAbs = 1) (h : p.1 * q.2 = q.1 * p.2) : p = q := by
  have d1 : p.2.natAbs ∣ q.2.natAbs := by
    have : p.2.natAbs ∣ p.1.natAbs * q.2.natAbs := by
      rw [← Int.natAbs_mul, h, Int.natAbs_mul]
      exact Nat.dvd_mul_left _ _
    exact (Nat.Coprime.dvd_of_dvd_mul_left (show Nat.Coprime p.2.natAbs p.1.natAbs by rw [Nat.Coprime, Nat.gcd_comm]; exact gp) this)
  have d2 : q.2.natAbs ∣ p.2.natAbs := by
    have : q.2.natAbs ∣ q.1.natAbs * p.2.natAbs := by
      rw [← Int.natAbs_mul, ← h, Int.natAbs_mul]
      exact Nat.dvd_mul_left _ _
    exact (Nat.Coprime.dvd_of_dvd_mul_left (show Nat.Coprime q.2.natAbs q.1.natAbs by rw [Nat.Coprime, Nat.gcd_comm]; exact gq) this)
  have e : p.2 = q.2 := by
    have := Nat.dvd_antisymm d1 d2
    omega
  refine Prod.ext ?_ e
  rw [e] at h
  exact Int.eq_of_mul_eq_mul_right (by omega) h
theorem val_inj {n m : Nat} {p q : Q2} (hp : Sz n p) (hq : Sz m q) (h : val p = val q) : p = q := by
  refine low_unique hp.pos hq.pos hp.low hq.low ?_
  have a := cast_ne hp.pos
  have b := cast_ne hq.pos
  unfold val at h
  have : ((p.1 * q.2 : Int) : Rat) = ((q.1 * p.2 : Int) : Rat) := by
    rw [Rat.intCast_mul, Rat.intCast_mul]
    grind
  exact Rat.intCast_inj.mp this
theorem val_lt {p q : Q2} (hp : 0 < p.2) (hq : 0 < q.2) : val p < val q ↔ p.1 * q.2 < q.1 * p.2 := by
  have a := cast_pos hp
  have b := cast_pos hq
  unfold val
  rw [Rat.div_lt_iff a, ← Rat.intCast_lt_intCast, Rat.intCast_mul, Rat.intCast_mul]
  have e : (q.1 : Rat) / q.2 * p.2 = (q.1 * p.2 : Rat) / q.2 := by
    have := cast_ne hq
    grind
  rw [e, Rat.lt_div_iff b]
theorem sz_int {i : Int} {n : Nat} (h : i.natAbs < 2 ^ n) (hn : 0 < n) : Sz n (i, 1) := ⟨by show (0:Int) < 1; decide, h, by
  show 1 < 2 ^ n
  exact Nat.one_lt_two_pow (by omega), by simp⟩
theorem val_int (i : Int) : val (i, 1) = (i : Rat) := by
  unfold val
  show (i : Rat) / ((1 : Int) : Rat) = i
  have : ((1 : Int) : Rat) = 1 := rfl
  rw [this]
  grind
theorem log2_lt {a : Int} {k : Nat} (h : a.natAbs < 2 ^ k) (hk : 0 < k) : a.natAbs.log2 < k := by
  by_cases h0 : a.natAbs = 0
  · rw [h0]; simpa using hk
  · exact (Nat.log2_lt h0).mpr h
theorem mul_bits {a b : Int} {n m : Nat} (ha : a.natAbs < 2 ^ n) (hb : b.natAbs < 2 ^ m) : (a * b).natAbs < 2 ^ (n + m) := by
  rw [Int.natAbs_mul, Nat.pow_add]
  exact Nat.mul_lt_mul'' ha hb
theorem mul_ok {x y : Int} {n m : Nat} (hx : x.natAbs < 2 ^ n) (hy : y.natAbs < 2 ^ m) (h : n + m ≤ 900000) : mulO x y = some (x * y) := by
  have h1 := log2_lt (k := n + 1) (Nat.lt_of_lt_of_le hx (Nat.pow_le_pow_right (by decide) (by omega))) (by omega)
  have h2 := log2_lt (k := m + 1) (Nat.lt_of_lt_of_le hy (Nat.pow_le_pow_right (by decide) (by omega))) (by omega)
  unfold mulO cMul
  rw [if_pos (decide_eq_true (by omega))]
theorem div_ok {x y : Int} {m : Nat} (h0 : 0 < y) (hy : y.natAbs < 2 ^ m) (h : m ≤ 8990) : divO x y = some (x / y) := by
  have h2 := log2_lt (k := m + 1) (Nat.lt_of_lt_of_le hy (Nat.pow_le_pow_right (by decide) (by omega))) (by omega)
  unfold divO cDiv
  rw [if_pos (decide_eq_true ⟨h0, by omega⟩)]
theorem gcd_bits {a b : Int} {n : Nat} (hb : 0 < b) (h : b.natAbs < 2 ^ n) : ((Nat.gcd a.natAbs b.natAbs : Nat) : Int).natAbs < 2 ^ n := by
  rw [Int.natAbs_natCast]
  exact Nat.lt_of_le_of_lt (Nat.le_of_dvd (by omega) (Nat.gcd_dvd_right _ _)) h
theorem ratio_ok {a b : Int} {n : Nat} (hb : 0 < b) (h : b.natAbs < 2 ^ n) (hn : n ≤ 8990) : N_ratio a b = some (rt a b) := by
  have hg := gcd_pos (a := a) hb
  unfold N_ratio
  rw [Option.bind_some, div_ok (by omega) (gcd_bits hb h) hn, div_ok (by omega) (gcd_bits hb h) hn]
  rfl
theorem gcd_step (a b : Nat) : Nat.gcd a b = Nat.gcd b (a % b) := by
  rw [Nat.gcd_comm a b, Nat.gcd_rec b a, Nat.gcd_comm]
theorem euc_go {T : Int × Int → Option Bool} {Bd : Int × Int → Option (Int × Int)} (hT : ∀ s, T s = some (!decide (s.2 = 0))) (hB : ∀ i j : Nat, 0 < j → Bd ((i : Int), (j : Int)) = some ((j : Int), ((i % j : Nat) : Int))) :
    ∀ (k i j n : Nat), j < 2 ^ k → 2 * k + 1 ≤ n → whileO T Bd n ((i : Int), (j : Int)) = some (((Nat.gcd i j : Nat) : Int), 0) := by
  have stop : ∀ (i n : Nat), 1 ≤ n → whileO T Bd n ((i : Int), ((0 : Nat) : Int)) = some (((Nat.gcd i 0 : Nat) : Int), 0) := by
    intro i n hn
    obtain ⟨n, rfl⟩ : ∃ m, n = m + 1 := ⟨n - 1, by omega⟩
    unfold whileO
    rw [hT]
    simp
  have step : ∀ (i j n : Nat), 0 < j → whileO T Bd (n + 1) ((i : Int), (j : Int)) = whileO T Bd n ((j : Int), ((i % j : Nat) : Int)) := by
    intro i j n hj
    have ew : whileO T Bd (n + 1) ((i : Int), (j : Int)) = (T ((i : Int), (j : Int))).bind fun k => match k with
      | true => (Bd ((i : Int), (j : Int))).bind (whileO T Bd n)
      | false => some ((i : Int), (j : Int)) := rfl
    rw [ew, hT, hB i j hj]
    have : (!decide (((i : Int), (j : Int)).2 = 0)) = true := by simp; omega
    rw [this]
    rfl
  intro k
  induction k with
  | zero =>
    intro i j n hj hn
    have : j = 0 := by simp at hj; omega
    subst this
    exact stop i n (by omega)
  | succ k ih =>
    intro i j n hj hn
    by_cases h0 : j = 0
    · subst h0; exact stop i n (by omega)
    · obtain ⟨n, rfl⟩ : ∃ m, n = m + 1 := ⟨n - 1, by omega⟩
      rw [step i j n (by omega)]
      by_cases h1 : i % j = 0
      · rw [h1, stop j n (by omega)]
        rw [gcd_step i j, h1]
      · obtain ⟨n, rfl⟩ : ∃ m, n = m + 1 := ⟨n - 1, by omega⟩
        rw [step j (i % j) n (by omega)]
        have hr : i % j < j := Nat.mod_lt _ (by omega)
        have hs : j % (i % j) < 2 ^ k := by
          have h2 : j % (i % j) < i % j := Nat.mod_lt _ (by omega)
          have h3 : j % (i % j) + (i % j) ≤ j := by
            have := Nat.div_add_mod j (i % j)
            have h4 : 1 ≤ j / (i % j) := (Nat.le_div_iff_mul_le (by omega)).mpr (by omega)
            have h5 := Nat.mul_le_mul_left (i % j) h4
            omega
          rw [Nat.pow_succ] at hj
          omega
        rw [ih (i % j) (j % (i % j)) n hs (by omega)]
        rw [gcd_step i j, gcd_step j (i % j)]
theorem abs1_eq (a : Int) : abs1 a = (a.natAbs : Int) := by
  unfold abs1
  split <;> omega
theorem law_ratio_ok {a b : Int} {n : Nat} (hb : 0 < b) (h : b.natAbs < 2 ^ n) (hn : n ≤ 8990) : N__law_ratio a b = some (rt a b) := by
  unfold N__law_ratio
  rw [Option.bind_some, Option.bind_some, abs1_eq, abs1_eq]
  have e := euc_go (T := fun s5 : Int × Int => (some (!decide (s5.2 = (0 : Int))))) (Bd := fun s5 : Int × Int => ((some s5.2).bind fun one_12 => (modO s5.1 s5.2).bind fun other_13 => some (one_12, other_13))) (fun s => rfl) (fun i j hj => by
    unfold modO cMod
    rw [if_pos (decide_eq_true (by show ((j : Nat) : Int) ≠ 0; omega))]
    show some (((j : Nat) : Int), ((i : Nat) : Int).fmod ((j : Nat) : Int)) = _
    rw [Int.fmod_eq_emod_of_nonneg _ (by omega)]
    rfl) n a.natAbs b.natAbs FUEL h (by unfold FUEL; omega)
  have e2 : ∀ (f : Int × Int → Option (Int × Int)), ((whileO (fun s5 : Int × Int => (some (!decide (s5.2 = (0 : Int))))) (fun s5 : Int × Int => ((some s5.2).bind fun one_12 => (modO s5.1 s5.2).bind fun other_13 => some (one_12, other_13))) FUEL ((a.natAbs : Int), (b.natAbs : Int))).bind f) = f (((Nat.gcd a.natAbs b.natAbs : Nat) : Int), 0) := fun f => by rw [e]; rfl
  refine (e2 _).trans ?_
  have hg := gcd_pos (a := a) hb
  rw [decide_eq_true hb]
  show (divO a _).bind _ = _
  rw [div_ok (by omega) (gcd_bits hb h) hn, div_ok (by omega) (gcd_bits hb h) hn]
  rfl
theorem cross_bits {p q : Q2} {n m : Nat} (hp : Sz n p) (hq : Sz m q) : (p.1 * q.2 + q.1 * p.2).natAbs < 2 ^ (n + m + 1) ∧ (p.2 * q.2).natAbs < 2 ^ (n + m) ∧ 0 < p.2 * q.2 := by
  refine ⟨?_, mul_bits hp.bot hq.bot, Int.mul_pos hp.pos hq.pos⟩
  have h1 := mul_bits hp.top hq.bot
  have h2 := mul_bits hq.top hp.bot
  rw [Nat.add_comm m n] at h2
  have h3 := Int.natAbs_add_le (p.1 * q.2) (q.1 * p.2)
  rw [Nat.pow_succ]
  omega
theorem pow_up {a : Int} {n m : Nat} (h : a.natAbs < 2 ^ n) (hm : n ≤ m) : a.natAbs < 2 ^ m := Nat.lt_of_lt_of_le h (Nat.pow_le_pow_right (by decide) hm)
theorem plus_val {p q : Q2} (hp : 0 < p.2) (hq : 0 < q.2) : ((p.1 * q.2 + q.1 * p.2 : Int) : Rat) / ((p.2 * q.2 : Int) : Rat) = val p + val q := by
  have a := cast_ne hp
  have b := cast_ne hq
  unfold val
  rw [Rat.intCast_add, Rat.intCast_mul, Rat.intCast_mul, Rat.intCast_mul]
  grind
theorem law_plus_ok {p q : Q2} {n m : Nat} (hp : Sz n p) (hq : Sz m q) (h : n + m + 1 ≤ 8990) : ∃ r, N__law_plus p q = some r ∧ val r = val p + val q ∧ Sz (n + m + 1) r := by
  obtain ⟨h1, h2, h3⟩ := cross_bits hp hq
  refine ⟨rt (p.1 * q.2 + q.1 * p.2) (p.2 * q.2), ?_, (rt_val h3).trans (plus_val hp.pos hq.pos), rt_sz h3 h1 (pow_up h2 (by omega))⟩
  unfold N__law_plus
  rw [mul_ok hp.top hq.bot (by omega), mul_ok hq.top hp.bot (by omega), mul_ok hp.bot hq.bot (by omega)]
  exact law_ratio_ok h3 h2 (by omega)
theorem law_by_ok {p q : Q2} {n m : Nat} (hp : Sz n p) (hq : Sz m q) (h : n + m ≤ 8990) : ∃ r, N__law_by p q = some r ∧ val r = val p * val q ∧ Sz (n + m) r := by
  have h1 := mul_bits hp.top hq.top
  have h2 := mul_bits hp.bot hq.bot
  have h3 : 0 < p.2 * q.2 := Int.mul_pos hp.pos hq.pos
  refine ⟨rt (p.1 * q.1) (p.2 * q.2), ?_, ?_, rt_sz h3 h1 h2⟩
  · unfold N__law_by
    rw [mul_ok hp.top hq.top (by omega), mul_ok hp.bot hq.bot (by omega)]
    exact law_ratio_ok h3 h2 (by omega)
  · rw [rt_val h3]
    have a := cast_ne hp.pos
    have b := cast_ne hq.pos
    unfold val
    rw [Rat.intCast_mul, Rat.intCast_mul]
    grind
section
variable {α β γ σ : Type}
theorem compO_all {B : α → Option β} {g : α → β} : ∀ l : List α, (∀ x ∈ l, B x = some (g x)) → compO (fun _ => some true) B l = some (l.map g)
  | [], _ => rfl
  | x :: r, h => by
    rw [compO_cons, Option.bind_some, h x List.mem_cons_self]
    show ((compO (fun _ => some true) B r).bind fun ys => some (g x :: ys)) = _
    rw [compO_all r fun y hy => h y (List.mem_cons_of_mem _ hy)]
    rfl
theorem compL_all {B : α → Option β} {g : α → β} {l : List α} (hl : l.length ≤ 1000000) (h : ∀ x ∈ l, B x = some (g x)) : compL (fun _ => some true) B l = some (l.map g) := by
  unfold compL
  rw [if_pos hl, compO_all l h]
theorem allO_true {B : α → Option Bool} : ∀ l : List α, (∀ x ∈ l, B x = some true) → allO true B l = some true
  | [], _ => rfl
  | x :: r, h => by
    rw [allO_cons, h x List.mem_cons_self, Option.bind_some, if_pos rfl]
    exact allO_true r fun y hy => h y (List.mem_cons_of_mem _ hy)
end
theorem range1_nat {n : Nat} (h : n ≤ 1000000) : range1O (n : Int) = some ((List.range n).map fun i : Nat => (0 + (i : Int))) := range_self n h
theorem between_ok {i lo hi : Int} : N_is_between i lo hi = some (decide (lo ≤ i) && decide (i ≤ hi)) := by
  unfold N_is_between N_is_whole
  rfl
theorem DamIn.len {m : Int} {d : DamT} (h : DamIn m d) (hm : m ≤ 12) : d.2.2.2.length ≤ 12 := by
  have := h.l1
  omega
theorem repL_ok {α : Type} {q : α} {k : Nat} (h : k ≤ 1000) : repL [q] (k : Int) = some (List.replicate k q) := by
  unfold repL
  rw [if_pos ⟨by omega, by omega, by simp⟩, Int.toNat_natCast, List.flatten_replicate_singleton]
structure Is (n : Nat) (p : Q2) (v : Rat) : Prop where
  sz : Sz n p
  eq : val p = v
theorem Is.uniq {n m : Nat} {p q : Q2} {v : Rat} (a : Is n p v) (b : Is m q v) : p = q := val_inj a.sz b.sz (a.eq.trans b.eq.symm)
theorem Is.mono {n m : Nat} {p : Q2} {v : Rat} (a : Is n p v) (h : n ≤ m) : Is m p v := ⟨a.sz.mono h, a.eq⟩
theorem is_int {i : Int} {n : Nat} (h : i.natAbs < 2 ^ n) (hn : 0 < n) : Is n (i, 1) (i : Rat) := ⟨sz_int h hn, val_int i⟩
section
variable {n m : Nat} {p q : Q2} {a b : Rat}
theorem lplus (hp : Is n p a) (hq : Is m q b) (h : n + m + 1 ≤ 8990) : ∃ r, N__law_plus p q = some r ∧ Is (n + m + 1) r (a + b) := by
  obtain ⟨r, h1, h2, h3⟩ := law_plus_ok hp.sz hq.sz h
  exact ⟨r, h1, h3, by rw [h2, hp.eq, hq.eq]⟩
theorem lby (hp : Is n p a) (hq : Is m q b) (h : n + m ≤ 8990) : ∃ r, N__law_by p q = some r ∧ Is (n + m) r (a * b) := by
  obtain ⟨r, h1, h2, h3⟩ := law_by_ok hp.sz hq.sz h
  exact ⟨r, h1, h3, by rw [h2, hp.eq, hq.eq]⟩
theorem pplus (hp : Is n p a) (hq : Is m q b) (h : n + m + 1 ≤ 8990) : ∃ r, N_plus p q = some r ∧ Is (n + m + 1) r (a + b) := by
  obtain ⟨h1, h2, h3⟩ := cross_bits hp.sz hq.sz
  refine ⟨rt (p.1 * q.2 + q.1 * p.2) (p.2 * q.2), ?_, rt_sz h3 h1 (pow_up h2 (by omega)), by rw [rt_val h3, plus_val hp.sz.pos hq.sz.pos, hp.eq, hq.eq]⟩
  unfold N_plus
  rw [mul_ok hp.sz.top hq.sz.bot (by omega), mul_ok hq.sz.top hp.sz.bot (by omega), mul_ok hp.sz.bot hq.sz.bot (by omega)]
  exact ratio_ok h3 h2 (by omega)
theorem ptimes (hp : Is n p a) (hq : Is m q b) (h : n + m ≤ 8990) : ∃ r, N_times p q = some r ∧ Is (n + m) r (a * b) := by
  have h1 := mul_bits hp.sz.top hq.sz.top
  have h2 := mul_bits hp.sz.bot hq.sz.bot
  have h3 : 0 < p.2 * q.2 := Int.mul_pos hp.sz.pos hq.sz.pos
  refine ⟨rt (p.1 * q.1) (p.2 * q.2), ?_, rt_sz h3 h1 h2, ?_⟩
  · unfold N_times
    rw [mul_ok hp.sz.top hq.sz.top (by omega), mul_ok hp.sz.bot hq.sz.bot (by omega)]
    exact ratio_ok h3 h2 (by omega)
  · rw [rt_val h3, ← hp.eq, ← hq.eq]
    have a := cast_ne hp.sz.pos
    have b := cast_ne hq.sz.pos
    unfold val
    rw [Rat.intCast_mul, Rat.intCast_mul]
    grind
theorem is_ratio_ok (hp : Sz n p) : N_is_ratio p = some true := by
  unfold N_is_ratio
  show (andO (N_is_whole p.1) (andO (N_is_whole p.2) (some ((decide ((0 : Int) < p.2)) && (decide (((Nat.gcd (p.1).natAbs (p.2).natAbs : Nat) : Int) = (1 : Int))))))) = _
  rw [decide_eq_true hp.pos, decide_eq_true (by have := hp.low; omega)]
  rfl
end
def G (s : Rat) : Rat → List Rat → Rat
  | v, [] => v
  | v, z :: r => G s (v * s + z) r
abbrev PondT : Type := Int × Int
structure Chn (l : List Q2) (ns : List Int) (S : Int) : Prop where
  pos : 0 < S
  top : S ≤ 60
  len : 2 ≤ ns.length ∧ ns.length ≤ 6
  nn : ∀ x ∈ ns, 0 ≤ x
  sum : ns.sum = S
  eq : l = ns.map fun x => rt x S
def ChIn (l : List Q2) : Prop := ∃ ns S, Chn l ns S
structure PondIn (p : PondT) : Prop where
  c0 : 1 ≤ p.1
  c1 : p.1 ≤ 8
  r0 : 1 ≤ p.2
  r1 : p.2 ≤ p.1
def cPond : List PyData → (PyData → Prop) → Prop := fun ds Q => ds = [] ∧ ∀ (p : PondT) (l : List Q2), PondIn p → ChIn l → Q (e2 (e2 eI eI) (eR (e2 eI eI)) (p, l))
theorem sum_bd : ∀ {l : List Int}, (∀ x ∈ l, 0 ≤ x ∧ x ≤ 7) → 0 ≤ l.sum ∧ l.sum ≤ 7 * (l.length : Int)
  | [], _ => ⟨Int.le_refl _, by decide⟩
  | x :: l, h => by
    obtain ⟨a, b⟩ := sum_bd (l := l) fun y hy => h y (List.mem_cons_of_mem _ hy)
    have := h x List.mem_cons_self
    rw [List.sum_cons, List.length_cons]
    omega
theorem sum_le {l : List Int} (h : ∀ x ∈ l, 0 ≤ x) : ∀ x ∈ l, x ≤ l.sum := by
  induction l with
  | nil => intro x hx; cases hx
  | cons y l ih =>
    intro x hx
    have h0 : 0 ≤ l.sum := by
      clear ih hx
      have h' : ∀ x ∈ l, 0 ≤ x := fun z hz => h z (List.mem_cons_of_mem _ hz)
      clear h
      induction l with
      | nil => exact Int.le_refl _
      | cons z l ih =>
        rw [List.sum_cons]
        have := h' z List.mem_cons_self
        have := ih fun w hw => h' w (List.mem_cons_of_mem _ hw)
        omega
    rw [List.sum_cons]
    rcases List.mem_cons.mp hx with e | e
    · subst e; omega
    · have := ih (fun z hz => h z (List.mem_cons_of_mem _ hz)) x e
      have := h y List.mem_cons_self
      omega
theorem chn_of {ns : List Int} (len : 2 ≤ ns.length ∧ ns.length ≤ 6) (hb : ∀ x ∈ ns, 0 ≤ x ∧ x ≤ 7) (pos : 0 < ns.sum) : (compL (fun (_ : Int) => (some true)) (fun (i : Int) => (N__law_ratio i (List.sum ns))) ns) = some (ns.map fun x => rt x ns.sum) ∧ ChIn (ns.map fun x => rt x ns.sum) := by
  obtain ⟨a, b⟩ := sum_bd hb
  have t : ns.sum ≤ 60 := by omega
  refine ⟨compL_all (by omega) fun x hx => law_ratio_ok (n := 6) pos (by omega) (by decide), ns, ns.sum, pos, t, len, fun x hx => (hb x hx).1, rfl, rfl⟩
theorem pond_ok : ∀ ds Q, cPond ds Q → runV 6 (F__law_pond S__law_ratio) ds Q := by
  rintro ds Q ⟨rfl, hq⟩
  refine w__law_pond (fun v => Q (e2 (e2 eI eI) (eR (e2 eI eI)) v)) Q (fun v hv => hv) ?_
  intro c c0 c1
  refine ⟨by omega, by omega, fun r r0 r1 rl hr n n0 n1 => ⟨by omega, by omega, fun l hl => ?_⟩⟩
  have hl1 : (l.length : Int) = 2 + n := by
    have := hl.len
    rw [rangeI_len] at this
    omega
  have hb : ∀ y ∈ l, 0 ≤ y ∧ y ≤ 7 := hl.all (R := fun y => 0 ≤ y ∧ y ≤ 7) fun a b hab => hab (fun y => 0 ≤ y ∧ y ≤ 7) fun r r0 r1 c hc => by
    simp only [List.mem_cons, List.not_mem_nil, or_false] at hc
    rcases hc with rfl | rfl | rfl | rfl <;> omega
  have hrl : 0 ≤ rl ∧ rl ≤ c := by
    simp only [List.mem_cons, List.not_mem_nil, or_false] at hr
    rcases hr with rfl | rfl <;> omega
  have P : PondIn ((1 : Int) + c, (1 : Int) + rl) := ⟨by show 1 ≤ 1 + c; omega, by show 1 + c ≤ 8; omega, by show 1 ≤ 1 + rl; omega, by show 1 + rl ≤ 1 + c; omega⟩
  refine ⟨_, rfl, fun h => ?_, fun h => ?_⟩
  · have z : l.sum = 0 := by simpa using h
    have ne : l ≠ [] := fun e => by rw [e] at hl1; simp at hl1; omega
    obtain ⟨w, hw⟩ : ∃ w, w = l.set (l.length - 1) 1 := ⟨_, rfl⟩
    have pw : putO l (-(1 : Int)) (1 : Int) = some w := by
      unfold putO ixN
      rw [hw]
      have e1 : ¬ (0 : Int) ≤ -1 := by decide
      simp
      refine ⟨by omega, ?_⟩
      congr 1
      omega
    have wl : w.length = l.length := by rw [hw, List.length_set]
    have wb : ∀ y ∈ w, 0 ≤ y ∧ y ≤ 7 := fun y hy => by
      rw [hw] at hy
      rcases List.mem_or_eq_of_mem_set hy with q | q
      · exact hb y q
      · omega
    have w1 : (1 : Int) ∈ w := by
      rw [hw]
      exact List.mem_set (by omega) 1
    have ws : 0 < w.sum := by
      have := sum_le (l := w) (fun y hy => (wb y hy).1) 1 w1
      omega
    obtain ⟨g1, g2⟩ := chn_of (by omega) wb ws
    refine ⟨w, pw, ((1 + c, 1 + rl), w.map fun x => rt x w.sum), ?_, hq _ _ P g2⟩
    rw [g1]
    rfl
  · have z : l.sum ≠ 0 := by simpa using h
    obtain ⟨s0, _⟩ := sum_bd hb
    obtain ⟨g1, g2⟩ := chn_of (by omega) hb (by omega)
    refine ⟨((1 + c, 1 + rl), l.map fun x => rt x l.sum), ?_, hq _ _ P g2⟩
    rw [g1]
    rfl
end Ty
namespace L24
open PySem PySem.Spec PyProof.Rows L2 DN Ty
def F_row : En → Option PyData := (fLst (fCons (fVar 0) (fCons (fLit (.int 0)) (fCons (fLit (.int 4424)) (fCons (fLit (.int 0)) fNil)))))
def F_tail (c__law_step c__law_alike c_pond_steps c__law_sum : List PyData → Option PyData) : En → Option Fl := (sSeq (sSet 7 (fLc (iRange1 (fVar 4)) (bName 9) kYes (fTup (fCons (fInt (fEq (fVar 9) (fVar 5))) (fCons (fLit (.int 1)) fNil))) [9])) (sSeq (sFor (iRange1 (fVar 6)) (bName 8) (sSet 7 (fCall 3 c__law_step (fCons (fVar 2) (fCons (fVar 3) (fCons (fVar 7) fNil)))))) (sRet (fAnd (fCall 2 c__law_alike (fCons (fCall 4 c_pond_steps (fCons (fVar 2) (fCons (fVar 3) (fCons (fVar 5) (fCons (fVar 6) fNil))))) (fCons (fTuple (fVar 7)) fNil))) (fEq (fCall 1 c__law_sum (fCons (fVar 7) fNil)) (fTup (fCons (fLit (.int 1)) (fCons (fLit (.int 1)) fNil))))))))
def F_law (c__law_step c__law_alike c_pond_steps c__law_sum : List PyData → Option PyData) : LF := (lSeq (lBind (bTup [2, 3]) (wDraw 0 cPond wNil)) (lSeq (lSet 4 (wP 1 (fPlus (fSub (fIx (fVar 2) (fLit (.int 0))) (fIx (fVar 2) (fLit (.int 1)))) (fLit (.int 1))))) (lSeq (lBind (bTup [5, 6]) (wTup (wCons (wDraw 1 cTaken (wCons (wP 1 (fVar 4)) wNil)) (wCons (wDraw 1 cTaken (wCons (wP 1 (fLit (.int 7))) wNil)) wNil)))) (lEnd 1 (F_tail c__law_step c__law_alike c_pond_steps c__law_sum)))))
noncomputable def N_tail (pond' : (Int × Int)) (chances' : (List (Int × Int))) (many' : Int) (level' : Int) (months' : Int) : Option Bool := (((range1O many').bind fun l => compL (fun (i18 : Int) => (some true)) (fun (i18 : Int) => (some ((bInt (decide (i18 = level'))), (1 : Int)))) l).bind fun due_17 => (((range1O months').bind fun l => foldO (fun (i24 : Int) (s22 : ((List (Int × Int)))) => ((N__law_step pond' chances' s22).bind fun due_25 => some due_25)) l due_17).bind fun s26 => (andO ((N_pond_steps pond' chances' level' months').bind fun a29 => (some s26).bind fun a30 => alikeT 3 (eR (e2 eI eI)) (eR (e2 eI eI)) a29 a30) ((N__law_sum s26).bind fun x31 => (some ((1 : Int), (1 : Int))).bind fun y32 => some (decide (x31 = y32))))))
theorem t_tail (ns : List Int) (rw : List PyData) (pond' : (Int × Int)) (chances' : (List (Int × Int))) (many' : Int) (level' : Int) (months' : Int) : F_tail S__law_step (S__law_alike 3) S_pond_steps S__law_sum [(.dat (.list (List.map PyData.int ns))), (.own rw), .dat ((e2 eI eI) pond'), .dat ((eR (e2 eI eI)) chances'), .dat (eI many'), .dat (eI level'), .dat (eI months'), .no, .no, .no] = rtO eB (N_tail pond' chances' many' level' months') := (r_seq_set (i := 7) (A := ((range1O many').bind fun l => compL (fun (i18 : Int) => (some true)) (fun (i18 : Int) => (some ((bInt (decide (i18 = level'))), (1 : Int)))) l)) (t_lc (L := (range1O many')) (ea := eI) (eb := (e2 eI eI)) (T := fun (i18 : Int) => (some true)) (Bf := fun (i18 : Int) => (some ((bInt (decide (i18 = level'))), (1 : Int)))) (i_range1 (A := (some many')) (t_var (i := 4) (e := eI) (v := many') rfl)) (fun i18 => ⟨[(.dat (.list (List.map PyData.int ns))), (.own rw), .dat ((e2 eI eI) pond'), .dat ((eR (e2 eI eI)) chances'), .dat (eI many'), .dat (eI level'), .dat (eI months'), .no, .no, .dat (eI i18)], rfl, t_yes, (t_tup2 (A := (some (bInt (decide (i18 = level'))))) (B := (some (1 : Int))) (t_f1 (A := (some (decide (i18 = level')))) (h := (fun x21 => some (bInt x21))) g_intB (t_f2 (A := (some i18)) (B := (some level')) (h := (fun x19 y20 => some (decide (x19 = y20)))) (g_eq enc_I rfl) (t_var (i := 9) (e := eI) (v := i18) rfl) (t_var (i := 5) (e := eI) (v := level') rfl))) (t_int (i := 1)))⟩)) (lt_of rfl) (fun due_17 => (r_seq_nx (env := (fun (s : ((List (Int × Int)))) (z : (Slot)) => [(.dat (.list (List.map PyData.int ns))), (.own rw), .dat ((e2 eI eI) pond'), .dat ((eR (e2 eI eI)) chances'), .dat (eI many'), .dat (eI level'), .dat (eI months'), .dat ((eL (e2 eI eI)) s), z, .no])) (n_for (env := (fun (s : ((List (Int × Int)))) (z : (Slot)) => [(.dat (.list (List.map PyData.int ns))), (.own rw), .dat ((e2 eI eI) pond'), .dat ((eR (e2 eI eI)) chances'), .dat (eI many'), .dat (eI level'), .dat (eI months'), .dat ((eL (e2 eI eI)) s), z, .no])) (s := due_17) (z := (.no : Slot)) (L := (range1O months')) (ea := eI) (Bd := (fun (i24 : Int) (s22 : ((List (Int × Int)))) => ((N__law_step pond' chances' s22).bind fun due_25 => some due_25))) rfl (i_range1 (A := (some months')) (t_var (i := 6) (e := eI) (v := months') rfl)) (fun i24 s22 z23 => ⟨[(.dat (.list (List.map PyData.int ns))), (.own rw), .dat ((e2 eI eI) pond'), .dat ((eR (e2 eI eI)) chances'), .dat (eI many'), .dat (eI level'), .dat (eI months'), .dat ((eL (e2 eI eI)) s22), .dat (eI i24), .no], rfl, (n_set  (K := fun due_25 => due_25) (i := 7) (A := (N__law_step pond' chances' s22)) (t_call3 (A := (some pond')) (B := (some chances')) (C := (some s22)) (N := N__law_step) t__law_step (t_var (i := 2) (e := (e2 eI eI)) (v := pond') rfl) (t_var (i := 3) (e := (eR (e2 eI eI))) (v := chances') rfl) (t_var (i := 7) (e := (eL (e2 eI eI))) (v := s22) rfl)) (lt_of rfl) (fun due_25 => ⟨(.dat (eI i24) : Slot), rfl⟩))⟩)) (fun s26 z27 => (r_ret (A := (andO ((N_pond_steps pond' chances' level' months').bind fun a29 => (some s26).bind fun a30 => alikeT 3 (eR (e2 eI eI)) (eR (e2 eI eI)) a29 a30) ((N__law_sum s26).bind fun x31 => (some ((1 : Int), (1 : Int))).bind fun y32 => some (decide (x31 = y32))))) (t_and (P := ((N_pond_steps pond' chances' level' months').bind fun a29 => (some s26).bind fun a30 => alikeT 3 (eR (e2 eI eI)) (eR (e2 eI eI)) a29 a30)) (Q := ((N__law_sum s26).bind fun x31 => (some ((1 : Int), (1 : Int))).bind fun y32 => some (decide (x31 = y32)))) (t_call2 (A := (N_pond_steps pond' chances' level' months')) (B := (some s26)) (N := alikeT 3 (eR (e2 eI eI)) (eR (e2 eI eI))) (t_alikeT 3 (eR (e2 eI eI)) (eR (e2 eI eI))) (t_call4 (A := (some pond')) (B := (some chances')) (C := (some level')) (D := (some months')) (N := N_pond_steps) t_pond_steps (t_var (i := 2) (e := (e2 eI eI)) (v := pond') rfl) (t_var (i := 3) (e := (eR (e2 eI eI))) (v := chances') rfl) (t_var (i := 5) (e := eI) (v := level') rfl) (t_var (i := 6) (e := eI) (v := months') rfl)) (t_f1 (A := (some s26)) (h := (fun x28 => some x28)) g_tupL (t_var (i := 7) (e := (eL (e2 eI eI))) (v := s26) rfl))) (t_f2 (A := (N__law_sum s26)) (B := (some ((1 : Int), (1 : Int)))) (h := (fun x31 y32 => some (decide (x31 = y32)))) (g_eq (enc_2 enc_I enc_I) rfl) (t_call1 (A := (some s26)) (N := N__law_sum) t__law_sum (t_var (i := 7) (e := (eL (e2 eI eI))) (v := s26) rfl)) (t_tup2 (A := (some (1 : Int))) (B := (some (1 : Int))) (t_int (i := 1)) (t_int (i := 1))))))))))
def Law : Prop := (∀ (d1 : PondT) (o2 : List (Int × Int)), PondIn d1 → ChIn o2 → (0 < (((d1, o2).1.1 - (d1, o2).1.2) + (1 : Int)) ∧ (((d1, o2).1.1 - (d1, o2).1.2) + (1 : Int)) ≤ 1000000 ∧ ∀ r11 : Int, 0 ≤ r11 → r11 < (((d1, o2).1.1 - (d1, o2).1.2) + (1 : Int)) → (∀ r14 : Int, 0 ≤ r14 → r14 < 7 → (N_tail ((d1, o2).1) ((d1, o2).2) ((((d1, o2).1.1 - (d1, o2).1.2) + (1 : Int))) ((r11, r14).1) ((r11, r14).2) = some true))))
theorem law_of (H : Law) : ∀ ns : List Int, ns.length ≤ 63 → ∃ rw, RowOk rw ∧ F_row (lawEn 10 ns) = some (.list rw) ∧ ∀ en', (∃ rw', en' = (lawEn 10 ns).set 1 (.own rw')) → F_law S__law_step (S__law_alike 3) S_pond_steps S__law_sum en' fun r => r = .rt (.bool true) := by
  intro ns hns
  refine ⟨_, rowOk (ns := ns) (i := 0) (m := 4424) (c := 0) hns (by decide) (by decide) (by decide) (by decide), rfl, ?_⟩
  rintro en' ⟨rw, rfl⟩
  exact ⟨rfl, rfl, fun d1 o2 g3 g4 => ⟨_, rfl, ⟨eI (((d1, o2).1.1 - (d1, o2).1.2) + (1 : Int)), fun rw => (t_f2 (A := (some ((d1, o2).1.1 - (d1, o2).1.2))) (B := (some (1 : Int))) (h := (fun x9 y10 => some (x9 + y10))) g_add (t_f2 (A := (some (d1, o2).1.1)) (B := (some (d1, o2).1.2)) (h := (fun x7 y8 => some (x7 - y8))) g_sub (t_ixc (A := (some (d1, o2).1)) (k := 0) (pr := fun x5 => x5.1) (eb := eI) (fun _ => rfl) (t_var (i := 2) (e := (e2 eI eI)) (v := (d1, o2).1) rfl)) (t_ixc (A := (some (d1, o2).1)) (k := 1) (pr := fun x6 => x6.2) (eb := eI) (fun _ => rfl) (t_var (i := 2) (e := (e2 eI eI)) (v := (d1, o2).1) rfl))) (t_int (i := 1))), ⟨_, rfl, ⟨eI (((d1, o2).1.1 - (d1, o2).1.2) + (1 : Int)), fun rw => (t_var (i := 4) (e := eI) (v := (((d1, o2).1.1 - (d1, o2).1.2) + (1 : Int))) rfl), ⟨rfl, (((d1, o2).1.1 - (d1, o2).1.2) + (1 : Int)), rfl, (H d1 o2 g3 g4).1, (H d1 o2 g3 g4).2.1, fun r11 g12 g13 => ⟨eI (7 : Int), fun rw => (t_int (i := 7)), ⟨rfl, (7 : Int), rfl, (by decide), (by decide), fun r14 g15 g16 => ⟨Nat.le_of_ble_eq_true rfl, ⟨_, rfl, (fun rw _ => ⟨true, Eq.trans (t_tail ns rw ((d1, o2).1) ((d1, o2).2) ((((d1, o2).1.1 - (d1, o2).1.2) + (1 : Int))) ((r11, r14).1) ((r11, r14).2)) (congrArg (rtO eB) (((H d1 o2 g3 g4).2.2 r11 g12 g13) r14 g15 g16)), rfl⟩)⟩⟩⟩⟩⟩⟩⟩⟩⟩⟩
structure Txt (K : PySem.W.Frag) (mg : Str → Option Value) : Prop where
  b_abs : mg "abs" = none
  b_all : mg "all" = none
  b_any : mg "any" = none
  b_bool : mg "bool" = none
  b_enumerate : mg "enumerate" = none
  b_int : mg "int" = none
  b_isinstance : mg "isinstance" = none
  b_len : mg "len" = none
  b_list : mg "list" = none
  b_min : mg "min" = none
  b_range : mg "range" = none
  b_str : mg "str" = none
  b_sum : mg "sum" = none
  b_tuple : mg "tuple" = none
  m_gcd : mg "gcd" = some (.builtin "math.gcd")
  k_LEAST_INFLOWS : ∃ t, mg "LEAST_INFLOWS" = some (.int 2 t)
  k_MOST_CAPACITY : ∃ t, mg "MOST_CAPACITY" = some (.int 8 t)
  k_MOST_INFLOWS : ∃ t, mg "MOST_INFLOWS" = some (.int 6 t)
  k_MOST_MONTHS : ∃ t, mg "MOST_MONTHS" = some (.int 24 t)
  k_MOST_OF_CHANCE : ∃ t, mg "MOST_OF_CHANCE" = some (.int 100 t)
section
variable {P : Program} {w : World} {K : PySem.W.Frag} {mg : Str → Option Value} {base : Heap} {Ts : TsT}
abbrev s_is_whole : Stmt := top 8
theorem sc_is_whole : FnScope ["value"] ["value"] (defScope s_is_whole) := ⟨rfl, rfl, rfl, by decide +kernel, rfl, by decide +kernel, by decide +kernel⟩
theorem ok_is_whole (T : Txt K mg) {f : Addr} {fd : FuncData} {cdv : Value} (D : DF K "is_whole" "is_whole" s_is_whole f fd cdv) : FnOk P w K mg base CX0 1 f fd ["value"] (spD K Ts 1 (runD 1 (F_is_whole))) := by
  refine D.ok sc_is_whole fun A outer s H E hr => ?_
  exact (s_one (s_ret (d_and (d_isi isi_int (by rfl) T.b_isinstance (by decide +kernel) (by rfl) T.b_int (by decide +kernel) (d_var 0)) (d_one (d_not (d_isi isi_bool (by rfl) T.b_isinstance (by decide +kernel) (by rfl) T.b_bool (by decide +kernel) (d_var 0)))))))
abbrev s_is_between : Stmt := top 9
theorem sc_is_between : FnScope ["value", "least", "most"] ["value", "least", "most"] (defScope s_is_between) := ⟨rfl, rfl, rfl, by decide +kernel, rfl, by decide +kernel, by decide +kernel⟩
theorem ok_is_between {c_is_whole : List PyData → Option PyData} (T : Txt K mg) {f : Addr} {fd : FuncData} {cdv : Value} (D : DF K "is_between" "is_between" s_is_between f fd cdv) (h_is_whole : CF P w K mg base Ts 1 "is_whole" 1 c_is_whole) : FnOk P w K mg base CX0 2 f fd ["value", "least", "most"] (spD K Ts 3 (runD 3 (F_is_between c_is_whole))) := by
  refine D.ok sc_is_between fun A outer s H E hr => ?_
  have l_is_whole : 1 ≤ 1 := by decide
  exact (s_one (s_ret (d_and (d_call hr (CF.call h_is_whole) l_is_whole (by rfl) (da_cons (d_var 0) da_nil)) (d_one (d_lele (d_var 1) (d_var 0) (d_var 2))))))
abbrev s_is_ratio : Stmt := top 10
theorem sc_is_ratio : FnScope ["value", "top", "bottom"] ["value"] (defScope s_is_ratio) := ⟨rfl, rfl, rfl, by decide +kernel, rfl, by decide +kernel, by decide +kernel⟩
theorem ok_is_ratio {c_is_whole : List PyData → Option PyData} (T : Txt K mg) {f : Addr} {fd : FuncData} {cdv : Value} (D : DF K "is_ratio" "is_ratio" s_is_ratio f fd cdv) (h_is_whole : CF P w K mg base Ts 1 "is_whole" 1 c_is_whole) : FnOk P w K mg base CX0 2 f fd ["value"] (spD K Ts 1 (runD 3 (F_is_ratio c_is_whole))) := by
  refine D.ok sc_is_ratio fun A outer s H E hr => ?_
  have l_is_whole : 1 ≤ 1 := by decide
  exact (s_cons (s_if (dt_not (dt_w (dw_and (dt_val (d_isi isi_tuple (by rfl) T.b_isinstance (by decide +kernel) (by rfl) T.b_tuple (by decide +kernel) (d_var 0))) (dw_and1 (dt_eq hr (d_len (by rfl) T.b_len (d_b (d_var 0))) d_int))))) (s_one (s_ret d_bl)) s_nil) (s_cons (s_bind (vs := [1, 2]) (d_var 0) (dg_tup rfl (dgs_cons (dg_name 1 sc_is_ratio.nd rfl (by first | exact Or.inl rfl | exact Or.inr rfl) (by decide)) (dgs_cons (dg_name 2 sc_is_ratio.nd rfl (by first | exact Or.inl rfl | exact Or.inr rfl) (by decide)) dgs_nil)))) (s_one (s_ret (d_and (d_call hr (CF.call h_is_whole) l_is_whole (by rfl) (da_cons (d_var 1) da_nil)) (d_and (d_call hr (CF.call h_is_whole) l_is_whole (by rfl) (da_cons (d_var 2) da_nil)) (d_and (d_gt (d_var 2) d_int) (d_one (d_eq hr (d_gcd (by rfl) T.m_gcd (d_var 1) (d_var 2)) d_int)))))))))
abbrev s_is_row_of_ratios : Stmt := top 11
theorem sc_is_row_of_ratios : FnScope ["value", "count", "one"] ["value", "count"] (defScope s_is_row_of_ratios) := ⟨rfl, rfl, rfl, by decide +kernel, rfl, by decide +kernel, by decide +kernel⟩
theorem ok_is_row_of_ratios {c_is_ratio : List PyData → Option PyData} (T : Txt K mg) {f : Addr} {fd : FuncData} {c Pt : Addr} (TB : LamX.TabB base mg c Pt) (hP : Pt ∈ Ts.gs) (D : DF K "is_row_of_ratios" "is_row_of_ratios" s_is_row_of_ratios f fd (.ref c)) (h_is_ratio : CF P w K mg base Ts 2 "is_ratio" 1 c_is_ratio) : FnOk P w K mg base CX0 4 f fd ["value", "count"] (spD K Ts 2 (runD 3 (F_is_row_of_ratios c_is_ratio))) := by
  refine D.ok sc_is_row_of_ratios fun A outer s H E hr => ?_
  have l_is_ratio : 2 ≤ 3 := by decide
  have l_is_ratiog : 2 ≤ 2 := by decide
  have l_gen : 2 + 1 ≤ 3 := by decide
  exact (s_cons (s_if (dt_not (dt_w (dw_and (dt_val (d_isi isi_tuple (by rfl) T.b_isinstance (by decide +kernel) (by rfl) T.b_tuple (by decide +kernel) (d_var 0))) (dw_and1 (dt_eq hr (d_len (by rfl) T.b_len (d_b (d_var 0))) (d_var 1)))))) (s_one (s_ret d_bl)) s_nil) (s_one (s_ret (d_all (own := [("one", 2)]) hr (by rfl) T.b_all (by decide +kernel) TB hP rfl rfl sc_is_row_of_ratios.nd (di_seq (d_var 0)) (blkOk_by (own := [("one", 2)]) (N := ["value", "count", "one"]) (sc := defScope s_is_row_of_ratios) (by decide +kernel)) (GA.genK_by (by decide +kernel)) (fun _ _ _ _ _ _ _ => (dg_name 2 sc_is_row_of_ratios.nd rfl (by first | exact Or.inl rfl | exact Or.inr rfl) (by decide))) (fun _ _ _ _ _ _ _ => (d_and (d_call (room_gen (hr.mono l_gen) _) (CF.call h_is_ratio) l_is_ratiog (by rfl) (da_cons (d_var 2) da_nil)) (d_one (d_ge (b_ix (d_b (d_var 2)) d_int) d_int))))))))
abbrev s_ratio : Stmt := top 12
theorem sc_ratio : FnScope ["top", "bottom", "shared"] ["top", "bottom"] (defScope s_ratio) := ⟨rfl, rfl, rfl, by decide +kernel, rfl, by decide +kernel, by decide +kernel⟩
theorem ok_ratio (T : Txt K mg) {f : Addr} {fd : FuncData} {cdv : Value} (D : DF K "ratio" "ratio" s_ratio f fd cdv) : FnOk P w K mg base CX0 1 f fd ["top", "bottom"] (spD K Ts 2 (runD 3 (F_ratio))) := by
  refine D.ok sc_ratio fun A outer s H E hr => ?_
  exact (s_cons (s_set (i := 2) sc_ratio.nd rfl (by first | exact Or.inl rfl | exact Or.inr rfl) (d_gcd (by rfl) T.m_gcd (d_var 0) (d_var 1))) (s_one (s_ret (d_tup (da_cons (d_div (d_var 0) (d_var 2)) (da_cons (d_div (d_var 1) (d_var 2)) da_nil))))))
abbrev s_plus : Stmt := top 13
theorem sc_plus : FnScope ["one", "other"] ["one", "other"] (defScope s_plus) := ⟨rfl, rfl, rfl, by decide +kernel, rfl, by decide +kernel, by decide +kernel⟩
theorem ok_plus {c_ratio : List PyData → Option PyData} (T : Txt K mg) {f : Addr} {fd : FuncData} {cdv : Value} (D : DF K "plus" "plus" s_plus f fd cdv) (h_ratio : CF P w K mg base Ts 1 "ratio" 2 c_ratio) : FnOk P w K mg base CX0 2 f fd ["one", "other"] (spD K Ts 2 (runD 2 (F_plus c_ratio))) := by
  refine D.ok sc_plus fun A outer s H E hr => ?_
  have l_ratio : 1 ≤ 1 := by decide
  exact (s_one (s_ret (d_call hr (CF.call h_ratio) l_ratio (by rfl) (da_cons (d_plus (d_times (b_ix (d_b (d_var 0)) d_int) (b_ix (d_b (d_var 1)) d_int)) (d_times (b_ix (d_b (d_var 1)) d_int) (b_ix (d_b (d_var 0)) d_int))) (da_cons (d_times (b_ix (d_b (d_var 0)) d_int) (b_ix (d_b (d_var 1)) d_int)) da_nil)))))
abbrev s_times : Stmt := top 14
theorem sc_times : FnScope ["one", "other"] ["one", "other"] (defScope s_times) := ⟨rfl, rfl, rfl, by decide +kernel, rfl, by decide +kernel, by decide +kernel⟩
theorem ok_times {c_ratio : List PyData → Option PyData} (T : Txt K mg) {f : Addr} {fd : FuncData} {cdv : Value} (D : DF K "times" "times" s_times f fd cdv) (h_ratio : CF P w K mg base Ts 1 "ratio" 2 c_ratio) : FnOk P w K mg base CX0 2 f fd ["one", "other"] (spD K Ts 2 (runD 2 (F_times c_ratio))) := by
  refine D.ok sc_times fun A outer s H E hr => ?_
  have l_ratio : 1 ≤ 1 := by decide
  exact (s_one (s_ret (d_call hr (CF.call h_ratio) l_ratio (by rfl) (da_cons (d_times (b_ix (d_b (d_var 0)) d_int) (b_ix (d_b (d_var 1)) d_int)) (da_cons (d_times (b_ix (d_b (d_var 0)) d_int) (b_ix (d_b (d_var 1)) d_int)) da_nil)))))
abbrev s_sum_of_ratios : Stmt := top 15
theorem sc_sum_of_ratios : FnScope ["ratios", "total", "one"] ["ratios"] (defScope s_sum_of_ratios) := ⟨rfl, rfl, rfl, by decide +kernel, rfl, by decide +kernel, by decide +kernel⟩
theorem ok_sum_of_ratios {c_plus : List PyData → Option PyData} (T : Txt K mg) {f : Addr} {fd : FuncData} {cdv : Value} (D : DF K "sum_of_ratios" "sum_of_ratios" s_sum_of_ratios f fd cdv) (h_plus : CF P w K mg base Ts 2 "plus" 2 c_plus) : FnOk P w K mg base CX0 3 f fd ["ratios"] (spD K Ts 1 (runD 3 (F_sum_of_ratios c_plus))) := by
  refine D.ok sc_sum_of_ratios fun A outer s H E hr => ?_
  have l_plus : 2 ≤ 2 := by decide
  exact (s_cons (s_set (i := 1) sc_sum_of_ratios.nd rfl (by first | exact Or.inl rfl | exact Or.inr rfl) (d_tup (da_cons d_int (da_cons d_int da_nil)))) (s_cons (s_for (vs := [2]) PassesOwn.never rfl (di_seq (d_var 0)) (dg_name 2 sc_sum_of_ratios.nd rfl (by first | exact Or.inl rfl | exact Or.inr rfl) (by decide)) (s_one (s_set (i := 1) sc_sum_of_ratios.nd rfl (by first | exact Or.inl rfl | exact Or.inr rfl) (d_call hr (CF.call h_plus) l_plus (by rfl) (da_cons (d_var 1) (da_cons (d_var 2) da_nil)))))) (s_one (s_ret (d_var 1)))))
abbrev s_is_pond : Stmt := top 22
theorem sc_is_pond : FnScope ["value"] ["value"] (defScope s_is_pond) := ⟨rfl, rfl, rfl, by decide +kernel, rfl, by decide +kernel, by decide +kernel⟩
theorem ok_is_pond {c_is_between : List PyData → Option PyData} (T : Txt K mg) {f : Addr} {fd : FuncData} {cdv : Value} (D : DF K "is_pond" "is_pond" s_is_pond f fd cdv) (h_is_between : CF P w K mg base Ts 2 "is_between" 3 c_is_between) : FnOk P w K mg base CX0 3 f fd ["value"] (spD K Ts 1 (runD 1 (F_is_pond c_is_between))) := by
  refine D.ok sc_is_pond fun A outer s H E hr => ?_
  have l_is_between : 2 ≤ 2 := by decide
  exact (s_cons (s_if (dt_not (dt_w (dw_and (dt_val (d_isi isi_tuple (by rfl) T.b_isinstance (by decide +kernel) (by rfl) T.b_tuple (by decide +kernel) (d_var 0))) (dw_and1 (dt_eq hr (d_len (by rfl) T.b_len (d_b (d_var 0))) d_int))))) (s_one (s_ret d_bl)) s_nil) (s_one (s_ret (d_and (d_call hr (CF.call h_is_between) l_is_between (by rfl) (da_cons (b_ix (d_b (d_var 0)) d_int) (da_cons d_int (da_cons (d_globE (by rfl) T.k_MOST_CAPACITY) da_nil)))) (d_one (d_call hr (CF.call h_is_between) l_is_between (by rfl) (da_cons (b_ix (d_b (d_var 0)) d_int) (da_cons d_int (da_cons (b_ix (d_b (d_var 0)) d_int) da_nil)))))))))
abbrev s_is_chances : Stmt := top 23
theorem sc_is_chances : FnScope ["value", "chance"] ["value"] (defScope s_is_chances) := ⟨rfl, rfl, rfl, by decide +kernel, rfl, by decide +kernel, by decide +kernel⟩
theorem ok_is_chances {c_is_row_of_ratios c_sum_of_ratios : List PyData → Option PyData} (T : Txt K mg) {f : Addr} {fd : FuncData} {cdv : Value} (D : DF K "is_chances" "is_chances" s_is_chances f fd cdv) (h_is_row_of_ratios : CF P w K mg base Ts 4 "is_row_of_ratios" 2 c_is_row_of_ratios) (h_sum_of_ratios : CF P w K mg base Ts 3 "sum_of_ratios" 1 c_sum_of_ratios) : FnOk P w K mg base CX0 5 f fd ["value"] (spD K Ts 1 (runD 2 (F_is_chances c_is_row_of_ratios c_sum_of_ratios))) := by
  refine D.ok sc_is_chances fun A outer s H E hr => ?_
  have l_is_row_of_ratios : 4 ≤ 4 := by decide
  have l_sum_of_ratios : 3 ≤ 4 := by decide
  exact (s_cons (s_if (dt_not (dt_w (dw_and (dt_val (d_isi isi_tuple (by rfl) T.b_isinstance (by decide +kernel) (by rfl) T.b_tuple (by decide +kernel) (d_var 0))) (dw_and1 (dt_lele (d_globE (by rfl) T.k_LEAST_INFLOWS) (d_len (by rfl) T.b_len (d_b (d_var 0))) (d_globE (by rfl) T.k_MOST_INFLOWS)))))) (s_one (s_ret d_bl)) s_nil) (s_cons (s_if (dt_w (dw_or (dt_not (dt_val (d_call hr (CF.call h_is_row_of_ratios) l_is_row_of_ratios (by rfl) (da_cons (d_var 0) (da_cons (d_len (by rfl) T.b_len (d_b (d_var 0))) da_nil))))) (dw_or1 (dt_val (d_anyL rfl (by rfl) T.b_any (by decide +kernel) (d_b (d_lc (own := [("chance", 1)]) rfl sc_is_chances.nd (di_seq (d_var 0)) (blkOk_by (own := [("chance", 1)]) (N := ["value", "chance"]) (sc := defScope s_is_chances) (by decide +kernel)) (fun _ _ _ _ _ => (dg_name 1 sc_is_chances.nd rfl (by first | exact Or.inl rfl | exact Or.inr rfl) (by decide))) (fun _ _ _ _ _ => dts_nil) (fun _ _ _ _ _ => (d_gt (b_ix (d_b (d_var 1)) d_int) (d_globE (by rfl) T.k_MOST_OF_CHANCE)))))))))) (s_one (s_ret d_bl)) s_nil) (s_one (s_ret (d_eq hr (d_call hr (CF.call h_sum_of_ratios) l_sum_of_ratios (by rfl) (da_cons (d_var 0) da_nil)) (d_tup (da_cons d_int (da_cons d_int da_nil))))))))
abbrev s_check_chances : Stmt := top 24
theorem sc_check_chances : FnScope ["chances"] ["chances"] (defScope s_check_chances) := ⟨rfl, rfl, rfl, by decide +kernel, rfl, by decide +kernel, by decide +kernel⟩
theorem ok_check_chances {c_is_chances : List PyData → Option PyData} (T : Txt K mg) {f : Addr} {fd : FuncData} {cdv : Value} (D : DF K "check_chances" "check_chances" s_check_chances f fd cdv) (h_is_chances : CF P w K mg base Ts 5 "is_chances" 1 c_is_chances) : FnOk P w K mg base CX0 6 f fd ["chances"] (spD K Ts 1 (runD 1 (F_check_chances c_is_chances))) := by
  refine D.ok sc_check_chances fun A outer s H E hr => ?_
  have l_is_chances : 5 ≤ 5 := by decide
  exact (s_one (s_if (dt_not (dt_val (d_call hr (CF.call h_is_chances) l_is_chances (by rfl) (da_cons (d_var 0) da_nil)))) (s_one s_never) s_nil))
abbrev s_check_pond : Stmt := top 25
theorem sc_check_pond : FnScope ["pond"] ["pond"] (defScope s_check_pond) := ⟨rfl, rfl, rfl, by decide +kernel, rfl, by decide +kernel, by decide +kernel⟩
theorem ok_check_pond {c_is_pond : List PyData → Option PyData} (T : Txt K mg) {f : Addr} {fd : FuncData} {cdv : Value} (D : DF K "check_pond" "check_pond" s_check_pond f fd cdv) (h_is_pond : CF P w K mg base Ts 3 "is_pond" 1 c_is_pond) : FnOk P w K mg base CX0 4 f fd ["pond"] (spD K Ts 1 (runD 1 (F_check_pond c_is_pond))) := by
  refine D.ok sc_check_pond fun A outer s H E hr => ?_
  have l_is_pond : 3 ≤ 3 := by decide
  exact (s_one (s_if (dt_not (dt_val (d_call hr (CF.call h_is_pond) l_is_pond (by rfl) (da_cons (d_var 0) da_nil)))) (s_one s_never) s_nil))
abbrev s_check_pond_and_chances : Stmt := top 26
theorem sc_check_pond_and_chances : FnScope ["pond", "chances"] ["pond", "chances"] (defScope s_check_pond_and_chances) := ⟨rfl, rfl, rfl, by decide +kernel, rfl, by decide +kernel, by decide +kernel⟩
theorem ok_check_pond_and_chances {c_check_pond c_check_chances : List PyData → Option PyData} (T : Txt K mg) {f : Addr} {fd : FuncData} {cdv : Value} (D : DF K "check_pond_and_chances" "check_pond_and_chances" s_check_pond_and_chances f fd cdv) (h_check_pond : CF P w K mg base Ts 4 "check_pond" 1 c_check_pond) (h_check_chances : CF P w K mg base Ts 6 "check_chances" 1 c_check_chances) : FnOk P w K mg base CX0 7 f fd ["pond", "chances"] (spD K Ts 2 (runD 2 (F_check_pond_and_chances c_check_pond c_check_chances))) := by
  refine D.ok sc_check_pond_and_chances fun A outer s H E hr => ?_
  have l_check_pond : 4 ≤ 6 := by decide
  have l_check_chances : 6 ≤ 6 := by decide
  exact (s_cons (s_expr (d_call hr (CF.call h_check_pond) l_check_pond (by rfl) (da_cons (d_var 0) da_nil))) (s_one (s_expr (d_call hr (CF.call h_check_chances) l_check_chances (by rfl) (da_cons (d_var 1) da_nil)))))
abbrev s_count_of_levels : Stmt := top 27
theorem sc_count_of_levels : FnScope ["pond"] ["pond"] (defScope s_count_of_levels) := ⟨rfl, rfl, rfl, by decide +kernel, rfl, by decide +kernel, by decide +kernel⟩
theorem ok_count_of_levels (T : Txt K mg) {f : Addr} {fd : FuncData} {cdv : Value} (D : DF K "count_of_levels" "count_of_levels" s_count_of_levels f fd cdv) : FnOk P w K mg base CX0 1 f fd ["pond"] (spD K Ts 1 (runD 1 (F_count_of_levels))) := by
  refine D.ok sc_count_of_levels fun A outer s H E hr => ?_
  exact (s_one (s_ret (d_plus (d_sub (b_ix (d_b (d_var 0)) d_int) (b_ix (d_b (d_var 0)) d_int)) d_int)))
abbrev s_check_level : Stmt := top 28
theorem sc_check_level : FnScope ["pond", "level"] ["pond", "level"] (defScope s_check_level) := ⟨rfl, rfl, rfl, by decide +kernel, rfl, by decide +kernel, by decide +kernel⟩
theorem ok_check_level {c_is_between c_count_of_levels : List PyData → Option PyData} (T : Txt K mg) {f : Addr} {fd : FuncData} {cdv : Value} (D : DF K "check_level" "check_level" s_check_level f fd cdv) (h_is_between : CF P w K mg base Ts 2 "is_between" 3 c_is_between) (h_count_of_levels : CF P w K mg base Ts 1 "count_of_levels" 1 c_count_of_levels) : FnOk P w K mg base CX0 3 f fd ["pond", "level"] (spD K Ts 2 (runD 2 (F_check_level c_is_between c_count_of_levels))) := by
  refine D.ok sc_check_level fun A outer s H E hr => ?_
  have l_is_between : 2 ≤ 2 := by decide
  have l_count_of_levels : 1 ≤ 2 := by decide
  exact (s_one (s_if (dt_not (dt_val (d_call hr (CF.call h_is_between) l_is_between (by rfl) (da_cons (d_var 1) (da_cons d_int (da_cons (d_sub (d_call hr (CF.call h_count_of_levels) l_count_of_levels (by rfl) (da_cons (d_var 0) da_nil)) d_int) da_nil)))))) (s_one s_never) s_nil))
abbrev s_check_months : Stmt := top 29
theorem sc_check_months : FnScope ["months"] ["months"] (defScope s_check_months) := ⟨rfl, rfl, rfl, by decide +kernel, rfl, by decide +kernel, by decide +kernel⟩
theorem ok_check_months {c_is_between : List PyData → Option PyData} (T : Txt K mg) {f : Addr} {fd : FuncData} {cdv : Value} (D : DF K "check_months" "check_months" s_check_months f fd cdv) (h_is_between : CF P w K mg base Ts 2 "is_between" 3 c_is_between) : FnOk P w K mg base CX0 3 f fd ["months"] (spD K Ts 1 (runD 1 (F_check_months c_is_between))) := by
  refine D.ok sc_check_months fun A outer s H E hr => ?_
  have l_is_between : 2 ≤ 2 := by decide
  exact (s_one (s_if (dt_not (dt_val (d_call hr (CF.call h_is_between) l_is_between (by rfl) (da_cons (d_var 0) (da_cons d_int (da_cons (d_globE (by rfl) T.k_MOST_MONTHS) da_nil)))))) (s_one s_never) s_nil))
abbrev s_months_from : Stmt := top 30
theorem sc_months_from : FnScope ["pond", "chances", "level", "capacity", "release", "months", "inflow", "chance", "there", "given"] ["pond", "chances", "level"] (defScope s_months_from) := ⟨rfl, rfl, rfl, by decide +kernel, rfl, by decide +kernel, by decide +kernel⟩
theorem ok_months_from (T : Txt K mg) {f : Addr} {fd : FuncData} {cdv : Value} (D : DF K "months_from" "months_from" s_months_from f fd cdv) : FnOk P w K mg base CX0 1 f fd ["pond", "chances", "level"] (spD K Ts 3 (runD 10 (F_months_from))) := by
  refine D.ok sc_months_from fun A outer s H E hr => ?_
  exact (s_cons (s_bind (vs := [3, 4]) (d_var 0) (dg_tup rfl (dgs_cons (dg_name 3 sc_months_from.nd rfl (by first | exact Or.inl rfl | exact Or.inr rfl) (by decide)) (dgs_cons (dg_name 4 sc_months_from.nd rfl (by first | exact Or.inl rfl | exact Or.inr rfl) (by decide)) dgs_nil)))) (s_cons (s_own (i := 5) sc_months_from.nd rfl (by first | exact Or.inl rfl | exact Or.inr rfl) (n_lst da_nil)) (s_cons (s_for (vs := [6, 7]) PassesOwn.never rfl (di_enum (by rfl) T.b_enumerate (d_var 1)) (dg_tup rfl (dgs_cons (dg_name 6 sc_months_from.nd rfl (by first | exact Or.inl rfl | exact Or.inr rfl) (by decide)) (dgs_cons (dg_name 7 sc_months_from.nd rfl (by first | exact Or.inl rfl | exact Or.inr rfl) (by decide)) dgs_nil))) (s_cons (s_set (i := 8) sc_months_from.nd rfl (by first | exact Or.inl rfl | exact Or.inr rfl) (d_min2 rfl (by rfl) T.b_min (by decide +kernel) (d_var 3) (d_plus (d_var 2) (d_var 6)))) (s_cons (s_set (i := 9) sc_months_from.nd rfl (by first | exact Or.inl rfl | exact Or.inr rfl) (d_min2 rfl (by rfl) T.b_min (by decide +kernel) (d_var 4) (d_var 8))) (s_one (s_app (i := 5) (ha := (d_tup (da_cons (d_var 7) (da_cons (d_var 9) (da_cons (d_sub (d_plus (d_var 2) (d_var 6)) (d_var 8)) (da_cons (d_sub (d_var 8) (d_var 9)) da_nil))))))))))) (s_rel 5 (s_one (s_ret (d_var 5)))))))
abbrev s_month_later : Stmt := top 31
theorem sc_month_later : FnScope ["pond", "chances", "shares", "later", "level", "share", "chance", "_", "behind"] ["pond", "chances", "shares"] (defScope s_month_later) := ⟨rfl, rfl, rfl, by decide +kernel, rfl, by decide +kernel, by decide +kernel⟩
theorem ok_month_later {c_months_from c_plus c_times : List PyData → Option PyData} (T : Txt K mg) {f : Addr} {fd : FuncData} {cdv : Value} (D : DF K "month_later" "month_later" s_month_later f fd cdv) (h_months_from : CF P w K mg base Ts 1 "months_from" 3 c_months_from) (h_plus : CF P w K mg base Ts 2 "plus" 2 c_plus) (h_times : CF P w K mg base Ts 2 "times" 2 c_times) : FnOk P w K mg base CX0 3 f fd ["pond", "chances", "shares"] (spD K Ts 3 (runD 9 (F_month_later c_months_from c_plus c_times))) := by
  refine D.ok sc_month_later fun A outer s H E hr => ?_
  have l_months_from : 1 ≤ 2 := by decide
  have l_plus : 2 ≤ 2 := by decide
  have l_times : 2 ≤ 2 := by decide
  exact (s_cons (s_own (i := 3) sc_month_later.nd rfl (by first | exact Or.inl rfl | exact Or.inr rfl) (n_repL (n_lst (da_cons (d_tup (da_cons d_int (da_cons d_int da_nil))) da_nil)) (d_len (by rfl) T.b_len (d_b (d_var 2))))) (s_cons (s_for (vs := [4, 5]) PassesOwn.never rfl (di_enum (by rfl) T.b_enumerate (d_var 2)) (dg_tup rfl (dgs_cons (dg_name 4 sc_month_later.nd rfl (by first | exact Or.inl rfl | exact Or.inr rfl) (by decide)) (dgs_cons (dg_name 5 sc_month_later.nd rfl (by first | exact Or.inl rfl | exact Or.inr rfl) (by decide)) dgs_nil))) (s_one (s_for (vs := [6, 7, 7, 8]) PassesOwn.never rfl (di_seq (d_call hr (CF.call h_months_from) l_months_from (by rfl) (da_cons (d_var 0) (da_cons (d_var 1) (da_cons (d_var 4) da_nil))))) (dg_tup rfl (dgs_cons (dg_name 6 sc_month_later.nd rfl (by first | exact Or.inl rfl | exact Or.inr rfl) (by decide)) (dgs_cons (dg_name 7 sc_month_later.nd rfl (by first | exact Or.inl rfl | exact Or.inr rfl) (by decide)) (dgs_cons (dg_name 7 sc_month_later.nd rfl (by first | exact Or.inl rfl | exact Or.inr rfl) (by decide)) (dgs_cons (dg_name 8 sc_month_later.nd rfl (by first | exact Or.inl rfl | exact Or.inr rfl) (by decide)) dgs_nil))))) (s_one (s_put (i := 3) (d_call hr (CF.call h_plus) l_plus (by rfl) (da_cons (b_ix (b_own 3) (d_var 8)) (da_cons (d_call hr (CF.call h_times) l_times (by rfl) (da_cons (d_var 5) (da_cons (d_var 6) da_nil))) da_nil))) (d_var 8)))))) (s_rel 3 (s_one (s_ret (d_var 3))))))
abbrev s_sure_of : Stmt := top 32
theorem sc_sure_of : FnScope ["pond", "level", "place"] ["pond", "level"] (defScope s_sure_of) := ⟨rfl, rfl, rfl, by decide +kernel, rfl, by decide +kernel, by decide +kernel⟩
theorem ok_sure_of {c_count_of_levels : List PyData → Option PyData} (T : Txt K mg) {f : Addr} {fd : FuncData} {cdv : Value} (D : DF K "sure_of" "sure_of" s_sure_of f fd cdv) (h_count_of_levels : CF P w K mg base Ts 1 "count_of_levels" 1 c_count_of_levels) : FnOk P w K mg base CX0 2 f fd ["pond", "level"] (spD K Ts 2 (runD 3 (F_sure_of c_count_of_levels))) := by
  refine D.ok sc_sure_of fun A outer s H E hr => ?_
  have l_count_of_levels : 1 ≤ 1 := by decide
  exact (s_one (s_ret (d_lc (own := [("place", 2)]) rfl sc_sure_of.nd (di_range1 (by rfl) T.b_range (d_call hr (CF.call h_count_of_levels) l_count_of_levels (by rfl) (da_cons (d_var 0) da_nil))) (blkOk_by (own := [("place", 2)]) (N := ["pond", "level", "place"]) (sc := defScope s_sure_of) (by decide +kernel)) (fun _ _ _ _ _ => (dg_name 2 sc_sure_of.nd rfl (by first | exact Or.inl rfl | exact Or.inr rfl) (by decide))) (fun _ _ _ _ _ => dts_nil) (fun _ _ _ _ _ => (d_if (dt_eq hr (d_var 2) (d_var 1)) (d_tup (da_cons d_int (da_cons d_int da_nil))) (d_tup (da_cons d_int (da_cons d_int da_nil))))))))
abbrev s_months_later : Stmt := top 33
theorem sc_months_later : FnScope ["pond", "chances", "level", "months", "shares", "_"] ["pond", "chances", "level", "months"] (defScope s_months_later) := ⟨rfl, rfl, rfl, by decide +kernel, rfl, by decide +kernel, by decide +kernel⟩
theorem ok_months_later {c_sure_of c_month_later : List PyData → Option PyData} (T : Txt K mg) {f : Addr} {fd : FuncData} {cdv : Value} (D : DF K "months_later" "months_later" s_months_later f fd cdv) (h_sure_of : CF P w K mg base Ts 2 "sure_of" 2 c_sure_of) (h_month_later : CF P w K mg base Ts 3 "month_later" 3 c_month_later) : FnOk P w K mg base CX0 4 f fd ["pond", "chances", "level", "months"] (spD K Ts 4 (runD 6 (F_months_later c_sure_of c_month_later))) := by
  refine D.ok sc_months_later fun A outer s H E hr => ?_
  have l_sure_of : 2 ≤ 3 := by decide
  have l_month_later : 3 ≤ 3 := by decide
  exact (s_cons (s_set (i := 4) sc_months_later.nd rfl (by first | exact Or.inl rfl | exact Or.inr rfl) (d_call hr (CF.call h_sure_of) l_sure_of (by rfl) (da_cons (d_var 0) (da_cons (d_var 2) da_nil)))) (s_cons (s_for (vs := [5]) PassesOwn.never rfl (di_range1 (by rfl) T.b_range (d_var 3)) (dg_name 5 sc_months_later.nd rfl (by first | exact Or.inl rfl | exact Or.inr rfl) (by decide)) (s_one (s_set (i := 4) sc_months_later.nd rfl (by first | exact Or.inl rfl | exact Or.inr rfl) (d_call hr (CF.call h_month_later) l_month_later (by rfl) (da_cons (d_var 0) (da_cons (d_var 1) (da_cons (d_var 4) da_nil))))))) (s_one (s_ret (d_tuple (by rfl) T.b_tuple (by decide +kernel) (d_b (d_var 4)))))))
abbrev s_pond_steps : Stmt := top 34
theorem sc_pond_steps : FnScope ["pond", "chances", "level", "months"] ["pond", "chances", "level", "months"] (defScope s_pond_steps) := ⟨rfl, rfl, rfl, by decide +kernel, rfl, by decide +kernel, by decide +kernel⟩
theorem ok_pond_steps {c_check_pond_and_chances c_check_level c_check_months c_months_later : List PyData → Option PyData} (T : Txt K mg) {f : Addr} {fd : FuncData} {cdv : Value} (D : DF K "pond_steps" "pond_steps" s_pond_steps f fd cdv) (h_check_pond_and_chances : CF P w K mg base Ts 7 "check_pond_and_chances" 2 c_check_pond_and_chances) (h_check_level : CF P w K mg base Ts 3 "check_level" 2 c_check_level) (h_check_months : CF P w K mg base Ts 3 "check_months" 1 c_check_months) (h_months_later : CF P w K mg base Ts 4 "months_later" 4 c_months_later) : FnOk P w K mg base CX0 8 f fd ["pond", "chances", "level", "months"] (spD K Ts 4 (runD 4 (F_pond_steps c_check_pond_and_chances c_check_level c_check_months c_months_later))) := by
  refine D.ok sc_pond_steps fun A outer s H E hr => ?_
  have l_check_pond_and_chances : 7 ≤ 7 := by decide
  have l_check_level : 3 ≤ 7 := by decide
  have l_check_months : 3 ≤ 7 := by decide
  have l_months_later : 4 ≤ 7 := by decide
  exact (s_cons (s_expr (d_call hr (CF.call h_check_pond_and_chances) l_check_pond_and_chances (by rfl) (da_cons (d_var 0) (da_cons (d_var 1) da_nil)))) (s_cons (s_expr (d_call hr (CF.call h_check_level) l_check_level (by rfl) (da_cons (d_var 0) (da_cons (d_var 2) da_nil)))) (s_cons (s_expr (d_call hr (CF.call h_check_months) l_check_months (by rfl) (da_cons (d_var 3) da_nil))) (s_one (s_ret (d_call hr (CF.call h_months_later) l_months_later (by rfl) (da_cons (d_var 0) (da_cons (d_var 1) (da_cons (d_var 2) (da_cons (d_var 3) da_nil))))))))))
abbrev s__law_alike : Stmt := top 38
theorem sc__law_alike : FnScope ["found", "due", "k"] ["found", "due"] (defScope s__law_alike) := ⟨rfl, rfl, rfl, by decide +kernel, rfl, by decide +kernel, by decide +kernel⟩
theorem ok__law_alike (T : Txt K mg) {f : Addr} {fd : FuncData} {cdv : Value} (D : DF K "_law_alike" "_law_alike" s__law_alike f fd cdv) : FnOk P w K mg base CX0 1 f fd ["found", "due"] (spD K Ts 2 (runD 3 (F__law_alike0))) := by
  refine D.ok sc__law_alike fun A outer s H E hr => ?_
  exact (s_cons (s_if (dt_val (d_isi2 isi_tuple isi_list (by rfl) T.b_isinstance (by decide +kernel) (by rfl) T.b_tuple (by decide +kernel) (by rfl) T.b_list (by decide +kernel) (d_var 1))) ss_never s_nil) (s_cons (s_if (dt_w (dw_or (dt_isN (d_var 1) d_non) (dw_or1 (dt_val (d_isi isi_str (by rfl) T.b_isinstance (by decide +kernel) (by rfl) T.b_str (by decide +kernel) (d_var 1)))))) (s_one (s_ret (d_and (d_eq hr (d_var 0) (d_var 1)) (d_one (d_eq hr (d_isi isi_str (by rfl) T.b_isinstance (by decide +kernel) (by rfl) T.b_str (by decide +kernel) (d_var 0)) (d_isi isi_str (by rfl) T.b_isinstance (by decide +kernel) (by rfl) T.b_str (by decide +kernel) (d_var 1))))))) s_nil) (s_one (s_ret (d_and (d_isi isi_int (by rfl) T.b_isinstance (by decide +kernel) (by rfl) T.b_int (by decide +kernel) (d_var 0)) (d_and (d_eq hr (d_isi isi_bool (by rfl) T.b_isinstance (by decide +kernel) (by rfl) T.b_bool (by decide +kernel) (d_var 0)) (d_isi isi_bool (by rfl) T.b_isinstance (by decide +kernel) (by rfl) T.b_bool (by decide +kernel) (d_var 1))) (d_one (d_eq hr (d_var 0) (d_var 1)))))))))
theorem okr__law_alike {c__law_alike : List PyData → Option PyData} {j : Nat} (T : Txt K mg) {f : Addr} {fd : FuncData} {cdv : Value} (D : DF K "_law_alike" "_law_alike" s__law_alike f fd cdv) (h__law_alike : CF P w K mg base Ts j "_law_alike" 2 c__law_alike) : FnOk P w K mg base CX0 (j + 1) f fd ["found", "due"] (spD K Ts 2 (runD 3 (F__law_alike c__law_alike))) := by
  refine D.ok sc__law_alike fun A outer s H E hr => ?_
  have l__law_alike : j ≤ j := Nat.le_refl j
  exact (s_cons (s_if (dt_val (d_isi2 isi_tuple isi_list (by rfl) T.b_isinstance (by decide +kernel) (by rfl) T.b_tuple (by decide +kernel) (by rfl) T.b_list (by decide +kernel) (d_var 1))) (s_cons (s_if (dt_w (dw_or (dt_not (dt_val (d_isi2 isi_tuple isi_list (by rfl) T.b_isinstance (by decide +kernel) (by rfl) T.b_tuple (by decide +kernel) (by rfl) T.b_list (by decide +kernel) (d_var 0)))) (dw_or1 (dt_ne hr (d_isi isi_list (by rfl) T.b_isinstance (by decide +kernel) (by rfl) T.b_list (by decide +kernel) (d_var 0)) (d_isi isi_list (by rfl) T.b_isinstance (by decide +kernel) (by rfl) T.b_list (by decide +kernel) (d_var 1)))))) (s_one (s_ret d_bl)) s_nil) (s_cons (s_if (dt_ne hr (d_len (by rfl) T.b_len (d_b (d_var 0))) (d_len (by rfl) T.b_len (d_b (d_var 1)))) (s_one (s_ret d_bl)) s_nil) (s_one (s_ret (d_eq hr (d_lc (own := [("k", 2)]) rfl sc__law_alike.nd (di_range1 (by rfl) T.b_range (d_len (by rfl) T.b_len (d_b (d_var 1)))) (blkOk_by (own := [("k", 2)]) (N := ["found", "due", "k"]) (sc := defScope s__law_alike) (by decide +kernel)) (fun _ _ _ _ _ => (dg_name 2 sc__law_alike.nd rfl (by first | exact Or.inl rfl | exact Or.inr rfl) (by decide))) (fun _ _ _ _ _ => (dts_one (dt_not (dt_val (d_call hr (CF.call h__law_alike) l__law_alike (by rfl) (da_cons (b_ix (d_b (d_var 0)) (d_var 2)) (da_cons (b_ix (d_b (d_var 1)) (d_var 2)) da_nil))))))) (fun _ _ _ _ _ => (d_var 2))) (d_lst da_nil)))))) s_nil) (s_cons (s_if (dt_w (dw_or (dt_isN (d_var 1) d_non) (dw_or1 (dt_val (d_isi isi_str (by rfl) T.b_isinstance (by decide +kernel) (by rfl) T.b_str (by decide +kernel) (d_var 1)))))) (s_one (s_ret (d_and (d_eq hr (d_var 0) (d_var 1)) (d_one (d_eq hr (d_isi isi_str (by rfl) T.b_isinstance (by decide +kernel) (by rfl) T.b_str (by decide +kernel) (d_var 0)) (d_isi isi_str (by rfl) T.b_isinstance (by decide +kernel) (by rfl) T.b_str (by decide +kernel) (d_var 1))))))) s_nil) (s_one (s_ret (d_and (d_isi isi_int (by rfl) T.b_isinstance (by decide +kernel) (by rfl) T.b_int (by decide +kernel) (d_var 0)) (d_and (d_eq hr (d_isi isi_bool (by rfl) T.b_isinstance (by decide +kernel) (by rfl) T.b_bool (by decide +kernel) (d_var 0)) (d_isi isi_bool (by rfl) T.b_isinstance (by decide +kernel) (by rfl) T.b_bool (by decide +kernel) (d_var 1))) (d_one (d_eq hr (d_var 0) (d_var 1)))))))))
abbrev s__law_ratio : Stmt := top 39
theorem sc__law_ratio : FnScope ["top", "bottom", "one", "other"] ["top", "bottom"] (defScope s__law_ratio) := ⟨rfl, rfl, rfl, by decide +kernel, rfl, by decide +kernel, by decide +kernel⟩
theorem ok__law_ratio (w0 : En → Nat) (T : Txt K mg) {f : Addr} {fd : FuncData} {cdv : Value} (D : DF K "_law_ratio" "_law_ratio" s__law_ratio f fd cdv) : FnOk P w K mg base CX0 1 f fd ["top", "bottom"] (spD K Ts 2 (runD 4 (F__law_ratio w0))) := by
  refine D.ok sc__law_ratio fun A outer s H E hr => ?_
  exact (s_cons (s_par (i := 2) (j := 3) rfl sc__law_ratio.nd rfl rfl (by decide) rfl rfl (d_abs (by rfl) T.b_abs (by decide +kernel) (d_var 0)) (d_abs (by rfl) T.b_abs (by decide +kernel) (d_var 1)) (by rfl)) (s_cons (s_while w0 PassesOwn.never (dt_ne hr (d_var 3) d_int) (s_one (s_par (i := 2) (j := 3) rfl sc__law_ratio.nd rfl rfl (by decide) rfl rfl (d_var 3) (d_mod (d_toInt (by rfl) T.b_int (by decide +kernel) (d_var 2)) (d_var 3)) (by rfl)))) (s_one (s_ret (d_if (dt_gt (d_var 1) d_int) (d_tup (da_cons (d_div (d_var 0) (d_var 2)) (da_cons (d_div (d_var 1) (d_var 2)) da_nil))) (d_tup (da_cons (d_sub d_int (d_div (d_var 0) (d_var 2))) (da_cons (d_sub d_int (d_div (d_var 1) (d_var 2))) da_nil))))))))
abbrev s__law_plus : Stmt := top 40
theorem sc__law_plus : FnScope ["one", "other"] ["one", "other"] (defScope s__law_plus) := ⟨rfl, rfl, rfl, by decide +kernel, rfl, by decide +kernel, by decide +kernel⟩
theorem ok__law_plus {c__law_ratio : List PyData → Option PyData} (T : Txt K mg) {f : Addr} {fd : FuncData} {cdv : Value} (D : DF K "_law_plus" "_law_plus" s__law_plus f fd cdv) (h__law_ratio : CF P w K mg base Ts 1 "_law_ratio" 2 c__law_ratio) : FnOk P w K mg base CX0 2 f fd ["one", "other"] (spD K Ts 2 (runD 2 (F__law_plus c__law_ratio))) := by
  refine D.ok sc__law_plus fun A outer s H E hr => ?_
  have l__law_ratio : 1 ≤ 1 := by decide
  exact (s_one (s_ret (d_call hr (CF.call h__law_ratio) l__law_ratio (by rfl) (da_cons (d_plus (d_times (b_ix (d_b (d_var 0)) d_int) (b_ix (d_b (d_var 1)) d_int)) (d_times (b_ix (d_b (d_var 1)) d_int) (b_ix (d_b (d_var 0)) d_int))) (da_cons (d_times (b_ix (d_b (d_var 0)) d_int) (b_ix (d_b (d_var 1)) d_int)) da_nil)))))
abbrev s__law_by : Stmt := top 41
theorem sc__law_by : FnScope ["one", "other"] ["one", "other"] (defScope s__law_by) := ⟨rfl, rfl, rfl, by decide +kernel, rfl, by decide +kernel, by decide +kernel⟩
theorem ok__law_by {c__law_ratio : List PyData → Option PyData} (T : Txt K mg) {f : Addr} {fd : FuncData} {cdv : Value} (D : DF K "_law_by" "_law_by" s__law_by f fd cdv) (h__law_ratio : CF P w K mg base Ts 1 "_law_ratio" 2 c__law_ratio) : FnOk P w K mg base CX0 2 f fd ["one", "other"] (spD K Ts 2 (runD 2 (F__law_by c__law_ratio))) := by
  refine D.ok sc__law_by fun A outer s H E hr => ?_
  have l__law_ratio : 1 ≤ 1 := by decide
  exact (s_one (s_ret (d_call hr (CF.call h__law_ratio) l__law_ratio (by rfl) (da_cons (d_times (b_ix (d_b (d_var 0)) d_int) (b_ix (d_b (d_var 1)) d_int)) (da_cons (d_times (b_ix (d_b (d_var 0)) d_int) (b_ix (d_b (d_var 1)) d_int)) da_nil)))))
abbrev s__law_sum : Stmt := top 42
theorem sc__law_sum : FnScope ["some", "found", "one"] ["some"] (defScope s__law_sum) := ⟨rfl, rfl, rfl, by decide +kernel, rfl, by decide +kernel, by decide +kernel⟩
theorem ok__law_sum {c__law_plus : List PyData → Option PyData} (T : Txt K mg) {f : Addr} {fd : FuncData} {cdv : Value} (D : DF K "_law_sum" "_law_sum" s__law_sum f fd cdv) (h__law_plus : CF P w K mg base Ts 2 "_law_plus" 2 c__law_plus) : FnOk P w K mg base CX0 3 f fd ["some"] (spD K Ts 1 (runD 3 (F__law_sum c__law_plus))) := by
  refine D.ok sc__law_sum fun A outer s H E hr => ?_
  have l__law_plus : 2 ≤ 2 := by decide
  exact (s_cons (s_set (i := 1) sc__law_sum.nd rfl (by first | exact Or.inl rfl | exact Or.inr rfl) (d_tup (da_cons d_int (da_cons d_int da_nil)))) (s_cons (s_for (vs := [2]) PassesOwn.never rfl (di_seq (d_var 0)) (dg_name 2 sc__law_sum.nd rfl (by first | exact Or.inl rfl | exact Or.inr rfl) (by decide)) (s_one (s_set (i := 1) sc__law_sum.nd rfl (by first | exact Or.inl rfl | exact Or.inr rfl) (d_call hr (CF.call h__law_plus) l__law_plus (by rfl) (da_cons (d_var 1) (da_cons (d_var 2) da_nil)))))) (s_one (s_ret (d_var 1)))))
abbrev s__law_month : Stmt := top 46
theorem sc__law_month : FnScope ["pond", "level", "inflow", "held", "given"] ["pond", "level", "inflow"] (defScope s__law_month) := ⟨rfl, rfl, rfl, by decide +kernel, rfl, by decide +kernel, by decide +kernel⟩
theorem ok__law_month (T : Txt K mg) {f : Addr} {fd : FuncData} {cdv : Value} (D : DF K "_law_month" "_law_month" s__law_month f fd cdv) : FnOk P w K mg base CX0 1 f fd ["pond", "level", "inflow"] (spD K Ts 3 (runD 5 (F__law_month))) := by
  refine D.ok sc__law_month fun A outer s H E hr => ?_
  exact (s_cons (s_set (i := 3) sc__law_month.nd rfl (by first | exact Or.inl rfl | exact Or.inr rfl) (d_min2 rfl (by rfl) T.b_min (by decide +kernel) (b_ix (d_b (d_var 0)) d_int) (d_plus (d_var 1) (d_var 2)))) (s_cons (s_set (i := 4) sc__law_month.nd rfl (by first | exact Or.inl rfl | exact Or.inr rfl) (d_min2 rfl (by rfl) T.b_min (by decide +kernel) (b_ix (d_b (d_var 0)) d_int) (d_var 3))) (s_one (s_ret (d_tup (da_cons (d_var 4) (da_cons (d_sub (d_plus (d_var 1) (d_var 2)) (d_var 3)) (da_cons (d_sub (d_var 3) (d_var 4)) da_nil))))))))
abbrev s__law_step : Stmt := top 47
theorem sc__law_step : FnScope ["pond", "chances", "some", "found", "level", "inflow", "later"] ["pond", "chances", "some"] (defScope s__law_step) := ⟨rfl, rfl, rfl, by decide +kernel, rfl, by decide +kernel, by decide +kernel⟩
theorem ok__law_step {c__law_month c__law_plus c__law_by : List PyData → Option PyData} (T : Txt K mg) {f : Addr} {fd : FuncData} {cdv : Value} (D : DF K "_law_step" "_law_step" s__law_step f fd cdv) (h__law_month : CF P w K mg base Ts 1 "_law_month" 3 c__law_month) (h__law_plus : CF P w K mg base Ts 2 "_law_plus" 2 c__law_plus) (h__law_by : CF P w K mg base Ts 2 "_law_by" 2 c__law_by) : FnOk P w K mg base CX0 3 f fd ["pond", "chances", "some"] (spD K Ts 3 (runD 7 (F__law_step c__law_month c__law_plus c__law_by))) := by
  refine D.ok sc__law_step fun A outer s H E hr => ?_
  have l__law_month : 1 ≤ 2 := by decide
  have l__law_plus : 2 ≤ 2 := by decide
  have l__law_by : 2 ≤ 2 := by decide
  exact (s_cons (s_own (i := 3) sc__law_step.nd rfl (by first | exact Or.inl rfl | exact Or.inr rfl) (n_repL (n_lst (da_cons (d_tup (da_cons d_int (da_cons d_int da_nil))) da_nil)) (d_len (by rfl) T.b_len (d_b (d_var 2))))) (s_cons (s_for (vs := [4]) PassesOwn.never rfl (di_range1 (by rfl) T.b_range (d_len (by rfl) T.b_len (d_b (d_var 2)))) (dg_name 4 sc__law_step.nd rfl (by first | exact Or.inl rfl | exact Or.inr rfl) (by decide)) (s_one (s_for (vs := [5]) PassesOwn.never rfl (di_range1 (by rfl) T.b_range (d_len (by rfl) T.b_len (d_b (d_var 1)))) (dg_name 5 sc__law_step.nd rfl (by first | exact Or.inl rfl | exact Or.inr rfl) (by decide)) (s_cons (s_set (i := 6) sc__law_step.nd rfl (by first | exact Or.inl rfl | exact Or.inr rfl) (b_ix (d_b (d_call hr (CF.call h__law_month) l__law_month (by rfl) (da_cons (d_var 0) (da_cons (d_var 4) (da_cons (d_var 5) da_nil))))) d_int)) (s_one (s_put (i := 3) (d_call hr (CF.call h__law_plus) l__law_plus (by rfl) (da_cons (b_ix (b_own 3) (d_var 6)) (da_cons (d_call hr (CF.call h__law_by) l__law_by (by rfl) (da_cons (b_ix (d_b (d_var 2)) (d_var 4)) (da_cons (b_ix (d_b (d_var 1)) (d_var 5)) da_nil))) da_nil))) (d_var 6))))))) (s_rel 3 (s_one (s_ret (d_var 3))))))
end
section
variable {P : Program} {w : World} {K : PySem.W.Frag} {mg : Str → Option Value} {base : Heap} {Ts : TsT}
abbrev s_taken : Stmt := top 36
theorem sc_taken : FnScope ["row", "many", "found", "cell"] ["row", "many"] (defScope s_taken) := ⟨rfl, rfl, rfl, by decide +kernel, rfl, by decide +kernel, by decide +kernel⟩
theorem ok_taken0 (T : Txt K mg) {f : Addr} {fd : FuncData} {cdv : Value} (D : DF K "_law_taken" "_law_taken" s_taken f fd cdv) : FnOk P w K mg base CX0 1 f fd ["row", "many"] (spW K Ts 1 (runZ 4 F_taken)) := by
  refine D.okZ sc_taken rfl (by decide) fun A outer s H E hr => ?_
  exact z_cons (z_if (dt_gt (b_ix (b_own 0) d_int) d_int) (z_cons (z_set (i := 2) sc_taken.nd rfl (by first | exact Or.inl rfl | exact Or.inr rfl) (by decide) (d_mod (d_toInt (by rfl) T.b_int (by decide +kernel) (b_ix (b_own 0) d_int)) (d_var 1))) (z_cons (z_row (c := 3) rfl (by first | exact Or.inl rfl | exact Or.inr (Or.inl rfl) | exact Or.inr (Or.inr rfl)) (d_div (b_ix (b_own 0) d_int) (d_var 1))) (z_one (z_ret (d_var 2))))) z_nil)
    (z_cons (z_row (c := 1) rfl (by first | exact Or.inl rfl | exact Or.inr (Or.inl rfl) | exact Or.inr (Or.inr rfl)) (d_plus (b_ix (b_own 0) d_int) d_int))
    (z_cons (z_if (dt_gt (b_ix (b_own 0) d_int) (d_len (by rfl) T.b_len (d_b (b_ix (b_own 0) d_int)))) (z_cons (z_row (c := 2) rfl (by first | exact Or.inl rfl | exact Or.inr (Or.inl rfl) | exact Or.inr (Or.inr rfl)) (d_mod (d_toInt (by rfl) T.b_int (by decide +kernel) (d_plus (d_mul (b_ix (b_own 0) d_int) d_int) d_int)) d_int)) (z_one (z_ret (d_mod (d_toInt (by rfl) T.b_int (by decide +kernel) (d_div (b_ix (b_own 0) d_int) d_int)) (d_var 1))))) z_nil)
    (z_cons (z_set (i := 3) sc_taken.nd rfl (by first | exact Or.inl rfl | exact Or.inr rfl) (by decide) (b_ix (d_b (b_ix (b_own 0) d_int)) (d_sub (b_ix (b_own 0) d_int) d_int)))
    (z_cons (z_row (c := 2) rfl (by first | exact Or.inl rfl | exact Or.inr (Or.inl rfl) | exact Or.inr (Or.inr rfl)) (d_mod (d_toInt (by rfl) T.b_int (by decide +kernel) (d_plus (d_plus (d_mul (b_ix (b_own 0) d_int) d_int) (d_var 3)) d_int)) d_int))
    (z_cons (z_if (dt_ge (d_var 3) (d_pow d_int d_int)) (z_one (z_row (c := 3) rfl (by first | exact Or.inl rfl | exact Or.inr (Or.inl rfl) | exact Or.inr (Or.inr rfl)) (d_div (d_var 3) (d_var 1)))) z_nil)
    (z_one (z_ret (d_mod (d_toInt (by rfl) T.b_int (by decide +kernel) (d_var 3)) (d_var 1)))))))))
theorem ok_taken (T : Txt K mg) {f : Addr} {fd : FuncData} {cdv : Value} (D : DF K "_law_taken" "_law_taken" s_taken f fd cdv) : FnOk P w K mg base CX0 1 f fd ["row", "many"] (spW K Ts 1 cTaken) := (ok_taken0 T D).imp (spW.imp taken_ok)
abbrev s_pick : Stmt := top 37
theorem sc_pick : FnScope ["row", "things"] ["row", "things"] (defScope s_pick) := ⟨rfl, rfl, rfl, by decide +kernel, rfl, by decide +kernel, by decide +kernel⟩
theorem ok_pick (T : Txt K mg) {f : Addr} {fd : FuncData} {cdv : Value} (D : DF K "_law_pick" "_law_pick" s_pick f fd cdv) (h_taken : CW P w K mg base Ts 1 "_law_taken" 1 cTaken) : FnOk P w K mg base CX0 2 f fd ["row", "things"] (spW K Ts 1 cPick) := by
  refine FnOk.imp (D.okW sc_pick rfl (by decide) rfl fun A outer s H E hr => ?_) (spW.imp pick_ok)
  exact we_ix (we_pure (d_var 1)) (we_draw hr h_taken (by decide) (by rfl) rfl (by first | exact Or.inl rfl | exact Or.inr (Or.inl rfl) | exact Or.inr (Or.inr rfl)) (wa_cons (we_pure (d_len (by rfl) T.b_len (d_b (d_var 1)))) wa_nil))
end
section
variable {P : Program} {w : World} {K : PySem.W.Frag} {mg : Str → Option Value} {base : Heap} {Ts : TsT}
abbrev s__law_pond : Stmt := top 45
theorem sc__law_pond : FnScope ["row", "capacity", "release", "parts", "k", "one"] ["row"] (defScope s__law_pond) := ⟨rfl, rfl, rfl, by decide +kernel, rfl, by decide +kernel, by decide +kernel⟩
theorem ok0__law_pond {c__law_ratio : List PyData → Option PyData} (T : Txt K mg) {f : Addr} {fd : FuncData} {cdv : Value} (D : DF K "_law_pond" "_law_pond" s__law_pond f fd cdv) (h__law_ratio : CF P w K mg base Ts 1 "_law_ratio" 2 c__law_ratio) (h__law_taken : CW P w K mg base Ts 1 "_law_taken" 1 cTaken) (h__law_pick : CW P w K mg base Ts 2 "_law_pick" 1 cPick) : FnOk P w K mg base CX0 3 f fd ["row"] (spW K Ts 0 (runV 6 (F__law_pond c__law_ratio))) := by
  refine D.okV sc__law_pond rfl (by decide) fun A outer s H E hr => ?_
  have l__law_ratio : 1 ≤ 2 := by decide
  have l__law_taken : 1 ≤ 2 := by decide
  have l__law_pick : 2 ≤ 2 := by decide
  exact (v_cons (v_set (i := 1) sc__law_pond.nd rfl (by first | exact Or.inl rfl | exact Or.inr rfl) (by decide) (we_plus (we_pure d_int) (we_draw hr h__law_taken l__law_taken (by rfl) rfl (by first | exact Or.inl rfl | exact Or.inr (Or.inl rfl) | exact Or.inr (Or.inr rfl)) (wa_cons (we_pure d_int) wa_nil)))) (v_cons (v_set (i := 2) sc__law_pond.nd rfl (by first | exact Or.inl rfl | exact Or.inr rfl) (by decide) (we_plus (we_pure d_int) (we_draw hr h__law_pick l__law_pick (by rfl) rfl (by first | exact Or.inl rfl | exact Or.inr (Or.inl rfl) | exact Or.inr (Or.inr rfl)) (wa_cons (we_lst (wa_cons (we_pure d_int) (wa_cons (we_draw hr h__law_taken l__law_taken (by rfl) rfl (by first | exact Or.inl rfl | exact Or.inr (Or.inl rfl) | exact Or.inr (Or.inr rfl)) (wa_cons (we_pure (d_var 1)) wa_nil)) wa_nil))) wa_nil)))) (v_cons (v_ownW (i := 3) sc__law_pond.nd rfl (by first | exact Or.inl rfl | exact Or.inr rfl) (by decide) (wn_lc (own := [("k", 4)]) rfl sc__law_pond.nd (wi_range1 (by rfl) T.b_range (we_plus (we_pure d_int) (we_draw hr h__law_taken l__law_taken (by rfl) rfl (by first | exact Or.inl rfl | exact Or.inr (Or.inl rfl) | exact Or.inr (Or.inr rfl)) (wa_cons (we_pure d_int) wa_nil)))) (blkOk_by (own := [("k", 4)]) (N := ["row", "capacity", "release", "parts", "k", "one"]) (sc := defScope s__law_pond) (by decide +kernel)) (by decide) (bOk_name (by decide)) bName_out (fun _ _ _ _ _ => (dg_name 4 sc__law_pond.nd rfl (by first | exact Or.inl rfl | exact Or.inr rfl) (by decide))) (fun _ _ _ _ _ => wts_nil) (fun _ _ _ _ _ => (we_draw hr h__law_pick l__law_pick (by rfl) rfl (by first | exact Or.inl rfl | exact Or.inr (Or.inl rfl) | exact Or.inr (Or.inr rfl)) (wa_cons (we_lst (wa_cons (we_pure d_int) (wa_cons (we_pure d_int) (wa_cons (we_pure d_int) (wa_cons (we_draw hr h__law_taken l__law_taken (by rfl) rfl (by first | exact Or.inl rfl | exact Or.inr (Or.inl rfl) | exact Or.inr (Or.inr rfl)) (wa_cons (we_pure d_int) wa_nil)) wa_nil))))) wa_nil))) (mn_draw mc_pick (mna_cons (mn_lst (mna_cons mn_p (mna_cons mn_p (mna_cons mn_p (mna_cons (mn_draw mc_taken (mna_cons mn_p mna_nil)) mna_nil))))) mna_nil)) mnt_yes (mni_range (mn_2 mn_p (mn_draw mc_taken (mna_cons mn_p mna_nil)))))) (v_cons (v_if (wt_pure (dt_eq hr (d_sum rfl (by rfl) T.b_sum (by decide +kernel) (b_own 3)) d_int)) (v_one (v_put (i := 3) (by decide) d_int (d_neg d_int))) v_nil) (v_rel 3 (by decide) (v_one (v_ret (we_pure (d_tup (da_cons (d_tup (da_cons (d_var 1) (da_cons (d_var 2) da_nil))) (da_cons (d_tuple (by rfl) T.b_tuple (by decide +kernel) (d_b (d_lc (own := [("one", 5)]) rfl sc__law_pond.nd (di_seq (d_var 3)) (blkOk_by (own := [("one", 5)]) (N := ["row", "capacity", "release", "parts", "k", "one"]) (sc := defScope s__law_pond) (by decide +kernel)) (fun _ _ _ _ _ => (dg_name 5 sc__law_pond.nd rfl (by first | exact Or.inl rfl | exact Or.inr rfl) (by decide))) (fun _ _ _ _ _ => dts_nil) (fun _ _ _ _ _ => (d_call hr (CF.call h__law_ratio) l__law_ratio (by rfl) (da_cons (d_var 5) (da_cons (d_sum rfl (by rfl) T.b_sum (by decide +kernel) (d_b (d_var 3))) da_nil))))))) da_nil)))))))))))
theorem ok_pond (T : Txt K mg) {f : Addr} {fd : FuncData} {cdv : Value} (D : DF K "_law_pond" "_law_pond" s__law_pond f fd cdv) (h__law_ratio : CF P w K mg base Ts 1 "_law_ratio" 2 S__law_ratio) (h__law_taken : CW P w K mg base Ts 1 "_law_taken" 1 cTaken) (h__law_pick : CW P w K mg base Ts 2 "_law_pick" 1 cPick) : FnOk P w K mg base CX0 3 f fd ["row"] (spW K Ts 0 cPond) := FnOk.imp (ok0__law_pond T D h__law_ratio h__law_taken h__law_pick) (spW.imp pond_ok)
end
section
variable {P : Program} {w : World} {K : PySem.W.Frag} {mg : Str → Option Value} {base : Heap} {Ts : TsT}
abbrev s_law : Stmt := top 50
theorem sc_law : FnScope ["script", "row", "pond", "chances", "many", "level", "months", "due", "turn", "k"] ["script"] (defScope s_law) := ⟨rfl, rfl, rfl, by decide +kernel, rfl, by decide +kernel, by decide +kernel⟩
theorem ok_law {c__law_step c__law_alike c_pond_steps c__law_sum : List PyData → Option PyData} (T : Txt K mg) {f : Addr} {fd : FuncData} {cdv : Value} (D : DF K "law" "law" s_law f fd cdv) (h__law_step : CF P w K mg base Ts 3 "_law_step" 3 c__law_step) (h__law_alike : CF P w K mg base Ts 4 "_law_alike" 2 c__law_alike) (h_pond_steps : CF P w K mg base Ts 8 "pond_steps" 4 c_pond_steps) (h__law_sum : CF P w K mg base Ts 3 "_law_sum" 1 c__law_sum) (h__law_pond : CW P w K mg base Ts 3 "_law_pond" 0 cPond) (h__law_taken : CW P w K mg base Ts 1 "_law_taken" 1 cTaken)
    (hF : ∀ ns : List Int, ns.length ≤ 63 → ∃ rw, RowOk rw ∧ F_row (lawEn 10 ns) = some (.list rw) ∧ ∀ en', (∃ rw', en' = (lawEn 10 ns).set 1 (.own rw')) → F_law c__law_step c__law_alike c_pond_steps c__law_sum en' fun r => r = .rt (.bool true)) : FnOk P w K mg base CX0 9 f fd ["script"] (spLaw K Ts) := by
  refine D.okVL (ρ := 1) sc_law (by decide) rfl (by decide) (fun A outer s H E hr => ?_) (fun A outer s H E hr => ?_) hF
  · exact s_own (i := 1) sc_law.nd rfl (by first | exact Or.inl rfl | exact Or.inr rfl) (n_lst (da_cons (d_var 0) (da_cons d_int (da_cons d_int (da_cons d_int da_nil)))))
  · have l__law_step : 3 ≤ 8 := by decide
    have l__law_alike : 4 ≤ 8 := by decide
    have l_pond_steps : 8 ≤ 8 := by decide
    have l__law_sum : 3 ≤ 8 := by decide
    have l__law_pond : 3 ≤ 8 := by decide
    have l__law_taken : 1 ≤ 8 := by decide
    exact (v_cons (v_bind (vs := [2, 3]) (we_draw hr h__law_pond l__law_pond (by rfl) rfl (by first | exact Or.inl rfl | exact Or.inr (Or.inl rfl) | exact Or.inr (Or.inr rfl)) wa_nil) (dg_tup rfl (dgs_cons (dg_name 2 sc_law.nd rfl (by first | exact Or.inl rfl | exact Or.inr rfl) (by decide)) (dgs_cons (dg_name 3 sc_law.nd rfl (by first | exact Or.inl rfl | exact Or.inr rfl) (by decide)) dgs_nil))) (bOk_tup (by decide)) (by decide)) (v_cons (v_set (i := 4) sc_law.nd rfl (by first | exact Or.inl rfl | exact Or.inr rfl) (by decide) (we_pure (d_plus (d_sub (b_ix (d_b (d_var 2)) d_int) (b_ix (d_b (d_var 2)) d_int)) d_int))) (v_cons (v_bind (vs := [5, 6]) (we_tup (wa_cons (we_draw hr h__law_taken l__law_taken (by rfl) rfl (by first | exact Or.inl rfl | exact Or.inr (Or.inl rfl) | exact Or.inr (Or.inr rfl)) (wa_cons (we_pure (d_var 4)) wa_nil)) (wa_cons (we_draw hr h__law_taken l__law_taken (by rfl) rfl (by first | exact Or.inl rfl | exact Or.inr (Or.inl rfl) | exact Or.inr (Or.inr rfl)) (wa_cons (we_pure d_int) wa_nil)) wa_nil))) (dg_tup rfl (dgs_cons (dg_name 5 sc_law.nd rfl (by first | exact Or.inl rfl | exact Or.inr rfl) (by decide)) (dgs_cons (dg_name 6 sc_law.nd rfl (by first | exact Or.inl rfl | exact Or.inr rfl) (by decide)) dgs_nil))) (bOk_tup (by decide)) (by decide)) (v_end (s_cons (s_setLc (i := 7) (own := [("k", 9)]) rfl sc_law.nd rfl rfl (sw_true rfl rfl rfl (by decide +kernel)) (di_range1 (by rfl) T.b_range (d_var 4)) (blkOk_by (own := [("k", 9)]) (N := ["script", "row", "pond", "chances", "many", "level", "months", "due", "turn", "k"]) (sc := defScope s_law) (by decide +kernel)) (fun _ _ _ _ _ => (dg_name 9 sc_law.nd rfl (by first | exact Or.inl rfl | exact Or.inr rfl) (by decide))) (fun _ _ _ _ _ => dts_nil) (fun _ _ _ _ _ => (d_tup (da_cons (d_toInt (by rfl) T.b_int (by decide +kernel) (d_eq hr (d_var 9) (d_var 5))) (da_cons d_int da_nil))))) (s_cons (s_for (vs := [8]) PassesOwn.never rfl (di_range1 (by rfl) T.b_range (d_var 6)) (dg_name 8 sc_law.nd rfl (by first | exact Or.inl rfl | exact Or.inr rfl) (by decide)) (s_one (s_set (i := 7) sc_law.nd rfl (by first | exact Or.inl rfl | exact Or.inr rfl) (d_call hr (CF.call h__law_step) l__law_step (by rfl) (da_cons (d_var 2) (da_cons (d_var 3) (da_cons (d_var 7) da_nil))))))) (s_one (s_ret (d_and (d_call hr (CF.call h__law_alike) l__law_alike (by rfl) (da_cons (d_call hr (CF.call h_pond_steps) l_pond_steps (by rfl) (da_cons (d_var 2) (da_cons (d_var 3) (da_cons (d_var 5) (da_cons (d_var 6) da_nil))))) (da_cons (d_tuple (by rfl) T.b_tuple (by decide +kernel) (d_b (d_var 7))) da_nil))) (d_one (d_eq hr (d_call hr (CF.call h__law_sum) l__law_sum (by rfl) (da_cons (d_var 7) da_nil)) (d_tup (da_cons d_int (da_cons d_int da_nil))))))))))))))
end
end L24
namespace Ty
open PySem PySem.Spec PyProof.Rows L2 DN
theorem fold_bind {α σ γ : Type} {Bd : α → σ → Option σ} {l : List α} {s s' : σ} {K : σ → Option γ} {R : Option γ} (h1 : foldO Bd l s = some s') (h2 : K s' = R) : (foldO Bd l s).bind K = R := by rw [h1]; exact h2
theorem val_nonneg_iff {p : Q2} (h : 0 < p.2) : 0 ≤ val p ↔ 0 ≤ p.1 := by
  have := val_lt (p := p) (q := ((0 : Int), (1 : Int))) h (by decide)
  rw [val_int] at this
  have z0 : ((0 : Int) : Rat) = 0 := rfl
  rw [z0] at this
  have e : p.1 * (1 : Int) < 0 * p.2 ↔ p.1 < 0 := by omega
  rw [← Rat.not_lt, this]
  show ¬ p.1 * (1 : Int) < 0 * p.2 ↔ _
  omega
def Dy (k : Nat) (v : Rat) : Prop := ∃ i : Int, v * ((4 ^ k : Int) : Rat) = (i : Rat)
theorem Dy.int (k : Nat) (i : Int) : Dy k (i : Rat) := ⟨i * 4 ^ k, by rw [Rat.intCast_mul]⟩
theorem Dy.add {k : Nat} {a b : Rat} (ha : Dy k a) (hb : Dy k b) : Dy k (a + b) := by
  obtain ⟨i, hi⟩ := ha
  obtain ⟨j, hj⟩ := hb
  exact ⟨i + j, by rw [Rat.add_mul, hi, hj, Rat.intCast_add]⟩
def IsL (n : Nat) : List Q2 → List Rat → Prop
  | [], [] => True
  | q :: qs, v :: vs => Is n q v ∧ IsL n qs vs
  | _, _ => False
theorem IsL.len {n : Nat} : ∀ {qs : List Q2} {vs : List Rat}, IsL n qs vs → qs.length = vs.length
  | [], [], _ => rfl
  | q :: qs, v :: vs, h => by rw [List.length_cons, List.length_cons, IsL.len h.2]
  | [], _ :: _, h => h.elim
  | _ :: _, [], h => h.elim
theorem IsL.uniq {n m : Nat} : ∀ {qs ps : List Q2} {vs : List Rat}, IsL n qs vs → IsL m ps vs → qs = ps
  | [], [], [], _, _ => rfl
  | _ :: _, _ :: _, _ :: _, h, k => by rw [h.1.uniq k.1, IsL.uniq h.2 k.2]
  | [], _ :: _, [], _, k => k.elim
  | _ :: _, _, [], h, _ => h.elim
  | [], _, _ :: _, h, _ => h.elim
  | _ :: _, [], _ :: _, _, k => k.elim
theorem IsL.get {n : Nat} : ∀ {qs : List Q2} {vs : List Rat} {i : Nat}, IsL n qs vs → (h : i < qs.length) → ∃ v, vs[i]? = some v ∧ Is n qs[i] v
  | q :: qs, v :: vs, 0, h, _ => ⟨v, rfl, h.1⟩
  | q :: qs, v :: vs, i + 1, h, hi => IsL.get (i := i) h.2 (by simpa using hi)
  | [], _, _, _, hi => absurd hi (Nat.not_lt_zero _)
  | _ :: _, [], _, h, _ => h.elim
theorem IsL.mono {n m : Nat} (hm : n ≤ m) : ∀ {qs : List Q2} {vs : List Rat}, IsL n qs vs → IsL m qs vs
  | [], [], _ => trivial
  | _ :: _, _ :: _, h => ⟨h.1.mono hm, IsL.mono hm h.2⟩
  | [], _ :: _, h => h.elim
  | _ :: _, [], h => h.elim
theorem IsL.drop {n : Nat} : ∀ {qs : List Q2} {vs : List Rat} (j : Nat), IsL n qs vs → IsL n (qs.drop j) (vs.drop j)
  | _, _, 0, h => h
  | [], [], _ + 1, _ => trivial
  | _ :: _, _ :: _, j + 1, h => IsL.drop j h.2
  | [], _ :: _, _, h => h.elim
  | _ :: _, [], _, h => h.elim
def Lvl (C : Rat) : Nat → Rat → List Int → List Rat → Prop
  | _, _, [], [] => True
  | k, h, x :: xs, p :: ps => 0 ≤ p ∧ Dy (k + 1) p ∧ 0 ≤ h + (x : Rat) - p ∧ h + (x : Rat) - p ≤ C ∧ Lvl C (k + 1) (h + (x : Rat) - p) xs ps
  | _, _, _, _ => False
def fin : Rat → List Int → List Rat → Rat
  | h, x :: xs, p :: ps => fin (h + (x : Rat) - p) xs ps
  | h, _, _ => h
theorem Lvl.len {C : Rat} : ∀ {xs : List Int} {ps : List Rat} {k : Nat} {h : Rat}, Lvl C k h xs ps → ps.length = xs.length
  | [], [], _, _, _ => rfl
  | _ :: _, _ :: _, _, _, h => by rw [List.length_cons, List.length_cons, Lvl.len h.2.2.2.2]
  | [], _ :: _, _, _, h => h.elim
  | _ :: _, [], _, _, h => h.elim
theorem isL_mem {n : Nat} : ∀ {qs : List Q2} {vs : List Rat}, IsL n qs vs → ∀ q ∈ qs, ∃ v ∈ vs, Is n q v
  | q :: qs, v :: vs, h, p, hp => by
    rcases List.mem_cons.mp hp with e | e
    · exact ⟨v, List.mem_cons_self, by rw [e]; exact h.1⟩
    · obtain ⟨v', h1, h2⟩ := isL_mem h.2 p e
      exact ⟨v', List.mem_cons_of_mem _ h1, h2⟩
  | [], _, _, _, hp => nomatch hp
  | _ :: _, [], h, _, _ => h.elim
theorem row_true {n : Nat} {l : List Q2} {ps : List Rat} {m : Nat} (hl : IsL n l ps) (h0 : ∀ p ∈ ps, 0 ≤ p) (hm : l.length = m) : N_is_row_of_ratios l (m : Int) = some true := by
  unfold N_is_row_of_ratios
  rw [hm]
  rw [allO_true l fun p hq => by
    obtain ⟨v, v1, v2⟩ := isL_mem hl p hq
    rw [is_ratio_ok v2.sz]
    show some (decide (0 ≤ p.1)) = some true
    rw [decide_eq_true ((val_nonneg_iff v2.sz.pos).mp (by rw [v2.eq]; exact h0 v v1))]]
  simp [iteO]
abbrev St : Type := List (Int × Int)
def Un (S : St) : Prop := ∀ s ∈ S, 0 ≤ s.2
def Dn (S : St) : Prop := S.Pairwise fun a b => b.1 ≤ a.1
theorem c0 {u : Int} (h : 0 ≤ u) : (0 : Rat) ≤ (u : Rat) := Rat.intCast_nonneg.mpr h
def prt : St → Int → Int → St
  | [], _, _ => []
  | s :: r, f, b => (if 0 < min2 s.2 b - max2 0 f then [(s.1, min2 s.2 b - max2 0 f)] else []) ++ prt r (f - s.2) (b - s.2)
def tot : St → Int
  | [] => 0
  | s :: r => s.1 * s.2 + tot r
abbrev Cur : Type := Int × Int × List (Int × Int)
def usesU (c : Cur) (P : St) (w : Int) : List (Int × Int × Bool) := ((c.2.2.map fun s => (s.1, s.2, true)) ++ (P.map fun s => (s.2, s.1, false)) ++ [((0 : Int), w + 1, false)]).mergeSort leU3
def plain (U : List (Int × Int × Bool)) : St := U.map fun u => (u.1, u.2.1)
def usesM (c : Cur) (P : St) (w : Int) : St := plain (usesU c P w)
section
variable {C : Int} {c : Cur} {P : St} {w x : Int}
def lowC (c : Cur) (x : Int) : Int := max2 0 (c.1 - x)
def nxt (C : Int) (c : Cur) (x : Int) (P : St) : Cur := (lowC c x, c.2.1 + tot (prt (usesM c P (C + x)) 0 (lowC c x + x - c.1)), prt (usesM c P (C + x)) (lowC c x + x - c.1) (lowC c x + x - c.1 + C - lowC c x))
end
def cv (C E : Int) : List Int → List St → Cur
  | x :: xs, P :: ws => nxt C (cv C E xs ws) x P
  | _, _ => (E, 0, [(0, C - E)])
abbrev Us : Type := List (Int × Int × Bool)
def gam (b : Bool) : Us → Int → Int
  | [], _ => 0
  | u :: r, y => (if u.2.2 = b then min2 y u.2.1 else 0) + gam b r (y - min2 y u.2.1)
def kd (b : Bool) (U : Us) : St := plain (U.filter fun u => decide (u.2.2 = b))
section
variable {C : Int} {c : Cur} {P : St} {w : Int}
def hold (c : Cur) (P : St) (w : Int) : Int := c.1 + gam true (usesU c P w) (w - c.1)
end
def bl (C E : Int) : Int → List Int → List St → List Int
  | g, x :: xs, P :: ws => hold (cv C E xs ws) P (g + x) :: bl C E (hold (cv C E xs ws) P (g + x)) xs ws
  | _, _, _ => []
def rel : Int → List Int → List Int → List Int
  | g, x :: xs, h :: hs => (g + x - h) :: rel h xs hs
  | _, _, _ => []
def pB (f b : Int) (i5 : Int × Int) (s3 : Int × St) : Option (Int × St) := ((some ((min2 (s3.1 + i5.2) b) - (max2 s3.1 f))).bind fun taken_6 => ((iteO (some (decide ((0 : Int) < taken_6))) ((appO s3.2 (i5.1, taken_6)).bind fun part_23 => some part_23) (some s3.2)).bind fun s25 => (((some i5.2)).bind fun x27 => (fun place_28 => some (place_28, s25)) (s3.1 + x27))))
theorem bindE {α β : Type} {o : Option α} {a : α} {f : α → Option β} {r : Option β} (h : o = some a) (h2 : f a = r) : o.bind f = r := by
  rw [h]; exact h2
def hB (i8 : Int × Int × Bool) (s6 : Int × Int) : Option (Int × Int) := ((some (min2 s6.1 i8.2.1)).bind fun taken_9 => ((some taken_9).bind fun x14 => (fun left_15 => (iteO (some i8.2.2) (((some taken_9)).bind fun x16 => (fun held_17 => some (left_15, held_17)) (s6.2 + x16)) (some (left_15, s6.2)))) (s6.1 - x14)))
noncomputable def lB (i6 : Int × List (Int × Int) × Cur) (s4 : Int × List Int) : Option (Int × List Int) := ((N_best_hold i6.2.2 i6.2.1 (s4.1 + i6.1)).bind fun held_7 => ((appO s4.2 held_7).bind fun behind_10 => some (held_7, behind_10)))
theorem is_den {n a b : Nat} {q : Q2} {v : Rat} {D z : Int} (h : Is n q v) (hD : 0 < D) (hDb : D < 2 ^ a) (hz : z.natAbs < 2 ^ b) (e : v * (D : Rat) = (z : Rat)) : Is (max a b) q v := by
  have h' := h
  obtain ⟨⟨p0, s1, s2, s3⟩, hv⟩ := h
  have qp := cast_pos p0
  have e1 : q.1 * D = z * q.2 := by
    unfold val at hv
    rw [← hv] at e
    have : ((q.1 * D : Int) : Rat) = ((z * q.2 : Int) : Rat) := by
      rw [Rat.intCast_mul, Rat.intCast_mul, ← e]
      have k : (q.1 : Rat) / (q.2 : Rat) * (q.2 : Rat) = (q.1 : Rat) := Rat.div_mul_cancel (Rat.ne_of_gt qp)
      rw [Rat.mul_assoc, Rat.mul_comm (D : Rat), ← Rat.mul_assoc, k]
    exact Rat.intCast_inj.mp this
  have cop : Nat.Coprime q.2.natAbs q.1.natAbs := by
    show Nat.gcd q.2.natAbs q.1.natAbs = 1
    rw [Nat.gcd_comm]
    exact s3
  have dv : q.2 ∣ D := by
    have k : q.2 ∣ q.1 * D := ⟨z, by rw [e1, Int.mul_comm]⟩
    have k2 := Int.natAbs_dvd_natAbs.mpr k
    rw [Int.natAbs_mul] at k2
    exact Int.natAbs_dvd_natAbs.mp (cop.dvd_of_dvd_mul_left k2)
  obtain ⟨k, hk⟩ := dv
  have k0 : 0 < k := by
    rcases Int.lt_trichotomy k 0 with c | c | c
    · have := Int.mul_neg_of_pos_of_neg p0 c
      omega
    · rw [c, Int.mul_zero] at hk
      omega
    · exact c
  have e2 : q.1 * k = z := by
    rw [hk] at e1
    have : q.2 * (q.1 * k) = q.2 * z := by
      rw [← Int.mul_assoc, Int.mul_comm q.2 q.1, Int.mul_assoc, e1, Int.mul_comm]
    exact Int.eq_of_mul_eq_mul_left (by omega) this
  refine ⟨⟨p0, ?_, ?_, s3⟩, hv⟩
  · have : q.1.natAbs ≤ z.natAbs := by
      rw [← e2, Int.natAbs_mul]
      exact Nat.le_mul_of_pos_right _ (by omega)
    exact Nat.lt_of_lt_of_le (Nat.lt_of_le_of_lt this hz) (Nat.pow_le_pow_right (by decide) (Nat.le_max_right _ _))
  · have : q.2 ≤ D := by
      have := Int.mul_le_mul_of_nonneg_left (show (1 : Int) ≤ k by omega) (show 0 ≤ q.2 by omega)
      omega
    exact Nat.lt_of_lt_of_le (show q.2.natAbs < 2 ^ a by
      have : (q.2.natAbs : Int) < ((2 ^ a : Nat) : Int) := by
        have e : ((2 ^ a : Nat) : Int) = (2 : Int) ^ a := by simp
        rw [e]
        omega
      exact Int.ofNat_lt.mp this) (Nat.pow_le_pow_right (by decide) (Nat.le_max_left _ _))
def Good (n : Nat) (l : List Q2) : Prop := ∀ q ∈ l, Sz n q ∧ 0 ≤ val q
theorem Good.nn {n : Nat} {l : List Q2} (h : Good n l) : ∀ p ∈ l.map val, 0 ≤ p := fun p hp => by
  obtain ⟨q, hq, rfl⟩ := List.mem_map.mp hp
  exact (h q hq).2
end Ty
namespace Po
open PySem PySem.Spec PyProof.Rows L2 DN Ty
def Dn (D : Int) (v : Rat) : Prop := ∃ i : Int, v * (D : Rat) = (i : Rat)
theorem Dn.add {D : Int} {a b : Rat} (ha : Dn D a) (hb : Dn D b) : Dn D (a + b) := by
  obtain ⟨i, hi⟩ := ha
  obtain ⟨j, hj⟩ := hb
  refine ⟨i + j, ?_⟩
  rw [Rat.intCast_add, ← hi, ← hj]
  grind
theorem Dn.mul {D E : Int} {a b : Rat} (ha : Dn D a) (hb : Dn E b) : Dn (D * E) (a * b) := by
  obtain ⟨i, hi⟩ := ha
  obtain ⟨j, hj⟩ := hb
  refine ⟨i * j, ?_⟩
  rw [Rat.intCast_mul, Rat.intCast_mul, ← hi, ← hj]
  grind
theorem Dn.int (D i : Int) : Dn D (i : Rat) := ⟨i * D, by rw [Rat.intCast_mul]⟩
theorem Dn.zero (D : Int) : Dn D 0 := Dn.int D 0
theorem Dn.is {D : Int} {a n : Nat} {q : Q2} {v : Rat} (h : Is n q v) (hD : 0 < D) (hb : D < 2 ^ a) (hv : Dn D v) (v0 : 0 ≤ v) (v1 : v ≤ 1) : Is a q v := by
  obtain ⟨z, hz⟩ := hv
  have dp : (0 : Rat) < (D : Rat) := cast_pos hD
  have z0 : (0 : Rat) ≤ (z : Rat) := by rw [← hz]; exact Rat.mul_nonneg v0 (Rat.le_of_lt dp)
  have z1 : (z : Rat) ≤ (D : Rat) := by
    rw [← hz]
    have := Rat.mul_le_mul_of_nonneg_right v1 (Rat.le_of_lt dp)
    grind
  have y0 : 0 ≤ z := Rat.intCast_le_intCast.mp z0
  have y1 : z ≤ D := Rat.intCast_le_intCast.mp z1
  have r := is_den (a := a) (b := a) h hD hb (by
    have e : (((2 ^ a : Nat)) : Int) = (2 : Int) ^ a := by simp
    have : (z.natAbs : Int) < ((2 ^ a : Nat) : Int) := by rw [e]; omega
    exact Int.ofNat_lt.mp this) hz
  rw [Nat.max_self] at r
  exact r
def bhd (p : PondT) (l i : Int) : Int := min2 p.1 (l + i) - min2 p.2 (min2 p.1 (l + i))
def upd1 (s : List Rat) (j : Nat) (x : Rat) : List Rat := s.set j (s.getD j 0 + x)
def stI (p : PondT) (l : Int) (x : Rat) : Nat → List Rat → List Rat → List Rat
  | i, c :: cs, s => stI p l x (i + 1) cs (upd1 s (bhd p l (i : Int)).toNat (x * c))
  | _, [], s => s
def stL (p : PondT) (cs : List Rat) : Nat → List Rat → List Rat → List Rat
  | l, x :: xs, s => stL p cs (l + 1) xs (stI p (l : Int) x 0 cs s)
  | _, [], s => s
def stp (p : PondT) (cs v : List Rat) : List Rat := stL p cs 0 v (List.replicate v.length 0)
abbrev lvs_n (p : PondT) : Nat := (p.1 - p.2 + 1).toNat
theorem min2_le (a b : Int) : min2 a b = min a b := by
  unfold min2
  omega
theorem bhd_in {p : PondT} (hp : PondIn p) {l i : Int} (hl : 0 ≤ l) (hi : 0 ≤ i) : 0 ≤ bhd p l i ∧ bhd p l i ≤ p.1 - p.2 := by
  have := hp.c0; have := hp.r0; have := hp.r1
  unfold bhd
  rw [min2_le, min2_le]
  omega
theorem upd_len (s : List Rat) (j : Nat) (x : Rat) : (upd1 s j x).length = s.length := List.length_set
theorem sum_set : ∀ (s : List Rat) (j : Nat) (x : Rat), j < s.length → (upd1 s j x).sum = s.sum + x
  | a :: s, 0, x, _ => by
    show (a + x) + s.sum = (a + s.sum) + x
    grind
  | a :: s, j + 1, x, h => by
    have i := sum_set s j x (by simpa using h)
    show a + (upd1 s j x).sum = (a + s.sum) + x
    rw [i]
    grind
structure Shr (D : Int) (s : List Rat) : Prop where
  dn : ∀ x ∈ s, Dn D x
  nn : ∀ x ∈ s, 0 ≤ x
theorem Shr.upd {D : Int} {s : List Rat} (h : Shr D s) {j : Nat} (hj : j < s.length) {x : Rat} (hx : Dn D x) (x0 : 0 ≤ x) : Shr D (upd1 s j x) := by
  have e : s.getD j 0 = s[j] := by simp [List.getD, hj]
  constructor <;> intro y hy <;> unfold upd1 at hy <;> rw [e] at hy <;> rcases List.mem_or_eq_of_mem_set hy with q | q
  · exact h.dn y q
  · rw [q]; exact (h.dn _ (List.getElem_mem hj)).add hx
  · exact h.nn y q
  · rw [q]
    have := h.nn _ (List.getElem_mem hj)
    grind
theorem le_sum {s : List Rat} (h : ∀ x ∈ s, 0 ≤ x) : 0 ≤ s.sum ∧ ∀ x ∈ s, x ≤ s.sum := by
  induction s with
  | nil => exact ⟨Rat.le_refl, fun x hx => nomatch hx⟩
  | cons a s ih =>
    obtain ⟨i1, i2⟩ := ih fun x hx => h x (List.mem_cons_of_mem _ hx)
    have a0 := h a List.mem_cons_self
    rw [List.sum_cons]
    refine ⟨by grind, fun x hx => ?_⟩
    rcases List.mem_cons.mp hx with e | e
    · rw [e]; grind
    · have := i2 x e
      grind
theorem isl_set {n : Nat} : ∀ {l : List Q2} {vs : List Rat} {q : Q2} {v : Rat} (j : Nat), IsL n l vs → Is n q v → IsL n (l.set j q) (vs.set j v)
  | [], [], _, _, _, _, _ => trivial
  | _ :: _, _ :: _, _, _, 0, h, hq => ⟨hq, h.2⟩
  | _ :: _, _ :: _, _, _, j + 1, h, hq => ⟨h.1, isl_set j h.2 hq⟩
  | [], _ :: _, _, _, _, h, _ => h.elim
  | _ :: _, [], _, _, _, h, _ => h.elim
theorem isl_get {n : Nat} : ∀ {l : List Q2} {vs : List Rat} (j : Nat) (h : j < l.length), IsL n l vs → Is n l[j] (vs.getD j 0)
  | _ :: _, _ :: _, 0, _, h => h.1
  | q :: l, v :: vs, j + 1, hj, h => isl_get (l := l) (vs := vs) j (by simpa using hj) h.2
  | [], _, _, h, _ => by simp at h
  | _ :: _, [], _, _, h => h.elim
theorem put_nat {α : Type} {l : List α} {j : Nat} (h : j < l.length) (x : α) : putO l (j : Int) x = some (l.set j x) := by
  unfold putO
  have e : ixN l.length (j : Int) = some j := by
    unfold ixN
    rw [if_pos (by omega), if_pos (by omega)]
    simp
  rw [e]
  rfl
theorem upd_ok {D : Int} {a : Nat} (hD : 0 < D) (hb : D < 2 ^ a) (ha : a ≤ 2900) {Q : List Q2} {s : List Rat} (hQ : IsL a Q s) (hs : Shr D s) {j : Nat} (hj : j < s.length) {q : Q2} {x : Rat} {m : Nat} (hq : Is m q x) (hm : m ≤ 3000) (hx : Dn D x) (x0 : 0 ≤ x) (t : s.sum + x ≤ 1) :
    ∃ r, (atI Q (j : Int) = some (Q[j]'(by rw [hQ.len]; exact hj))) ∧ N_plus (Q[j]'(by rw [hQ.len]; exact hj)) q = some r ∧ N__law_plus (Q[j]'(by rw [hQ.len]; exact hj)) q = some r ∧ IsL a (Q.set j r) (upd1 s j x) := by
  have hjQ : j < Q.length := by rw [hQ.len]; exact hj
  have g := isl_get j hjQ hQ
  have e : s.getD j 0 = s[j] := by simp [List.getD, hj]
  obtain ⟨r, r1, r2⟩ := pplus g hq (by omega)
  obtain ⟨r', r1', r2'⟩ := lplus g hq (by omega)
  have rr : r' = r := r2'.uniq r2
  subst rr
  have le := (le_sum hs.nn).2 _ (List.getElem_mem hj)
  have n0 := hs.nn _ (List.getElem_mem hj)
  rw [e] at r2 g
  have r3 := Dn.is r2 hD hb ((hs.dn _ (List.getElem_mem hj)).add hx) (by grind) (by grind)
  refine ⟨r', L2.atI_nat (List.getElem?_eq_getElem hjQ), r1, r1', ?_⟩
  unfold upd1
  rw [e]
  exact isl_set j hQ r3
def mths (p : PondT) (l : Int) : Nat → List Q2 → List (Q2 × Int × Int × Int)
  | i, c :: C => (c, min2 p.2 (min2 p.1 (l + (i : Int))), (l + (i : Int)) - min2 p.1 (l + (i : Int)), bhd p l (i : Int)) :: mths p l (i + 1) C
  | _, [] => []
theorem months_go (p : PondT) (l : Int) : ∀ (C : List Q2) (i : Nat) (acc : List (Q2 × Int × Int × Int)), acc.length + C.length ≤ 1000 →
    foldO (fun (i6 : (Int × (Int × Int))) (s4 : ((List ((Int × Int) × Int × Int × Int)))) => ((some (min2 p.1 (l + i6.1))).bind fun there_7 => ((some (min2 p.2 there_7)).bind fun given_14 => ((appO s4 (i6.2, given_14, ((l + i6.1) - there_7), (there_7 - given_14))).bind fun months_25 => some months_25)))) (enumN i C) acc = some (acc ++ mths p l i C)
  | [], i, acc, _ => by rw [show mths p l i [] = [] from rfl, List.append_nil]; rfl
  | c :: C, i, acc, h => by
    rw [List.length_cons] at h
    have e := months_go p l C (i + 1) (acc ++ [(c, min2 p.2 (min2 p.1 (l + (i : Int))), (l + (i : Int)) - min2 p.1 (l + (i : Int)), bhd p l (i : Int))]) (by rw [List.length_append, List.length_singleton]; omega)
    show (((appO acc (c, min2 p.2 (min2 p.1 (l + (i : Int))), (l + (i : Int)) - min2 p.1 (l + (i : Int)), bhd p l (i : Int))).bind fun months_25 => some months_25).bind (foldO _ (enumN (i + 1) C))) = _
    have ap : appO acc (c, min2 p.2 (min2 p.1 (l + (i : Int))), (l + (i : Int)) - min2 p.1 (l + (i : Int)), bhd p l (i : Int)) = some (acc ++ [(c, min2 p.2 (min2 p.1 (l + (i : Int))), (l + (i : Int)) - min2 p.1 (l + (i : Int)), bhd p l (i : Int))]) := by unfold appO; rw [if_pos (by omega)]
    rw [ap, Option.bind_some, Option.bind_some, e, List.append_assoc]
    rfl
theorem months_from_ok (p : PondT) (l : Int) {C : List Q2} (h : C.length ≤ 1000) : N_months_from p C l = some (mths p l 0 C) := by
  unfold N_months_from
  refine bindE (a := p) rfl (bindE (a := []) rfl ?_)
  rw [months_go p l C 0 [] (by simpa using h)]
  rfl
noncomputable def pB (q : Q2) (i11 : ((Int × Int) × Int × Int × Int)) (s9 : List Q2) : Option (List Q2) := ((((atI s9 i11.2.2.2).bind fun a14 => (N_times q i11.1).bind fun a15 => N_plus a14 a15).bind fun x16 => (some i11.2.2.2).bind fun y17 => putO s9 y17 x16).bind fun later_18 => some later_18)
noncomputable def lB (p : PondT) (C V : List Q2) (l : Int) (i12 : Int) (s10 : List Q2) : Option (List Q2) := (((N__law_month p l i12).bind fun x14 => some x14.2.2).bind fun later_13 => ((((atI s10 later_13).bind fun a23 => ((atI V l).bind fun a21 => (atI C i12).bind fun a22 => N__law_by a21 a22).bind fun a24 => N__law_plus a23 a24).bind fun x25 => (some later_13).bind fun y26 => putO s10 y26 x25).bind fun found_27 => some found_27))
structure Chr (S : Int) (C : List Q2) (cs : List Rat) : Prop where
  isl : IsL 6 C cs
  sh : Shr S cs
abbrev rg (i n : Nat) : List Int := (List.range' i n).map fun k : Nat => (k : Int)
theorem rg_eq {n : Nat} (h : n ≤ 1000000) : range1O (n : Int) = some (rg 0 n) := by
  rw [range1_nat h]
  refine congrArg some ?_
  rw [List.range_eq_range']
  refine List.map_congr_left fun k _ => ?_
  omega
theorem Chr.tail {S : Int} {c : Q2} {C : List Q2} {x : Rat} {cs : List Rat} (h : Chr S (c :: C) (x :: cs)) : Chr S C cs := ⟨h.isl.2, ⟨fun y hy => h.sh.dn y (List.mem_cons_of_mem _ hy), fun y hy => h.sh.nn y (List.mem_cons_of_mem _ hy)⟩⟩
theorem month_is (p : PondT) (l i : Int) : N__law_month p l i = some (min2 p.2 (min2 p.1 (l + i)), (l + i) - min2 p.1 (l + i), bhd p l i) := rfl
theorem inner_ok {p : PondT} (hp : PondIn p) {D S : Int} {a b : Nat} (hD : 0 < D) (hS : 0 < S) (hb : D * S < 2 ^ a) (ha : a ≤ 2900) (hb2 : b ≤ 2900) {q : Q2} {x : Rat} (hq : Is b q x) (hx : Dn D x) (x0 : 0 ≤ x) (C0 V0 : List Q2) (l : Nat) (hV : atI V0 (l : Int) = some q) :
    ∀ (C : List Q2) (cs : List Rat) (i : Nat) (Q : List Q2) (s : List Rat), Chr S C cs → (∀ k (h : k < C.length), atI C0 ((i + k : Nat) : Int) = some C[k]) → IsL a Q s → Shr (D * S) s → s.length = lvs_n p → s.sum + x * cs.sum ≤ 1 →
    ∃ Q', foldO (pB q) (mths p (l : Int) i C) Q = some Q' ∧ foldO (lB p C0 V0 (l : Int)) (rg i C.length) Q = some Q' ∧ IsL a Q' (stI p (l : Int) x i cs s) ∧ Shr (D * S) (stI p (l : Int) x i cs s) ∧ (stI p (l : Int) x i cs s).length = lvs_n p ∧ (stI p (l : Int) x i cs s).sum = s.sum + x * cs.sum
  | [], [], i, Q, s, _, _, hQ, hs, hl, ht => ⟨Q, rfl, rfl, hQ, hs, hl, by show s.sum = s.sum + x * 0; grind⟩
  | c :: C, y :: cs, i, Q, s, hC, hg, hQ, hs, hl, ht => by
    have yn := hC.sh.nn y List.mem_cons_self
    have yd := hC.sh.dn y List.mem_cons_self
    have cn := (le_sum fun z hz => hC.sh.nn z (List.mem_cons_of_mem _ hz)).1
    obtain ⟨b0, b1⟩ := bhd_in hp (l := (l : Int)) (i := (i : Int)) (by omega) (by omega)
    obtain ⟨j, hj⟩ : ∃ j : Nat, bhd p (l : Int) (i : Int) = (j : Int) := ⟨(bhd p (l : Int) (i : Int)).toNat, by omega⟩
    have jl : j < s.length := by
      rw [hl]
      show j < (p.1 - p.2 + 1).toNat
      omega
    rw [List.sum_cons] at ht
    have xy := Rat.mul_nonneg x0 yn
    have xc := Rat.mul_nonneg x0 cn
    obtain ⟨t, t1, t2⟩ := ptimes hq hC.isl.1 (by omega)
    obtain ⟨t', t1', t2'⟩ := lby hq hC.isl.1 (by omega)
    have tt : t' = t := t2'.uniq t2
    subst tt
    have dp : (0 : Int) < D * S := Int.mul_pos hD hS
    obtain ⟨r, r1, r2, r3, r4⟩ := upd_ok dp hb ha hQ hs jl t2 (by omega) (hx.mul yd) xy (by grind)
    have hs' := hs.upd jl (hx.mul yd) xy
    have sm := sum_set s j (x * y) jl
    obtain ⟨Q', g1, g2, g3, g4, g5, g6⟩ := inner_ok hp hD hS hb ha hb2 hq hx x0 C0 V0 l hV C cs (i + 1) (Q.set j r) (upd1 s j (x * y)) hC.tail (fun k h => by
      have := hg (k + 1) (by rw [List.length_cons]; omega)
      rw [show i + 1 + k = i + (k + 1) by omega]
      exact this) r4 hs' (by rw [upd_len]; exact hl) (by rw [sm]; grind)
    have jQ : j < Q.length := by rw [hQ.len]; exact jl
    have pn := put_nat jQ r
    have es : stI p (l : Int) x i (y :: cs) s = stI p (l : Int) x (i + 1) cs (upd1 s j (x * y)) := by
      show stI p (l : Int) x (i + 1) cs (upd1 s (bhd p (l : Int) (i : Int)).toNat (x * y)) = _
      rw [hj]
      rfl
    rw [es]
    refine ⟨Q', ?_, ?_, g3, g4, g5, ?_⟩
    · show (pB q (c, _, _, bhd p (l : Int) (i : Int)) Q).bind (foldO (pB q) (mths p (l : Int) (i + 1) C)) = _
      have e : ∀ u v, pB q (c, u, v, bhd p (l : Int) (i : Int)) Q = some (Q.set j r) := fun u v => by
        unfold pB
        show (((atI Q (bhd p (l : Int) (i : Int))).bind fun a14 => (N_times q c).bind fun a15 => N_plus a14 a15).bind fun x16 => putO Q (bhd p (l : Int) (i : Int)) x16).bind _ = _
        rw [hj, r1, Option.bind_some, t1, Option.bind_some, r2, Option.bind_some, pn]
        rfl
      rw [e, Option.bind_some, g1]
    · show (lB p C0 V0 (l : Int) (i : Int) Q).bind (foldO (lB p C0 V0 (l : Int)) (rg (i + 1) C.length)) = _
      have gi := hg 0 (by rw [List.length_cons]; omega)
      rw [Nat.add_zero] at gi
      have e : lB p C0 V0 (l : Int) (i : Int) Q = some (Q.set j r) := by
        unfold lB
        rw [month_is, Option.bind_some, Option.bind_some, hj, r1, Option.bind_some, hV, Option.bind_some, gi, Option.bind_some, show (c :: C)[0] = c from rfl, t1', Option.bind_some, r3, Option.bind_some, Option.bind_some, pn]
        rfl
      rw [e, Option.bind_some, g2]
    · rw [g6, sm, List.sum_cons]
      grind
  | [], _ :: _, _, _, _, h, _, _, _, _, _ => h.isl.elim
  | _ :: _, [], _, _, _, h, _, _, _, _, _ => h.isl.elim
noncomputable def pO (p : PondT) (C : List Q2) (i8 : Int × Q2) (s6 : List Q2) : Option (List Q2) := (((N_months_from p C i8.1).bind fun l => foldO (pB i8.2) l s6).bind fun s19 => some s19)
noncomputable def lO (p : PondT) (C V : List Q2) (i8 : Int) (s6 : List Q2) : Option (List Q2) := (((range1O ((C).length : Int)).bind fun l => foldO (lB p C V i8) l s6).bind fun s28 => some s28)
theorem outer_ok {p : PondT} (hp : PondIn p) {D S : Int} {a b : Nat} (hD : 0 < D) (hS : 0 < S) (hb : D * S < 2 ^ a) (ha : a ≤ 2900) (hb2 : b ≤ 2900) (C : List Q2) (cs : List Rat) (hC : Chr S C cs) (hc : cs.sum = 1) (hcl : C.length ≤ 1000) (V0 : List Q2) :
    ∀ (V : List Q2) (v : List Rat) (l : Nat) (Q : List Q2) (s : List Rat), IsL b V v → Shr D v → (∀ k (h : k < V.length), atI V0 ((l + k : Nat) : Int) = some V[k]) → IsL a Q s → Shr (D * S) s → s.length = lvs_n p → s.sum + v.sum ≤ 1 →
    ∃ Q', foldO (pO p C) (enumN l V) Q = some Q' ∧ foldO (lO p C V0) (rg l V.length) Q = some Q' ∧ IsL a Q' (stL p cs l v s) ∧ Shr (D * S) (stL p cs l v s) ∧ (stL p cs l v s).length = lvs_n p ∧ (stL p cs l v s).sum = s.sum + v.sum
  | [], [], l, Q, s, _, _, _, hQ, hs, hl, _ => ⟨Q, rfl, rfl, hQ, hs, hl, by show s.sum = s.sum + 0; grind⟩
  | q :: V, x :: v, l, Q, s, hV, hv, hg, hQ, hs, hl, ht => by
    have x0 := hv.nn x List.mem_cons_self
    have vn := (le_sum fun z hz => hv.nn z (List.mem_cons_of_mem _ hz)).1
    rw [List.sum_cons] at ht
    have g0 := hg 0 (by rw [List.length_cons]; omega)
    rw [Nat.add_zero] at g0
    have g0' : atI V0 (l : Int) = some q := g0
    obtain ⟨Q1, i1, i2, i3, i4, i5, i6⟩ := inner_ok hp hD hS hb ha hb2 hV.1 (hv.dn x List.mem_cons_self) x0 C V0 l g0' C cs 0 Q s hC (fun k h => by rw [Nat.zero_add]; exact L2.atI_nat (List.getElem?_eq_getElem h)) hQ hs hl (by rw [hc]; grind)
    rw [hc] at i6
    obtain ⟨Q2, j1, j2, j3, j4, j5, j6⟩ := outer_ok hp hD hS hb ha hb2 C cs hC hc hcl V0 V v (l + 1) Q1 _ hV.2 ⟨fun z hz => hv.dn z (List.mem_cons_of_mem _ hz), fun z hz => hv.nn z (List.mem_cons_of_mem _ hz)⟩ (fun k h => by
      have := hg (k + 1) (by rw [List.length_cons]; omega)
      rw [show l + 1 + k = l + (k + 1) by omega]
      exact this) i3 i4 i5 (by rw [i6]; grind)
    refine ⟨Q2, ?_, ?_, j3, j4, j5, ?_⟩
    · show (pO p C ((l : Int), q) Q).bind (foldO (pO p C) (enumN (l + 1) V)) = _
      have e : pO p C ((l : Int), q) Q = some Q1 := by
        unfold pO
        rw [months_from_ok p (l : Int) hcl, Option.bind_some, i1]
        rfl
      rw [e, Option.bind_some, j1]
    · show (lO p C V0 (l : Int) Q).bind (foldO (lO p C V0) (rg (l + 1) V.length)) = _
      have e : lO p C V0 (l : Int) Q = some Q1 := by
        unfold lO
        rw [rg_eq (by omega), Option.bind_some, i2]
        rfl
      rw [e, Option.bind_some, j2]
    · show (stL p cs (l + 1) v (stI p (l : Int) x 0 cs s)).sum = _
      rw [j6, i6, List.sum_cons]
      grind
  | [], _ :: _, _, _, _, h, _, _, _, _, _, _ => h.elim
  | _ :: _, [], _, _, _, h, _, _, _, _, _, _ => h.elim
theorem zeros_isl (a : Nat) (h : 0 < a) : ∀ n, IsL a (List.replicate n ((0 : Int), (1 : Int))) (List.replicate n 0)
  | 0 => trivial
  | n + 1 => by
    have z : ((0 : Int) : Rat) = 0 := rfl
    have i : Is a ((0 : Int), (1 : Int)) ((0 : Int) : Rat) := is_int (by simpa using Nat.two_pow_pos a) h
    rw [z] at i
    exact ⟨i, zeros_isl a h n⟩
theorem zeros_shr (D : Int) (n : Nat) : Shr D (List.replicate n 0) := ⟨fun x hx => by rw [List.eq_of_mem_replicate hx]; exact Dn.zero D, fun x hx => by rw [List.eq_of_mem_replicate hx]; exact Rat.le_refl⟩
theorem zeros_sum : ∀ n : Nat, (List.replicate n (0 : Rat)).sum = 0
  | 0 => rfl
  | n + 1 => by
    have := zeros_sum n
    show (0 : Rat) + (List.replicate n (0 : Rat)).sum = 0
    rw [this]
    grind
theorem later_ok {p : PondT} (hp : PondIn p) {D S : Int} {a b : Nat} (hD : 0 < D) (hS : 0 < S) (hb : D * S < 2 ^ a) (ha : a ≤ 2900) (hb2 : b ≤ 2900) {C : List Q2} {cs : List Rat} (hC : Chr S C cs) (hc : cs.sum = 1) (hcl : C.length ≤ 1000) {V : List Q2} {v : List Rat} (hV : IsL b V v) (hv : Shr D v) (hl : v.length = lvs_n p) (ht : v.sum ≤ 1) :
    ∃ Q, N_month_later p C V = some Q ∧ N__law_step p C V = some Q ∧ IsL a Q (stp p cs v) ∧ Shr (D * S) (stp p cs v) ∧ (stp p cs v).length = lvs_n p ∧ (stp p cs v).sum = v.sum := by
  have c1 := hp.c1; have r0 := hp.r0
  have vl : V.length = v.length := hV.len
  have nl : V.length ≤ 1000 := by
    rw [vl, hl]
    show (p.1 - p.2 + 1).toNat ≤ 1000
    omega
  have a0 : 0 < a := by
    rcases Nat.eq_zero_or_pos a with z | z
    · subst z
      have := Int.mul_pos hD hS
      simp at hb
      omega
    · exact z
  have zz := zeros_sum V.length
  obtain ⟨Q, g1, g2, g3, g4, g5, g6⟩ := outer_ok hp hD hS hb ha hb2 C cs hC hc hcl V V v 0 (List.replicate V.length ((0 : Int), (1 : Int))) (List.replicate V.length 0) hV hv (fun k h => by rw [Nat.zero_add]; exact L2.atI_nat (List.getElem?_eq_getElem h)) (zeros_isl a a0 _) (zeros_shr _ _) (by rw [List.length_replicate, vl, hl]) (by rw [zz]; grind)
  have es : stL p cs 0 v (List.replicate V.length 0) = stp p cs v := by unfold stp; rw [vl]
  rw [es] at g3 g4 g5 g6
  refine ⟨Q, ?_, ?_, g3, g4, g5, by rw [g6, zz]; grind⟩
  · unfold N_month_later
    rw [repL_ok nl, Option.bind_some]
    show (foldO (pO p C) (enumN 0 V) _).bind (fun s21 => some s21) = _
    rw [g1]
    rfl
  · unfold N__law_step
    rw [repL_ok nl, Option.bind_some, rg_eq (by omega), Option.bind_some]
    show (foldO (lO p C V) _ _).bind _ = _
    rw [g2]
    rfl
end Po
namespace DN
open PySem PySem.Spec PyProof.Rows L2
end DN
namespace Ty
open PySem PySem.Spec PyProof.Rows L2 DN
theorem iteF {α : Type} {c : Option Bool} {A B r : Option α} (h : c = some false) (g : B = r) : iteO c A B = r := by rw [h]; exact g
theorem iteT {α : Type} {c : Option Bool} {A B r : Option α} (h : c = some true) (g : A = r) : iteO c A B = r := by rw [h]; exact g
end Ty
namespace Po
open PySem PySem.Spec PyProof.Rows L2 DN Ty
theorem Dn.isM {D : Int} {a n m : Nat} {q : Q2} {v : Rat} (h : Is n q v) (hD : 0 < D) (hb : D < 2 ^ a) (hv : Dn D v) (v0 : 0 ≤ v) (v1 : v ≤ ((2 ^ m : Nat) : Rat)) : Is (a + m) q v := by
  obtain ⟨z, hz⟩ := hv
  have dp : (0 : Rat) < (D : Rat) := cast_pos hD
  have z0 : (0 : Rat) ≤ (z : Rat) := by rw [← hz]; exact Rat.mul_nonneg v0 (Rat.le_of_lt dp)
  have e0 : ((2 ^ m : Nat) : Rat) = (((2 ^ m : Nat) : Int) : Rat) := rfl
  have z1 : (z : Rat) ≤ ((((2 ^ m : Nat) : Int) * D : Int) : Rat) := by
    rw [← hz, Rat.intCast_mul, ← e0]
    exact Rat.mul_le_mul_of_nonneg_right v1 (Rat.le_of_lt dp)
  have y0 : 0 ≤ z := Rat.intCast_le_intCast.mp z0
  have y1 : z ≤ ((2 ^ m : Nat) : Int) * D := Rat.intCast_le_intCast.mp z1
  have r := is_den (a := a) (b := a + m) h hD hb (by
    have m0 : 0 < ((2 ^ m : Nat) : Int) := Int.ofNat_lt.mpr (Nat.two_pow_pos m)
    have e : (((2 ^ (a + m) : Nat)) : Int) = ((2 ^ m : Nat) : Int) * ((2 ^ a : Nat) : Int) := by
      rw [← Int.natCast_mul, ← Nat.pow_add, Nat.add_comm]
    have e2 : ((2 ^ a : Nat) : Int) = (2 : Int) ^ a := by simp
    have lt := Int.mul_lt_mul_of_pos_left (show D < ((2 ^ a : Nat) : Int) by rw [e2]; exact hb) m0
    have : (z.natAbs : Int) < ((2 ^ (a + m) : Nat) : Int) := by rw [e]; omega
    exact Int.ofNat_lt.mp this) hz
  rw [show max a (a + m) = a + m by omega] at r
  exact r
theorem sum_go {D : Int} {a b m : Nat} (hD : 0 < D) (hb : D < 2 ^ a) (ha : a + m + b + 1 ≤ 8990) : ∀ (l : List Q2) (vs : List Rat) (q : Q2) (v : Rat), IsL b l vs → Shr D vs → Is (a + m) q v → Dn D v → 0 ≤ v → v + vs.sum ≤ ((2 ^ m : Nat) : Rat) →
    ∃ r, foldO (fun (i4 : Int × Int) (s2 : Int × Int) => ((N_plus s2 i4).bind fun total_5 => some total_5)) l q = some r ∧ foldO (fun (i4 : Int × Int) (s2 : Int × Int) => ((N__law_plus s2 i4).bind fun total_5 => some total_5)) l q = some r ∧ Is (a + m) r (v + vs.sum)
  | [], [], q, v, _, _, hq, _, _, _ => ⟨q, rfl, rfl, by show Is (a + m) q (v + 0); rw [show v + (0 : Rat) = v by grind]; exact hq⟩
  | p :: l, x :: vs, q, v, hl, hs, hq, hv, v0, ht => by
    rw [List.sum_cons] at ht
    have x0 := hs.nn x List.mem_cons_self
    have sn := (le_sum fun z hz => hs.nn z (List.mem_cons_of_mem _ hz)).1
    obtain ⟨r, r1, r2⟩ := pplus hq hl.1 (by omega)
    obtain ⟨r', r1', r2'⟩ := lplus hq hl.1 (by omega)
    have e : r' = r := r2'.uniq r2
    subst e
    have vd := hv.add (hs.dn x List.mem_cons_self)
    have le : v + x ≤ ((2 ^ m : Nat) : Rat) := Rat.le_trans (show v + x ≤ v + (x + vs.sum) by grind) ht
    have r3 := Dn.isM (m := m) r2 hD hb vd (by grind) le
    have ht' : v + x + vs.sum ≤ ((2 ^ m : Nat) : Rat) := by rw [show v + x + vs.sum = v + (x + vs.sum) by grind]; exact ht
    obtain ⟨t, t1, t2, t3⟩ := sum_go hD hb ha l vs r' (v + x) hl.2 ⟨fun z hz => hs.dn z (List.mem_cons_of_mem _ hz), fun z hz => hs.nn z (List.mem_cons_of_mem _ hz)⟩ r3 vd (by grind) ht'
    refine ⟨t, ?_, ?_, by rw [List.sum_cons, show v + (x + vs.sum) = v + x + vs.sum by grind]; exact t3⟩
    · show ((N_plus q p).bind fun total_5 => some total_5).bind (foldO _ l) = _
      rw [r1]
      exact t1
    · show ((N__law_plus q p).bind fun total_5 => some total_5).bind (foldO _ l) = _
      rw [r1']
      exact t2
  | [], _ :: _, _, _, h, _, _, _, _, _ => h.elim
  | _ :: _, [], _, _, h, _, _, _, _, _ => h.elim
theorem sums_ok {D : Int} {a b m : Nat} (hD : 0 < D) (hb : D < 2 ^ a) (ha : a + m + b + 1 ≤ 8990) (h0 : 0 < a) {l : List Q2} {vs : List Rat} (hl : IsL b l vs) (hs : Shr D vs) (ht : vs.sum ≤ ((2 ^ m : Nat) : Rat)) :
    ∃ r, N_sum_of_ratios l = some r ∧ N_sum_of_ratios_1 l = some r ∧ N__law_sum l = some r ∧ Is (a + m) r vs.sum := by
  have z : ((0 : Int) : Rat) = 0 := rfl
  have zi : Is (a + m) ((0 : Int), (1 : Int)) ((0 : Int) : Rat) := is_int (by simpa using Nat.two_pow_pos (a + m)) (by omega)
  rw [z] at zi
  have e : (0 : Rat) + vs.sum = vs.sum := by grind
  obtain ⟨r, r1, r2, r3⟩ := sum_go hD hb ha l vs _ 0 hl hs zi (Dn.zero D) Rat.le_refl (by rw [e]; exact ht)
  rw [e] at r3
  refine ⟨r, ?_, ?_, ?_, r3⟩
  · unfold N_sum_of_ratios
    rw [Option.bind_some, r1]
    rfl
  · unfold N_sum_of_ratios_1
    rw [Option.bind_some, r1]
    rfl
  · unfold N__law_sum
    rw [Option.bind_some]
    exact fold_bind r2 rfl
def crs (ns : List Int) (S : Int) : List Rat := ns.map fun x : Int => (x : Rat) / (S : Rat)
theorem div_sum (S : Int) (hS : 0 < S) : ∀ ns : List Int, (crs ns S).sum * (S : Rat) = (ns.sum : Rat)
  | [] => by
    show (0 : Rat) * (S : Rat) = ((0 : Int) : Rat)
    rw [Rat.zero_mul]
    rfl
  | x :: ns => by
    have i := div_sum S hS ns
    have d := cast_pos hS
    have k : (x : Rat) / (S : Rat) * (S : Rat) = (x : Rat) := Rat.div_mul_cancel (Rat.ne_of_gt d)
    show ((x : Rat) / (S : Rat) + (crs ns S).sum) * (S : Rat) = ((x + ns.sum : Int) : Rat)
    rw [Rat.intCast_add, ← i]
    grind
theorem crs_sum {ns : List Int} {S : Int} (hS : 0 < S) (h : ns.sum = S) : (crs ns S).sum = 1 := by
  have i := div_sum S hS ns
  rw [h] at i
  have d := cast_pos hS
  have k := Rat.mul_div_cancel (a := (crs ns S).sum) (Rat.ne_of_gt d)
  rw [i] at k
  rw [← k, Rat.div_def, Rat.mul_inv_cancel _ (Rat.ne_of_gt d)]
theorem chr_go {S : Int} (hS : 0 < S) (hS2 : S ≤ 60) : ∀ ns : List Int, (∀ x ∈ ns, 0 ≤ x ∧ x ≤ S) → Chr S (ns.map fun x => rt x S) (crs ns S)
  | [], _ => ⟨trivial, ⟨fun x hx => (nomatch hx), fun x hx => (nomatch hx)⟩⟩
  | x :: ns, h => by
    have i := chr_go hS hS2 ns fun y hy => h y (List.mem_cons_of_mem _ hy)
    obtain ⟨x0, x1⟩ := h x List.mem_cons_self
    have d := cast_pos hS
    have k : (x : Rat) / (S : Rat) * (S : Rat) = (x : Rat) := Rat.div_mul_cancel (Rat.ne_of_gt d)
    have sz : Sz 6 (rt x S) := rt_sz hS (by omega) (by omega)
    have nn : (0 : Rat) ≤ (x : Rat) / (S : Rat) := by
      rw [Rat.div_def]
      exact Rat.mul_nonneg (Rat.intCast_nonneg.mpr x0) (Rat.le_of_lt (Rat.inv_pos.mpr d))
    refine ⟨⟨⟨sz, rt_val hS⟩, i.isl⟩, ⟨fun y hy => ?_, fun y hy => ?_⟩⟩ <;> rcases List.mem_cons.mp hy with e | e
    · rw [e]; exact ⟨x, k⟩
    · exact i.sh.dn y e
    · rw [e]; exact nn
    · exact i.sh.nn y e
theorem Chn.chr {l : List Q2} {ns : List Int} {S : Int} (h : Chn l ns S) : Chr S l (crs ns S) ∧ (crs ns S).sum = 1 ∧ l.length = ns.length := by
  refine ⟨?_, crs_sum h.pos h.sum, by rw [h.eq, List.length_map]⟩
  rw [h.eq]
  refine chr_go h.pos h.top ns fun x hx => ⟨h.nn x hx, ?_⟩
  have := sum_le h.nn x hx
  rw [h.sum] at this
  exact this
theorem chances_ok {l : List Q2} {ns : List Int} {S : Int} (h : Chn l ns S) : N_is_chances l = some true := by
  obtain ⟨c1, c2, c3⟩ := Chn.chr h
  have h1 := h.len; have h2 := h.pos; have h3 := h.top
  obtain ⟨r, _, r2, _, r3⟩ := sums_ok (m := 0) h.pos (show S < 2 ^ 6 by omega) (by decide) (by decide) c1.isl c1.sh (by rw [c2]; exact Rat.le_refl)
  rw [c2] at r3
  have o : r = ((1 : Int), (1 : Int)) := r3.uniq (is_int (i := 1) (n := 6) (by decide) (by decide))
  subst o
  unfold N_is_chances
  rw [c3]
  have k : (!(true && (decide ((2 : Int) ≤ ((ns).length : Int)) && decide (((ns).length : Int) ≤ (6 : Int))))) = false := by
    rw [decide_eq_true (by omega), decide_eq_true (by omega)]
    rfl
  rw [k]
  refine Ty.iteF rfl ?_
  rw [row_true c1.isl (fun p hp => c1.sh.nn p hp) c3]
  have any : compL (fun (i6 : (Int × Int)) => (some true)) (fun (i6 : (Int × Int)) => (some (decide ((100 : Int) < i6.2)))) l = some (l.map fun i => decide ((100 : Int) < i.2)) := compL_all (by omega) fun _ _ => rfl
  rw [any]
  have no : List.any (l.map fun i => decide ((100 : Int) < i.2)) id = false := by
    rw [List.any_map]
    refine List.any_eq_false.mpr fun q hq => ?_
    obtain ⟨v, _, v2⟩ := isL_mem c1.isl q hq
    have := v2.sz.bot
    have := v2.sz.pos
    have e6 : (2 : Nat) ^ 6 = 64 := by decide
    show ¬ (decide ((100 : Int) < q.2)) = true
    rw [decide_eq_true_eq]
    omega
  simp only [Option.bind_some]
  rw [no]
  refine Ty.iteF rfl ?_
  rw [r2]
  rfl
theorem check_ok {p : PondT} (hp : PondIn p) {l : List Q2} {ns : List Int} {S : Int} (h : Chn l ns S) : N_check_pond_and_chances p l = some () := by
  have c0 := hp.c0; have c1 := hp.c1; have r0 := hp.r0; have r1 := hp.r1
  have e : N_check_pond p = some () := by
    unfold N_check_pond N_is_pond
    have : andO (N_is_between p.1 (1 : Int) (8 : Int)) (N_is_between p.2 (1 : Int) p.1) = some true := by
      rw [between_ok, between_ok, decide_eq_true c0, decide_eq_true c1, decide_eq_true r0, decide_eq_true r1]
      rfl
    rw [this]
    rfl
  have e2 : N_check_chances l = some () := by
    unfold N_check_chances
    rw [chances_ok h]
    rfl
  unfold N_check_pond_and_chances
  rw [e, Option.bind_some, e2]
  rfl
theorem level_ok {p : PondT} {l : Int} (h0 : 0 ≤ l) (h1 : l ≤ p.1 - p.2) : N_check_level p l = some () := by
  unfold N_check_level N_count_of_levels
  simp only [Option.bind_some]
  rw [between_ok, decide_eq_true h0, decide_eq_true (by omega)]
  rfl
theorem check_months_ok {m : Int} (h0 : 0 ≤ m) (h1 : m ≤ 24) : N_check_months m = some () := by
  unfold N_check_months
  rw [between_ok, decide_eq_true h0, decide_eq_true h1]
  rfl
def sureQ (n : Nat) (l : Int) : List Q2 := (rg 0 n).map fun k => (bInt (decide (k = l)), (1 : Int))
def sureR (n : Nat) (l : Int) : List Rat := (rg 0 n).map fun k => ((bInt (decide (k = l)) : Int) : Rat)
theorem bInt_in (b : Bool) : bInt b = 0 ∨ bInt b = 1 := by cases b <;> first | exact Or.inl rfl | exact Or.inr rfl
theorem sure_isl (l : Int) : ∀ ks : List Int, IsL 1 (ks.map fun k => (bInt (decide (k = l)), (1 : Int))) (ks.map fun k => ((bInt (decide (k = l)) : Int) : Rat))
  | [] => trivial
  | k :: ks => ⟨is_int (by rcases bInt_in (decide (k = l)) with e | e <;> rw [e] <;> decide) (by decide), sure_isl l ks⟩
theorem sure_shr (l : Int) (ks : List Int) : Shr 1 (ks.map fun k => ((bInt (decide (k = l)) : Int) : Rat)) := by
  constructor <;> intro x hx <;> obtain ⟨k, _, rfl⟩ := List.mem_map.mp hx
  · exact Dn.int 1 _
  · refine Rat.intCast_nonneg.mpr ?_
    rcases bInt_in (decide (k = l)) with e | e <;> omega
theorem sure_sum (l : Nat) : ∀ (n j : Nat), ((rg j n).map fun k => ((bInt (decide (k = (l : Int))) : Int) : Rat)).sum = if j ≤ l ∧ l < j + n then 1 else 0
  | 0, j => by rw [if_neg (by omega)]; rfl
  | n + 1, j => by
    have i := sure_sum l n (j + 1)
    show ((bInt (decide ((j : Int) = (l : Int))) : Int) : Rat) + ((rg (j + 1) n).map fun k => ((bInt (decide (k = (l : Int))) : Int) : Rat)).sum = _
    rw [i]
    by_cases c : j = l
    · subst c
      rw [decide_eq_true rfl, if_neg (by omega), if_pos (by omega)]
      show ((1 : Int) : Rat) + 0 = 1
      grind
    · rw [decide_eq_false (by omega)]
      have z : ((bInt false : Int) : Rat) = 0 := rfl
      rw [z]
      by_cases c2 : j + 1 ≤ l ∧ l < j + 1 + n
      · rw [if_pos c2, if_pos (by omega)]
        grind
      · rw [if_neg c2, if_neg (by omega)]
        grind
theorem sure_of_ok {p : PondT} (hp : PondIn p) (l : Int) : N_sure_of p l = some (sureQ (lvs_n p) l) := by
  have c1 := hp.c1; have r0 := hp.r0; have r1 := hp.r1
  unfold N_sure_of N_count_of_levels
  rw [Option.bind_some]
  have e : p.1 - p.2 + 1 = ((lvs_n p : Nat) : Int) := by show _ = (((p.1 - p.2 + 1).toNat : Nat) : Int); omega
  rw [e, rg_eq (by show (p.1 - p.2 + 1).toNat ≤ _; omega), Option.bind_some]
  rw [compL_all (g := fun k => (bInt (decide (k = l)), (1 : Int))) (by rw [List.length_map, List.length_range']; show (p.1 - p.2 + 1).toNat ≤ _; omega) (fun k _ => by cases decide (k = l) <;> rfl)]
  rfl
def itr (p : PondT) (cs : List Rat) : Nat → List Rat → List Rat
  | 0, v => v
  | k + 1, v => itr p cs k (stp p cs v)
theorem pow_lt {S : Int} (h0 : 0 < S) (h : S ≤ 60) (k : Nat) : 0 < S ^ k ∧ S ^ k < 2 ^ (6 * k + 1) := by
  induction k with
  | zero => exact ⟨by rw [Int.pow_zero]; decide, by rw [Int.pow_zero]; decide⟩
  | succ k ih =>
    obtain ⟨a, b⟩ := ih
    rw [Int.pow_succ]
    refine ⟨Int.mul_pos a h0, ?_⟩
    have e : (2 : Int) ^ (6 * (k + 1) + 1) = 2 ^ (6 * k + 1) * 64 := by
      rw [show 6 * (k + 1) + 1 = (6 * k + 1) + 6 by omega, Int.pow_add]
      rfl
    rw [e]
    have m := Int.mul_le_mul (Int.le_of_lt b) h (by omega) (by omega)
    omega
theorem loop_ok {p : PondT} (hp : PondIn p) {C : List Q2} {ns : List Int} {S : Int} (h : Chn C ns S) : ∀ (ls : List Int) (k : Nat) (V : List Q2) (v : List Rat), k + ls.length ≤ 40 → IsL (6 * k + 1) V v → Shr (S ^ k) v → v.length = lvs_n p → v.sum = 1 →
    ∃ Q, foldO (fun (i4 : Int) (s2 : List Q2) => ((N_month_later p C s2).bind fun shares_5 => some shares_5)) ls V = some Q ∧ foldO (fun (i24 : Int) (s22 : List Q2) => ((N__law_step p C s22).bind fun due_25 => some due_25)) ls V = some Q ∧ IsL (6 * (k + ls.length) + 1) Q (itr p (crs ns S) ls.length v) ∧ Shr (S ^ (k + ls.length)) (itr p (crs ns S) ls.length v) ∧ (itr p (crs ns S) ls.length v).length = lvs_n p ∧ (itr p (crs ns S) ls.length v).sum = 1
  | [], k, V, v, _, hV, hv, hl, ht => ⟨V, rfl, rfl, hV, hv, hl, ht⟩
  | x :: ls, k, V, v, hk, hV, hv, hl, ht => by
    rw [List.length_cons] at hk
    obtain ⟨c1, c2, c3⟩ := Chn.chr h
    obtain ⟨p0, p1⟩ := pow_lt h.pos h.top k
    obtain ⟨q0, q1⟩ := pow_lt h.pos h.top (k + 1)
    rw [Int.pow_succ] at q1
    have len := h.len
    obtain ⟨Q, g1, g2, g3, g4, g5, g6⟩ := later_ok hp p0 h.pos q1 (by omega) (by omega) c1 c2 (by omega) hV hv hl (by rw [ht]; exact Rat.le_refl)
    rw [← Int.pow_succ] at g4
    obtain ⟨R, r1, r2, r3, r4, r5, r6⟩ := loop_ok hp h ls (k + 1) Q _ (by omega) g3 g4 g5 (by rw [g6, ht])
    have e : k + 1 + ls.length = k + (x :: ls).length := by rw [List.length_cons]; omega
    rw [e] at r3 r4
    refine ⟨R, ?_, ?_, r3, r4, r5, r6⟩
    · show ((N_month_later p C V).bind fun shares_5 => some shares_5).bind (foldO _ ls) = _
      rw [g1]
      exact r1
    · show ((N__law_step p C V).bind fun due_25 => some due_25).bind (foldO _ ls) = _
      rw [g2]
      exact r2
theorem months_later_ok {p : PondT} (hp : PondIn p) {C : List Q2} {ns : List Int} {S : Int} (h : Chn C ns S) {l : Int} (l0 : 0 ≤ l) (l1 : l ≤ p.1 - p.2) {m : Nat} (hm : m ≤ 24) :
    ∃ Q, N_months_later p C l (m : Int) = some Q ∧ foldO (fun (i24 : Int) (s22 : List Q2) => ((N__law_step p C s22).bind fun due_25 => some due_25)) (rg 0 m) (sureQ (lvs_n p) l) = some Q ∧ IsL (6 * m + 1) Q (itr p (crs ns S) m (sureR (lvs_n p) l)) ∧ Shr (S ^ m) (itr p (crs ns S) m (sureR (lvs_n p) l)) ∧ (itr p (crs ns S) m (sureR (lvs_n p) l)).length = lvs_n p ∧ (itr p (crs ns S) m (sureR (lvs_n p) l)).sum = 1 := by
  obtain ⟨k, rfl⟩ : ∃ k : Nat, l = (k : Int) := ⟨l.toNat, by omega⟩
  have ss : (sureR (lvs_n p) (k : Int)).sum = 1 := by
    have := sure_sum k (lvs_n p) 0
    rw [if_pos ⟨by omega, by show k < 0 + (p.1 - p.2 + 1).toNat; omega⟩] at this
    exact this
  have sl : (sureR (lvs_n p) (k : Int)).length = lvs_n p := by unfold sureR; rw [List.length_map, List.length_map, List.length_range']
  have lr : (rg 0 m).length = m := by rw [List.length_map, List.length_range']
  obtain ⟨Q, g1, g2, g3, g4, g5, g6⟩ := loop_ok hp h (rg 0 m) 0 (sureQ (lvs_n p) (k : Int)) (sureR (lvs_n p) (k : Int)) (by rw [lr]; omega) (sure_isl _ _) (by rw [Int.pow_zero]; exact sure_shr _ _) sl ss
  rw [lr] at g3 g4 g5 g6
  rw [Nat.zero_add] at g3 g4
  refine ⟨Q, ?_, g2, g3, g4, g5, g6⟩
  unfold N_months_later
  rw [sure_of_ok hp, Option.bind_some, rg_eq (by omega), Option.bind_some, g1]
  rfl
end Po
namespace Ty
open PySem PySem.Spec PyProof.Rows L2 DN
theorem alike_rows {l : List Q2} (h : l.length ≤ 1000000) : alikeT 3 (eR (e2 eI eI)) (eR (e2 eI eI)) l l = some true := by
  have := alk_R (alk_2 (alk_I 1) (alk_I 1)) l l h
  rw [decide_eq_true rfl] at this
  exact this
def dot : List Int → List Int → Int
  | x :: xs, c :: cs => x * c + dot xs cs
  | _, _ => 0
end Ty
namespace L24
open PySem PySem.Spec PyProof.Rows L2 DN Ty Po
theorem TheLaw : Law := by
  intro p C hp ⟨ns, S, h⟩
  have c0 := hp.c0; have c1 := hp.c1; have r0 := hp.r0; have r1 := hp.r1
  show 0 < p.1 - p.2 + 1 ∧ p.1 - p.2 + 1 ≤ 1000000 ∧ ∀ l : Int, 0 ≤ l → l < p.1 - p.2 + 1 → ∀ m : Int, 0 ≤ m → m < 7 → N_tail p C (p.1 - p.2 + 1) l m = some true
  refine ⟨by omega, by omega, fun l l0 l1 m m0 m1 => ?_⟩
  obtain ⟨k, rfl⟩ : ∃ k : Nat, m = (k : Int) := ⟨m.toNat, by omega⟩
  obtain ⟨Q, g1, g2, g3, g4, g5, g6⟩ := months_later_ok hp h l0 (by omega) (m := k) (by omega)
  obtain ⟨p0, p1⟩ := pow_lt h.pos h.top k
  obtain ⟨r, _, _, s1, s2⟩ := sums_ok (m := 0) p0 p1 (b := 6 * k + 1) (by omega) (by omega) g3 g4 (by rw [g6]; exact Rat.le_refl)
  rw [g6] at s2
  have o : r = ((1 : Int), (1 : Int)) := s2.uniq (is_int (i := 1) (n := 6) (by decide) (by decide))
  subst o
  have e : p.1 - p.2 + 1 = ((lvs_n p : Nat) : Int) := by show _ = (((p.1 - p.2 + 1).toNat : Nat) : Int); omega
  have ln : lvs_n p ≤ 8 := by show (p.1 - p.2 + 1).toNat ≤ 8; omega
  unfold N_tail
  rw [e, rg_eq (by omega), Option.bind_some, compL_all (g := fun k => (bInt (decide (k = l)), (1 : Int))) (by rw [List.length_map, List.length_range']; omega) (fun k _ => rfl), Option.bind_some, rg_eq (by omega), Option.bind_some]
  show (foldO _ (rg 0 k) (sureQ (lvs_n p) l)).bind _ = _
  rw [g2, Option.bind_some]
  have st : N_pond_steps p C l (k : Int) = some Q := by
    unfold N_pond_steps
    rw [check_ok hp h, Option.bind_some, level_ok l0 (by omega), Option.bind_some, check_months_ok (by omega) (by omega), Option.bind_some, g1]
  rw [st, s1]
  simp only [Option.bind_some]
  rw [alike_rows (by have := g3.len; omega)]
  rfl
end L24
set_option maxHeartbeats 0
namespace L24
open PySem PySem.Spec PyProof.Rows L2 DN Ty
theorem facts {w : World} {K : PySem.W.Frag} {h : Heap} {mg : Str → Option Value} {f : Addr} (X : K.In h) (G : h.Ns mainGlobals mg) (hfa : mg ("law" : Str) = some (.ref f)) (c : He.SaysX fas fns [] tfs exs w h K) : LamX.LawAtS PySem.Challenge.rw_damworks_k24_whole_pond_steps w K CX0 9 63 "script" mg f h := by
  have e := hfa.symm.trans (He.glo_ok X G (c.t.d.fact 31 (f := .glo "law") rfl))
  cases e
  have T : Txt K mg := ⟨He.free_ok X G (c.t.d.fact 32 (f := .free "abs") rfl), He.free_ok X G (c.t.d.fact 33 (f := .free "all") rfl), He.free_ok X G (c.t.d.fact 34 (f := .free "any") rfl), He.free_ok X G (c.t.d.fact 35 (f := .free "bool") rfl), He.free_ok X G (c.t.d.fact 36 (f := .free "enumerate") rfl), He.free_ok X G (c.t.d.fact 37 (f := .free "int") rfl), He.free_ok X G (c.t.d.fact 38 (f := .free "isinstance") rfl), He.free_ok X G (c.t.d.fact 39 (f := .free "len") rfl), He.free_ok X G (c.t.d.fact 40 (f := .free "list") rfl), He.free_ok X G (c.t.d.fact 41 (f := .free "min") rfl), He.free_ok X G (c.t.d.fact 42 (f := .free "range") rfl), He.free_ok X G (c.t.d.fact 43 (f := .free "str") rfl), He.free_ok X G (c.t.d.fact 44 (f := .free "sum") rfl), He.free_ok X G (c.t.d.fact 45 (f := .free "tuple") rfl), PySem.W.mg_of X G (He.eqO_ok (show He.eqO (PySem.W.nsIn K mainGlobals "gcd") (some (some (.builtin "math.gcd"))) = true from c.more)), He.int_ok X G (c.t.d.fact 46 (f := .int "LEAST_INFLOWS" 2) rfl), He.int_ok X G (c.t.d.fact 47 (f := .int "MOST_CAPACITY" 8) rfl), He.int_ok X G (c.t.d.fact 48 (f := .int "MOST_INFLOWS" 6) rfl), He.int_ok X G (c.t.d.fact 49 (f := .int "MOST_MONTHS" 24) rfl), He.int_ok X G (c.t.d.fact 50 (f := .int "MOST_OF_CHANCE" 100) rfl)⟩
  obtain ⟨fd_is_whole, E_is_whole⟩ := c.t.d.def_ 0 (d := dd "is_whole" 8) rfl
  obtain ⟨cd_is_whole, D_is_whole⟩ := df_of (st := top 8) E_is_whole
  obtain ⟨fd_is_between, E_is_between⟩ := c.t.d.def_ 1 (d := dd "is_between" 9) rfl
  obtain ⟨cd_is_between, D_is_between⟩ := df_of (st := top 9) E_is_between
  obtain ⟨fd_is_ratio, E_is_ratio⟩ := c.t.d.def_ 2 (d := dd "is_ratio" 10) rfl
  obtain ⟨cd_is_ratio, D_is_ratio⟩ := df_of (st := top 10) E_is_ratio
  obtain ⟨fd_is_row_of_ratios, E_is_row_of_ratios⟩ := c.t.d.def_ 3 (d := dd "is_row_of_ratios" 11) rfl
  have D_is_row_of_ratios := df_gen (st := top 11) E_is_row_of_ratios
  obtain ⟨fd_ratio, E_ratio⟩ := c.t.d.def_ 4 (d := dd "ratio" 12) rfl
  obtain ⟨cd_ratio, D_ratio⟩ := df_of (st := top 12) E_ratio
  obtain ⟨fd_plus, E_plus⟩ := c.t.d.def_ 5 (d := dd "plus" 13) rfl
  obtain ⟨cd_plus, D_plus⟩ := df_of (st := top 13) E_plus
  obtain ⟨fd_times, E_times⟩ := c.t.d.def_ 6 (d := dd "times" 14) rfl
  obtain ⟨cd_times, D_times⟩ := df_of (st := top 14) E_times
  obtain ⟨fd_sum_of_ratios, E_sum_of_ratios⟩ := c.t.d.def_ 7 (d := dd "sum_of_ratios" 15) rfl
  obtain ⟨cd_sum_of_ratios, D_sum_of_ratios⟩ := df_of (st := top 15) E_sum_of_ratios
  obtain ⟨fd_is_pond, E_is_pond⟩ := c.t.d.def_ 8 (d := dd "is_pond" 22) rfl
  obtain ⟨cd_is_pond, D_is_pond⟩ := df_of (st := top 22) E_is_pond
  obtain ⟨fd_is_chances, E_is_chances⟩ := c.t.d.def_ 9 (d := dd "is_chances" 23) rfl
  obtain ⟨cd_is_chances, D_is_chances⟩ := df_of (st := top 23) E_is_chances
  obtain ⟨fd_check_chances, E_check_chances⟩ := c.t.d.def_ 10 (d := dd "check_chances" 24) rfl
  obtain ⟨cd_check_chances, D_check_chances⟩ := df_of (st := top 24) E_check_chances
  obtain ⟨fd_check_pond, E_check_pond⟩ := c.t.d.def_ 11 (d := dd "check_pond" 25) rfl
  obtain ⟨cd_check_pond, D_check_pond⟩ := df_of (st := top 25) E_check_pond
  obtain ⟨fd_check_pond_and_chances, E_check_pond_and_chances⟩ := c.t.d.def_ 12 (d := dd "check_pond_and_chances" 26) rfl
  obtain ⟨cd_check_pond_and_chances, D_check_pond_and_chances⟩ := df_of (st := top 26) E_check_pond_and_chances
  obtain ⟨fd_count_of_levels, E_count_of_levels⟩ := c.t.d.def_ 13 (d := dd "count_of_levels" 27) rfl
  obtain ⟨cd_count_of_levels, D_count_of_levels⟩ := df_of (st := top 27) E_count_of_levels
  obtain ⟨fd_check_level, E_check_level⟩ := c.t.d.def_ 14 (d := dd "check_level" 28) rfl
  obtain ⟨cd_check_level, D_check_level⟩ := df_of (st := top 28) E_check_level
  obtain ⟨fd_check_months, E_check_months⟩ := c.t.d.def_ 15 (d := dd "check_months" 29) rfl
  obtain ⟨cd_check_months, D_check_months⟩ := df_of (st := top 29) E_check_months
  obtain ⟨fd_months_from, E_months_from⟩ := c.t.d.def_ 16 (d := dd "months_from" 30) rfl
  obtain ⟨cd_months_from, D_months_from⟩ := df_of (st := top 30) E_months_from
  obtain ⟨fd_month_later, E_month_later⟩ := c.t.d.def_ 17 (d := dd "month_later" 31) rfl
  obtain ⟨cd_month_later, D_month_later⟩ := df_of (st := top 31) E_month_later
  obtain ⟨fd_sure_of, E_sure_of⟩ := c.t.d.def_ 18 (d := dd "sure_of" 32) rfl
  obtain ⟨cd_sure_of, D_sure_of⟩ := df_of (st := top 32) E_sure_of
  obtain ⟨fd_months_later, E_months_later⟩ := c.t.d.def_ 19 (d := dd "months_later" 33) rfl
  obtain ⟨cd_months_later, D_months_later⟩ := df_of (st := top 33) E_months_later
  obtain ⟨fd_pond_steps, E_pond_steps⟩ := c.t.d.def_ 20 (d := dd "pond_steps" 34) rfl
  obtain ⟨cd_pond_steps, D_pond_steps⟩ := df_of (st := top 34) E_pond_steps
  obtain ⟨fd__law_alike, E__law_alike⟩ := c.t.d.def_ 21 (d := dd "_law_alike" 38) rfl
  obtain ⟨cd__law_alike, D__law_alike⟩ := df_of (st := top 38) E__law_alike
  obtain ⟨fd__law_ratio, E__law_ratio⟩ := c.t.d.def_ 22 (d := dd "_law_ratio" 39) rfl
  obtain ⟨cd__law_ratio, D__law_ratio⟩ := df_of (st := top 39) E__law_ratio
  obtain ⟨fd__law_plus, E__law_plus⟩ := c.t.d.def_ 23 (d := dd "_law_plus" 40) rfl
  obtain ⟨cd__law_plus, D__law_plus⟩ := df_of (st := top 40) E__law_plus
  obtain ⟨fd__law_by, E__law_by⟩ := c.t.d.def_ 24 (d := dd "_law_by" 41) rfl
  obtain ⟨cd__law_by, D__law_by⟩ := df_of (st := top 41) E__law_by
  obtain ⟨fd__law_sum, E__law_sum⟩ := c.t.d.def_ 25 (d := dd "_law_sum" 42) rfl
  obtain ⟨cd__law_sum, D__law_sum⟩ := df_of (st := top 42) E__law_sum
  obtain ⟨fd__law_month, E__law_month⟩ := c.t.d.def_ 26 (d := dd "_law_month" 46) rfl
  obtain ⟨cd__law_month, D__law_month⟩ := df_of (st := top 46) E__law_month
  obtain ⟨fd__law_step, E__law_step⟩ := c.t.d.def_ 27 (d := dd "_law_step" 47) rfl
  obtain ⟨cd__law_step, D__law_step⟩ := df_of (st := top 47) E__law_step
  obtain ⟨fd__law_taken, E__law_taken⟩ := c.t.d.def_ 28 (d := dd "_law_taken" 36) rfl
  obtain ⟨cd__law_taken, D__law_taken⟩ := df_of (st := top 36) E__law_taken
  obtain ⟨fd__law_pick, E__law_pick⟩ := c.t.d.def_ 29 (d := dd "_law_pick" 37) rfl
  obtain ⟨cd__law_pick, D__law_pick⟩ := df_of (st := top 37) E__law_pick
  obtain ⟨fd__law_pond, E__law_pond⟩ := c.t.d.def_ 30 (d := dd "_law_pond" 45) rfl
  obtain ⟨cd__law_pond, D__law_pond⟩ := df_of (st := top 45) E__law_pond
  obtain ⟨fd_law, E_law⟩ := c.t.d.def_ 31 (d := dd "law" 50) rfl
  obtain ⟨cd_law, D_law⟩ := df_of (st := top 50) E_law
  have dis : decide (∀ P ∈ lsOf K tls, P.1 ∉ (tgs.map (He.cT K)).map (·.2) ∧ ∀ Q ∈ lsOf K tls, Q.1 = P.1 → Q = P) = true := decide_eq_true (fun P hP => nomatch hP)
  refine end_at2 (tg := tgs) (tl := tls) (of_decide_eq_true dis) (tf_ok X c) (FunD.bindsA (ps := ["script"]) E_law (fun _ _ _ _ _ _ us hl => match us, hl with | [_], _ => rfl)) fun base XB GB TB => ?_
  have tb_is_row_of_ratios := TB _ (List.mem_map_of_mem (f := He.cT K) (show (("is_row_of_ratios", none) : He.Defn) ∈ tfs by simp [tfs, tgs]))
  have tm_is_row_of_ratios : (He.cT K ("is_row_of_ratios", none)).2 ∈ (tgs.map (He.cT K)).map (·.2) := List.mem_map_of_mem (List.mem_map_of_mem (by simp [tgs]))
  have b_is_whole : Binds K fd_is_whole ["value"] [] := FunD.bindsN E_is_whole fun _ _ _ _ _ _ us hl => match us, hl with | [_], _ => rfl
  have C_is_whole : CF PySem.Challenge.rw_damworks_k24_whole_pond_steps.prog w K mg base ⟨(tgs.map (He.cT K)).map (·.2), lsOf K tls⟩ 1 "is_whole" 1 Ty.S_is_whole := CF.of (He.glo_ok X G (c.t.d.fact 0 (f := .glo "is_whole") rfl)) D_is_whole.kp b_is_whole (ok_is_whole T D_is_whole )
  have b_is_between : Binds K fd_is_between ["value", "least", "most"] [] := FunD.bindsN E_is_between fun _ _ _ _ _ _ us hl => match us, hl with | [_, _, _], _ => rfl
  have C_is_between : CF PySem.Challenge.rw_damworks_k24_whole_pond_steps.prog w K mg base ⟨(tgs.map (He.cT K)).map (·.2), lsOf K tls⟩ 2 "is_between" 3 Ty.S_is_between := CF.of (He.glo_ok X G (c.t.d.fact 1 (f := .glo "is_between") rfl)) D_is_between.kp b_is_between (ok_is_between T D_is_between C_is_whole)
  have b_is_ratio : Binds K fd_is_ratio ["value"] [] := FunD.bindsN E_is_ratio fun _ _ _ _ _ _ us hl => match us, hl with | [_], _ => rfl
  have C_is_ratio : CF PySem.Challenge.rw_damworks_k24_whole_pond_steps.prog w K mg base ⟨(tgs.map (He.cT K)).map (·.2), lsOf K tls⟩ 2 "is_ratio" 1 Ty.S_is_ratio := CF.of (He.glo_ok X G (c.t.d.fact 2 (f := .glo "is_ratio") rfl)) D_is_ratio.kp b_is_ratio (ok_is_ratio T D_is_ratio C_is_whole)
  have b_is_row_of_ratios : Binds K fd_is_row_of_ratios ["value", "count"] [] := FunD.bindsN E_is_row_of_ratios fun _ _ _ _ _ _ us hl => match us, hl with | [_, _], _ => rfl
  have C_is_row_of_ratios : CF PySem.Challenge.rw_damworks_k24_whole_pond_steps.prog w K mg base ⟨(tgs.map (He.cT K)).map (·.2), lsOf K tls⟩ 4 "is_row_of_ratios" 2 Ty.S_is_row_of_ratios := CF.of (He.glo_ok X G (c.t.d.fact 3 (f := .glo "is_row_of_ratios") rfl)) D_is_row_of_ratios.kp b_is_row_of_ratios (ok_is_row_of_ratios T tb_is_row_of_ratios tm_is_row_of_ratios D_is_row_of_ratios C_is_ratio)
  have b_ratio : Binds K fd_ratio ["top", "bottom"] [] := FunD.bindsN E_ratio fun _ _ _ _ _ _ us hl => match us, hl with | [_, _], _ => rfl
  have C_ratio : CF PySem.Challenge.rw_damworks_k24_whole_pond_steps.prog w K mg base ⟨(tgs.map (He.cT K)).map (·.2), lsOf K tls⟩ 1 "ratio" 2 Ty.S_ratio := CF.of (He.glo_ok X G (c.t.d.fact 4 (f := .glo "ratio") rfl)) D_ratio.kp b_ratio (ok_ratio T D_ratio )
  have b_plus : Binds K fd_plus ["one", "other"] [] := FunD.bindsN E_plus fun _ _ _ _ _ _ us hl => match us, hl with | [_, _], _ => rfl
  have C_plus : CF PySem.Challenge.rw_damworks_k24_whole_pond_steps.prog w K mg base ⟨(tgs.map (He.cT K)).map (·.2), lsOf K tls⟩ 2 "plus" 2 Ty.S_plus := CF.of (He.glo_ok X G (c.t.d.fact 5 (f := .glo "plus") rfl)) D_plus.kp b_plus (ok_plus T D_plus C_ratio)
  have b_times : Binds K fd_times ["one", "other"] [] := FunD.bindsN E_times fun _ _ _ _ _ _ us hl => match us, hl with | [_, _], _ => rfl
  have C_times : CF PySem.Challenge.rw_damworks_k24_whole_pond_steps.prog w K mg base ⟨(tgs.map (He.cT K)).map (·.2), lsOf K tls⟩ 2 "times" 2 Ty.S_times := CF.of (He.glo_ok X G (c.t.d.fact 6 (f := .glo "times") rfl)) D_times.kp b_times (ok_times T D_times C_ratio)
  have b_sum_of_ratios : Binds K fd_sum_of_ratios ["ratios"] [] := FunD.bindsN E_sum_of_ratios fun _ _ _ _ _ _ us hl => match us, hl with | [_], _ => rfl
  have C_sum_of_ratios : CF PySem.Challenge.rw_damworks_k24_whole_pond_steps.prog w K mg base ⟨(tgs.map (He.cT K)).map (·.2), lsOf K tls⟩ 3 "sum_of_ratios" 1 Ty.S_sum_of_ratios := CF.of (He.glo_ok X G (c.t.d.fact 7 (f := .glo "sum_of_ratios") rfl)) D_sum_of_ratios.kp b_sum_of_ratios (ok_sum_of_ratios T D_sum_of_ratios C_plus)
  have b_is_pond : Binds K fd_is_pond ["value"] [] := FunD.bindsN E_is_pond fun _ _ _ _ _ _ us hl => match us, hl with | [_], _ => rfl
  have C_is_pond : CF PySem.Challenge.rw_damworks_k24_whole_pond_steps.prog w K mg base ⟨(tgs.map (He.cT K)).map (·.2), lsOf K tls⟩ 3 "is_pond" 1 Ty.S_is_pond := CF.of (He.glo_ok X G (c.t.d.fact 8 (f := .glo "is_pond") rfl)) D_is_pond.kp b_is_pond (ok_is_pond T D_is_pond C_is_between)
  have b_is_chances : Binds K fd_is_chances ["value"] [] := FunD.bindsN E_is_chances fun _ _ _ _ _ _ us hl => match us, hl with | [_], _ => rfl
  have C_is_chances : CF PySem.Challenge.rw_damworks_k24_whole_pond_steps.prog w K mg base ⟨(tgs.map (He.cT K)).map (·.2), lsOf K tls⟩ 5 "is_chances" 1 Ty.S_is_chances := CF.of (He.glo_ok X G (c.t.d.fact 9 (f := .glo "is_chances") rfl)) D_is_chances.kp b_is_chances (ok_is_chances T D_is_chances C_is_row_of_ratios C_sum_of_ratios)
  have b_check_chances : Binds K fd_check_chances ["chances"] [] := FunD.bindsN E_check_chances fun _ _ _ _ _ _ us hl => match us, hl with | [_], _ => rfl
  have C_check_chances : CF PySem.Challenge.rw_damworks_k24_whole_pond_steps.prog w K mg base ⟨(tgs.map (He.cT K)).map (·.2), lsOf K tls⟩ 6 "check_chances" 1 Ty.S_check_chances := CF.of (He.glo_ok X G (c.t.d.fact 10 (f := .glo "check_chances") rfl)) D_check_chances.kp b_check_chances (ok_check_chances T D_check_chances C_is_chances)
  have b_check_pond : Binds K fd_check_pond ["pond"] [] := FunD.bindsN E_check_pond fun _ _ _ _ _ _ us hl => match us, hl with | [_], _ => rfl
  have C_check_pond : CF PySem.Challenge.rw_damworks_k24_whole_pond_steps.prog w K mg base ⟨(tgs.map (He.cT K)).map (·.2), lsOf K tls⟩ 4 "check_pond" 1 Ty.S_check_pond := CF.of (He.glo_ok X G (c.t.d.fact 11 (f := .glo "check_pond") rfl)) D_check_pond.kp b_check_pond (ok_check_pond T D_check_pond C_is_pond)
  have b_check_pond_and_chances : Binds K fd_check_pond_and_chances ["pond", "chances"] [] := FunD.bindsN E_check_pond_and_chances fun _ _ _ _ _ _ us hl => match us, hl with | [_, _], _ => rfl
  have C_check_pond_and_chances : CF PySem.Challenge.rw_damworks_k24_whole_pond_steps.prog w K mg base ⟨(tgs.map (He.cT K)).map (·.2), lsOf K tls⟩ 7 "check_pond_and_chances" 2 Ty.S_check_pond_and_chances := CF.of (He.glo_ok X G (c.t.d.fact 12 (f := .glo "check_pond_and_chances") rfl)) D_check_pond_and_chances.kp b_check_pond_and_chances (ok_check_pond_and_chances T D_check_pond_and_chances C_check_pond C_check_chances)
  have b_count_of_levels : Binds K fd_count_of_levels ["pond"] [] := FunD.bindsN E_count_of_levels fun _ _ _ _ _ _ us hl => match us, hl with | [_], _ => rfl
  have C_count_of_levels : CF PySem.Challenge.rw_damworks_k24_whole_pond_steps.prog w K mg base ⟨(tgs.map (He.cT K)).map (·.2), lsOf K tls⟩ 1 "count_of_levels" 1 Ty.S_count_of_levels := CF.of (He.glo_ok X G (c.t.d.fact 13 (f := .glo "count_of_levels") rfl)) D_count_of_levels.kp b_count_of_levels (ok_count_of_levels T D_count_of_levels )
  have b_check_level : Binds K fd_check_level ["pond", "level"] [] := FunD.bindsN E_check_level fun _ _ _ _ _ _ us hl => match us, hl with | [_, _], _ => rfl
  have C_check_level : CF PySem.Challenge.rw_damworks_k24_whole_pond_steps.prog w K mg base ⟨(tgs.map (He.cT K)).map (·.2), lsOf K tls⟩ 3 "check_level" 2 Ty.S_check_level := CF.of (He.glo_ok X G (c.t.d.fact 14 (f := .glo "check_level") rfl)) D_check_level.kp b_check_level (ok_check_level T D_check_level C_is_between C_count_of_levels)
  have b_check_months : Binds K fd_check_months ["months"] [] := FunD.bindsN E_check_months fun _ _ _ _ _ _ us hl => match us, hl with | [_], _ => rfl
  have C_check_months : CF PySem.Challenge.rw_damworks_k24_whole_pond_steps.prog w K mg base ⟨(tgs.map (He.cT K)).map (·.2), lsOf K tls⟩ 3 "check_months" 1 Ty.S_check_months := CF.of (He.glo_ok X G (c.t.d.fact 15 (f := .glo "check_months") rfl)) D_check_months.kp b_check_months (ok_check_months T D_check_months C_is_between)
  have b_months_from : Binds K fd_months_from ["pond", "chances", "level"] [] := FunD.bindsN E_months_from fun _ _ _ _ _ _ us hl => match us, hl with | [_, _, _], _ => rfl
  have C_months_from : CF PySem.Challenge.rw_damworks_k24_whole_pond_steps.prog w K mg base ⟨(tgs.map (He.cT K)).map (·.2), lsOf K tls⟩ 1 "months_from" 3 Ty.S_months_from := CF.of (He.glo_ok X G (c.t.d.fact 16 (f := .glo "months_from") rfl)) D_months_from.kp b_months_from (ok_months_from T D_months_from )
  have b_month_later : Binds K fd_month_later ["pond", "chances", "shares"] [] := FunD.bindsN E_month_later fun _ _ _ _ _ _ us hl => match us, hl with | [_, _, _], _ => rfl
  have C_month_later : CF PySem.Challenge.rw_damworks_k24_whole_pond_steps.prog w K mg base ⟨(tgs.map (He.cT K)).map (·.2), lsOf K tls⟩ 3 "month_later" 3 Ty.S_month_later := CF.of (He.glo_ok X G (c.t.d.fact 17 (f := .glo "month_later") rfl)) D_month_later.kp b_month_later (ok_month_later T D_month_later C_months_from C_plus C_times)
  have b_sure_of : Binds K fd_sure_of ["pond", "level"] [] := FunD.bindsN E_sure_of fun _ _ _ _ _ _ us hl => match us, hl with | [_, _], _ => rfl
  have C_sure_of : CF PySem.Challenge.rw_damworks_k24_whole_pond_steps.prog w K mg base ⟨(tgs.map (He.cT K)).map (·.2), lsOf K tls⟩ 2 "sure_of" 2 Ty.S_sure_of := CF.of (He.glo_ok X G (c.t.d.fact 18 (f := .glo "sure_of") rfl)) D_sure_of.kp b_sure_of (ok_sure_of T D_sure_of C_count_of_levels)
  have b_months_later : Binds K fd_months_later ["pond", "chances", "level", "months"] [] := FunD.bindsN E_months_later fun _ _ _ _ _ _ us hl => match us, hl with | [_, _, _, _], _ => rfl
  have C_months_later : CF PySem.Challenge.rw_damworks_k24_whole_pond_steps.prog w K mg base ⟨(tgs.map (He.cT K)).map (·.2), lsOf K tls⟩ 4 "months_later" 4 Ty.S_months_later := CF.of (He.glo_ok X G (c.t.d.fact 19 (f := .glo "months_later") rfl)) D_months_later.kp b_months_later (ok_months_later T D_months_later C_sure_of C_month_later)
  have b_pond_steps : Binds K fd_pond_steps ["pond", "chances", "level", "months"] [] := FunD.bindsN E_pond_steps fun _ _ _ _ _ _ us hl => match us, hl with | [_, _, _, _], _ => rfl
  have C_pond_steps : CF PySem.Challenge.rw_damworks_k24_whole_pond_steps.prog w K mg base ⟨(tgs.map (He.cT K)).map (·.2), lsOf K tls⟩ 8 "pond_steps" 4 Ty.S_pond_steps := CF.of (He.glo_ok X G (c.t.d.fact 20 (f := .glo "pond_steps") rfl)) D_pond_steps.kp b_pond_steps (ok_pond_steps T D_pond_steps C_check_pond_and_chances C_check_level C_check_months C_months_later)
  have b__law_alike : Binds K fd__law_alike ["found", "due"] [] := FunD.bindsN E__law_alike fun _ _ _ _ _ _ us hl => match us, hl with | [_, _], _ => rfl
  have C0 : CF PySem.Challenge.rw_damworks_k24_whole_pond_steps.prog w K mg base ⟨(tgs.map (He.cT K)).map (·.2), lsOf K tls⟩ 1 "_law_alike" 2 (Ty.S__law_alike 0) := CF.of (He.glo_ok X G (c.t.d.fact 21 (f := .glo "_law_alike") rfl)) D__law_alike.kp b__law_alike (ok__law_alike T D__law_alike)
  have C1 : CF PySem.Challenge.rw_damworks_k24_whole_pond_steps.prog w K mg base ⟨(tgs.map (He.cT K)).map (·.2), lsOf K tls⟩ 2 "_law_alike" 2 (Ty.S__law_alike 1) := CF.of (He.glo_ok X G (c.t.d.fact 21 (f := .glo "_law_alike") rfl)) D__law_alike.kp b__law_alike (okr__law_alike T D__law_alike C0)
  have C2 : CF PySem.Challenge.rw_damworks_k24_whole_pond_steps.prog w K mg base ⟨(tgs.map (He.cT K)).map (·.2), lsOf K tls⟩ 3 "_law_alike" 2 (Ty.S__law_alike 2) := CF.of (He.glo_ok X G (c.t.d.fact 21 (f := .glo "_law_alike") rfl)) D__law_alike.kp b__law_alike (okr__law_alike T D__law_alike C1)
  have C__law_alike : CF PySem.Challenge.rw_damworks_k24_whole_pond_steps.prog w K mg base ⟨(tgs.map (He.cT K)).map (·.2), lsOf K tls⟩ 4 "_law_alike" 2 (Ty.S__law_alike 3) := CF.of (He.glo_ok X G (c.t.d.fact 21 (f := .glo "_law_alike") rfl)) D__law_alike.kp b__law_alike (okr__law_alike T D__law_alike C2)
  have b__law_ratio : Binds K fd__law_ratio ["top", "bottom"] [] := FunD.bindsN E__law_ratio fun _ _ _ _ _ _ us hl => match us, hl with | [_, _], _ => rfl
  have C__law_ratio : CF PySem.Challenge.rw_damworks_k24_whole_pond_steps.prog w K mg base ⟨(tgs.map (He.cT K)).map (·.2), lsOf K tls⟩ 1 "_law_ratio" 2 Ty.S__law_ratio := CF.of (He.glo_ok X G (c.t.d.fact 22 (f := .glo "_law_ratio") rfl)) D__law_ratio.kp b__law_ratio (ok__law_ratio (fun _ => FUEL) T D__law_ratio )
  have b__law_plus : Binds K fd__law_plus ["one", "other"] [] := FunD.bindsN E__law_plus fun _ _ _ _ _ _ us hl => match us, hl with | [_, _], _ => rfl
  have C__law_plus : CF PySem.Challenge.rw_damworks_k24_whole_pond_steps.prog w K mg base ⟨(tgs.map (He.cT K)).map (·.2), lsOf K tls⟩ 2 "_law_plus" 2 Ty.S__law_plus := CF.of (He.glo_ok X G (c.t.d.fact 23 (f := .glo "_law_plus") rfl)) D__law_plus.kp b__law_plus (ok__law_plus T D__law_plus C__law_ratio)
  have b__law_by : Binds K fd__law_by ["one", "other"] [] := FunD.bindsN E__law_by fun _ _ _ _ _ _ us hl => match us, hl with | [_, _], _ => rfl
  have C__law_by : CF PySem.Challenge.rw_damworks_k24_whole_pond_steps.prog w K mg base ⟨(tgs.map (He.cT K)).map (·.2), lsOf K tls⟩ 2 "_law_by" 2 Ty.S__law_by := CF.of (He.glo_ok X G (c.t.d.fact 24 (f := .glo "_law_by") rfl)) D__law_by.kp b__law_by (ok__law_by T D__law_by C__law_ratio)
  have b__law_sum : Binds K fd__law_sum ["some"] [] := FunD.bindsN E__law_sum fun _ _ _ _ _ _ us hl => match us, hl with | [_], _ => rfl
  have C__law_sum : CF PySem.Challenge.rw_damworks_k24_whole_pond_steps.prog w K mg base ⟨(tgs.map (He.cT K)).map (·.2), lsOf K tls⟩ 3 "_law_sum" 1 Ty.S__law_sum := CF.of (He.glo_ok X G (c.t.d.fact 25 (f := .glo "_law_sum") rfl)) D__law_sum.kp b__law_sum (ok__law_sum T D__law_sum C__law_plus)
  have b__law_month : Binds K fd__law_month ["pond", "level", "inflow"] [] := FunD.bindsN E__law_month fun _ _ _ _ _ _ us hl => match us, hl with | [_, _, _], _ => rfl
  have C__law_month : CF PySem.Challenge.rw_damworks_k24_whole_pond_steps.prog w K mg base ⟨(tgs.map (He.cT K)).map (·.2), lsOf K tls⟩ 1 "_law_month" 3 Ty.S__law_month := CF.of (He.glo_ok X G (c.t.d.fact 26 (f := .glo "_law_month") rfl)) D__law_month.kp b__law_month (ok__law_month T D__law_month )
  have b__law_step : Binds K fd__law_step ["pond", "chances", "some"] [] := FunD.bindsN E__law_step fun _ _ _ _ _ _ us hl => match us, hl with | [_, _, _], _ => rfl
  have C__law_step : CF PySem.Challenge.rw_damworks_k24_whole_pond_steps.prog w K mg base ⟨(tgs.map (He.cT K)).map (·.2), lsOf K tls⟩ 3 "_law_step" 3 Ty.S__law_step := CF.of (He.glo_ok X G (c.t.d.fact 27 (f := .glo "_law_step") rfl)) D__law_step.kp b__law_step (ok__law_step T D__law_step C__law_month C__law_plus C__law_by)
  have b__law_taken : Binds K fd__law_taken ["row", "many"] [] := FunD.bindsN E__law_taken fun _ _ _ _ _ _ us hl => match us, hl with | [_, _], _ => rfl
  have C__law_taken : CW PySem.Challenge.rw_damworks_k24_whole_pond_steps.prog w K mg base ⟨(tgs.map (He.cT K)).map (·.2), lsOf K tls⟩ 1 "_law_taken" 1 cTaken := ⟨_, fd__law_taken, _, (He.glo_ok X G (c.t.d.fact 28 (f := .glo "_law_taken") rfl)), D__law_taken.kp, b__law_taken, ok_taken T D__law_taken ⟩
  have b__law_pick : Binds K fd__law_pick ["row", "things"] [] := FunD.bindsN E__law_pick fun _ _ _ _ _ _ us hl => match us, hl with | [_, _], _ => rfl
  have C__law_pick : CW PySem.Challenge.rw_damworks_k24_whole_pond_steps.prog w K mg base ⟨(tgs.map (He.cT K)).map (·.2), lsOf K tls⟩ 2 "_law_pick" 1 cPick := ⟨_, fd__law_pick, _, (He.glo_ok X G (c.t.d.fact 29 (f := .glo "_law_pick") rfl)), D__law_pick.kp, b__law_pick, ok_pick T D__law_pick C__law_taken⟩
  have b__law_pond : Binds K fd__law_pond ["row"] [] := FunD.bindsN E__law_pond fun _ _ _ _ _ _ us hl => match us, hl with | [_], _ => rfl
  have C__law_pond : CW PySem.Challenge.rw_damworks_k24_whole_pond_steps.prog w K mg base ⟨(tgs.map (He.cT K)).map (·.2), lsOf K tls⟩ 3 "_law_pond" 0 cPond := ⟨_, fd__law_pond, _, (He.glo_ok X G (c.t.d.fact 30 (f := .glo "_law_pond") rfl)), D__law_pond.kp, b__law_pond, ok_pond T D__law_pond C__law_ratio C__law_taken C__law_pick⟩
  exact ok_law T D_law  C__law_step C__law_alike C_pond_steps C__law_sum C__law_pond C__law_taken (law_of TheLaw)
end L24
open PySem PySem.W PySem.Calls PyProof.Rows
theorem PySem.Challenge.cw_damworks_k24_whole_pond_steps_holds : PySem.Challenge.rw_damworks_k24_whole_pond_steps.Holds := by
  w_on; o_law
  refine HandSHeadRun.head_imp (r := L24.TheRow) (q := view L24.TheRow.prog [0, 50]) (H := L24.hk) (ob := L24.ob) (M := 9000) (loose := L24.others) (d := HandSHeadRun.topDef L24.TheRow.prog 50) (kwd := []) L24.ob_eq
    L24.run (by kernel_rfl) (by kernel_rfl) (by kernel_rfl) (by rfl) (by first | assumption | decide +kernel) (by decide +kernel) ⟨rfl, rfl, rfl, rfl, rfl, by decide +kernel⟩ ?hw ?hc
  case hw => w_witness2
  case hc =>
    refine LamX.walk_ofTsE (l := PySem.Challenge.rw_damworks_k24_whole_pond_steps) (n := 63) (k := 9) (x := "script") (CX := fun _ => L2.CX0) rfl (by decide) (by kernel_rfl) ⟨rfl, by decide, by decide⟩ ?F (fun _ _ _ _ _ z => z)
    intro w mg fa h Y G hmg0
    obtain ⟨K, KX, c⟩ := Y
    have hmg : mg ("law" : PySem.Str) = some (.ref fa) := by
      have e : (HandSHeadRun.topDef L24.TheRow.prog 50).name = ("law" : PySem.Str) := by kernel_rfl
      rw [← e]
      exact hmg0
    exact ⟨K, KX, L24.facts KX G hmg c⟩
