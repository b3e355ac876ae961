import PyProof.Rows.All
import Wide.All
import OpenK.AllK
import Wide.FinOn
import HandS.ForMost
import HandS.GenList
import HandS.AnyAll
import PyProof.TupleOfGen
import HandS.SortKw
import HandS.Zip
import HandS.Conv
import HandS.TupSets
import HandS.IsInst
import HandS.Wide
import HandS.Flow
import KE.GoesMore
import PySem.Challenge.RW_livingclock_k02_clocks_refused
import HandS.TupAny
import HandS.Nested
import HandS.WordsExc
import HandS.ExcInit
import OpenK.KWalk
import KE.KEqSeq
import HandS.ExcOwn
import HandS.ExcField
import KE.KExcIs
import KE.KTryMore
import HandS.FStr
import PyProof.FString2
import HandS.SetFor
import HandS.Strs
import KE.SortData
import PyProof.LongRange
import HandS.TupMul
import HandS.EndTab
import HandS.EndBits
import KE.KNest
set_option Elab.async false
set_option linter.all false
set_option maxRecDepth 100000
set_option maxHeartbeats 4000000
-- G1
namespace LC
open PySem PySem.Spec PyProof.Rows L2 GenW

/-- where the parts of a generator expression run: its own frame over the frame that walks it -/
abbrev gx (X : Cx) (B : Around) (s : Shared) (H : Hp) (cenv : Env) (fp : List Addr) : Cx :=
  { X with A := B, s_0 := s, H_0 := H, env := cenv, outer := X.stack, stack := cenv :: X.stack, ex := fp, fn := fun _ => false, pn := [], xe := fun _ _ => False }

/-- the names of a generator expression's scope: its own ones (places in N), the walked thing, captured ones -/
structure GScp (N : List Str) (sc scope : Scope) (own : List (Str × Nat)) : Prop where
  kind : scope.kind = .function
  co : scope.isCoroutine = false
  cell : ∀ y ∈ scope.names, y.2 ≠ .cell
  dot : scope.names.lookup (".0" : Str) = some NameKind.local
  uniq : ∀ y ∈ scope.names, scope.names.lookup y.1 = some y.2
  ix : ∀ p ∈ own, N[p.2]? = some p.1
  free : ∀ y ∈ scope.names, y.2 = .free → sc.names.lookup y.1 = some .cell ∨ sc.names.lookup y.1 = some .free
  own : ∀ y ∈ scope.names, y.2 = .local → y.1 ∈ own.map (·.1) ∨ y.1 ∉ N
def gscpC (N : List Str) (sc scope : Scope) (own : List (Str × Nat)) : Bool :=
  (match scope.kind with | .function => true | _ => false) && !scope.isCoroutine && (scope.names.all fun y => match y.2 with | .cell => false | _ => true) && decide (scope.names.lookup (".0" : Str) = some NameKind.local) &&
  (scope.names.all fun y => decide (scope.names.lookup y.1 = some y.2)) && (own.all fun p => decide (N[p.2]? = some p.1)) &&
    (scope.names.all fun y => match y.2 with
      | .free => (match sc.names.lookup y.1 with | some .cell => true | some .free => true | _ => false)
      | .local => decide (y.1 ∈ own.map (·.1)) || decide (y.1 ∉ N)
      | _ => true)
theorem gscp_by {N : List Str} {sc scope : Scope} {own : List (Str × Nat)} (h : gscpC N sc scope own = true) : GScp N sc scope own := by
  unfold gscpC at h
  simp only [Bool.and_eq_true, List.all_eq_true, decide_eq_true_eq, Bool.not_eq_true'] at h
  obtain ⟨⟨⟨⟨⟨⟨h1, h2⟩, h3⟩, h4⟩, h5⟩, h6⟩, h7⟩ := h
  refine ⟨?_, h2, fun y hy e => ?_, h4, h5, h6, fun y hy e => ?_, fun y hy e => ?_⟩
  · split at h1
    · assumption
    · cases h1
  · have := h3 y hy
    rw [e] at this
    cases this
  · have := h7 y hy
    rw [e] at this
    dsimp only at this
    split at this
    · exact .inl (by assumption)
    · exact .inr (by assumption)
    · cases this
  · have := h7 y hy
    rw [e] at this
    dsimp only at this
    rcases Bool.or_eq_true_iff.mp this with z | z
    · exact .inl (of_decide_eq_true z)
    · exact .inr (of_decide_eq_true z)

section
variable {X : Cx} {pins : List (Addr × Obj)} {σ : L2.St} {H : Hp} {s : Shared}
theorem gx_frames {A : Around} {ge : Expr} {it : Value} {env : Env} {l : List Env} (h : A.frames = some l) (hk : (Code.compLoop ge 0 it .none env).envs = [env]) :
    (A.over (.compLoop ge 0 it .none env) []).frames = some (env :: l) := by
  show pushEnvs (Code.envs _) (pushEnvs (envsOf []) A.frames) = _
  rw [hk, h]
  rfl

/-- the expression's own frame, just made -/
theorem gx_start {scope : Scope} {own : List (Str × Nat)} {fp : List Addr} {B : Around} {code : Value} {bi : Addr} {h' : Heap} {tk : Nat} {gs : Array GenState} {m : Str → Option Value}
    (I : Inv X pins σ H s) (ok : GScp X.N X.env.scope scope own) (hN : X.N.Nodup) (hfp : ∀ b ∈ fp, FpOk X pins H b ∧ b < s.heap.objs.size) (hbi : bi = builtinsNs)
    (hfr : B.frames = some (genEnv scope (cloFrom X.env.cells scope.names []) s.heap.objs.size code bi X.env :: X.stack)) (hB : B.handled = none)
    (kp : ∀ b o, s.heap.get? b = some o → h'.get? b = some o) (hns : h'.Ns s.heap.objs.size m) (hgs : AllBare gs) :
    Inv (gx X B s H (genEnv scope (cloFrom X.env.cells scope.names []) s.heap.objs.size code bi X.env) fp) [] (wipe σ (own.map (·.2))) H { s with heap := h', gens := gs, toks := tk } := by
  have hfree : ∀ y ∈ scope.names, y.2 = .free → ∃ c, X.env.cells.lookup y.1 = some c := fun y hy e => by
    rcases ok.free y hy e with k | k
    · exact I.ok.has _ (.inl k)
    · exact I.ok.has _ (.inr k)
  generalize hcenv : genEnv scope (cloFrom X.env.cells scope.names []) s.heap.objs.size code bi X.env = cenv at hfr ⊢
  have hL : cenv.locals = s.heap.objs.size := by rw [← hcenv]; rfl
  have hcl : cenv.cells = cloFrom X.env.cells scope.names [] := by rw [← hcenv]; rfl
  have hsc : cenv.scope = scope := by rw [← hcenv]; rfl
  have mem : ∀ {y c}, cenv.cells.lookup y = some c → X.env.cells.lookup y = some c ∧ c < s.heap.objs.size := fun {y c} e => by
    rw [hcl] at e
    rcases cloFrom_mem (PySem.mem_of_lookup e) with hm | ⟨h1, rfl⟩
    · cases hm
    · obtain ⟨c, hc⟩ := hfree _ h1 rfl
      rw [hc]
      obtain ⟨w, z⟩ := I.cell _ _ hc
      exact ⟨rfl, z.lt⟩
  have look : ∀ {y}, scope.names.lookup y = some .free → ∃ c, cenv.cells.lookup y = some c ∧ X.env.cells.lookup y = some c := fun {y} hl => by
    have hy : (y, NameKind.free) ∈ scope.names := PySem.mem_of_lookup hl
    obtain ⟨c', e'⟩ := mem_lookup (cloFrom_has (cells := X.env.cells) (acc := []) hy)
    rw [← hcl] at e'
    exact ⟨c', e', (mem e').1⟩
  have okB : (gx X B s H cenv fp).Ok := by
    refine ⟨I.ok.mod, by show cenv.scope.kind = _; rw [hsc]; exact ok.kind, by show cenv.globals = _; rw [← hcenv]; exact I.ok.glob, by show cenv.builtins = _; rw [← hcenv]; exact hbi, by show s.heap.objs.size ≤ cenv.locals; rw [hL]; exact Nat.le_refl _,
      fun y z c e1 e2 => I.ok.inj y z c (mem e1).1 (mem e2).1, fun y hy => ?_, fun y c z e => ?_, fun _ => hB, hfr, .inr ⟨rfl, ?_⟩, fun b hb => ⟨?_, fun y c e z => ?_⟩, I.bs, Nat.le_trans I.ok.bsz I.sz, fun b o e hb => ?_, fun b hb z => ?_, I.stack, I.stkFree⟩
    · show ∃ c, cenv.cells.lookup y = some c
      have hy : cenv.kindOf y = some .cell ∨ cenv.kindOf y = some .free := hy
      unfold Env.kindOf at hy
      rw [hsc] at hy
      rcases hy with hy | hy
      · exact absurd rfl (ok.cell _ (PySem.mem_of_lookup hy))
      · obtain ⟨c, h1, _⟩ := look hy
        exact ⟨c, h1⟩
    · cases z
    · show cenv.frame = some cenv.locals
      rw [← hcenv]; rfl
    · show b ≠ cenv.locals
      rw [hL]; exact Nat.ne_of_lt (hfp b hb).2
    · exact (hfp b hb).1.2.2.2.2.1 y c (mem e).1 z
    · rcases (hfp b hb).1.2.2.2.1 with z | z
      · exact I.ok.noex b o e z
      · exact absurd (Nat.lt_of_lt_of_le (Heap.lt_size e) (Nat.le_trans I.ok.bsz z)) (Nat.lt_irrefl _)
    · rcases List.mem_cons.mp (I.stkSub b z) with z | z
      · exact (hfp b hb).1.2.1 z
      · exact (hfp b hb).1.2.2.1 z
  refine ⟨okB, rfl, hgs, Un.kept kp, ⟨m, ?_, fun i y av e1 e2 e3 => ?_⟩, fun y c e => ?_, ?_, fun y c e => ?_, fun p hp => ?_, I.hok.kept kp, by rw [wipe_length]; exact I.len⟩
  · show Heap.Ns _ cenv.locals _
    rw [hL]
    exact hns
  · obtain ⟨e2, hne⟩ := wipe_some e2
    have e3 : Vis cenv.scope y := e3
    have hfr2 : scope.names.lookup y = some .free := by
      unfold Vis at e3
      rw [hsc] at e3
      rcases e3 with e3 | e3 | e3
      · rcases ok.own _ (PySem.mem_of_lookup e3) rfl with e' | e'
        · obtain ⟨p, hp, hpy⟩ := List.mem_map.mp e'
          have e4 := ok.ix p hp
          have : p.1 = y := hpy
          rw [this] at e4
          exact absurd (List.mem_map.mpr ⟨p, hp, nodup_ix hN e4 e1⟩) hne
        · exact absurd (List.mem_of_getElem? e1) e'
      · exact absurd rfl (ok.cell _ (PySem.mem_of_lookup e3))
      · exact e3
    obtain ⟨m', hn, hl⟩ := I.loc
    have hvis : Vis X.env.scope y := (ok.free _ (PySem.mem_of_lookup hfr2) rfl).elim (fun k => .inr (.inl k)) (fun k => .inr (.inr k))
    obtain ⟨w, r, q⟩ := hl i y av e1 e2 hvis
    obtain ⟨c, h1, h2⟩ := look hfr2
    refine ⟨w, r, .inr ⟨.inr ?_, ?_⟩⟩
    · show cenv.scope.names.lookup y = some .free
      rw [hsc]; exact hfr2
    · rcases q with ⟨k, _⟩ | ⟨_, c', e', z⟩
      · have k : X.env.scope.names.lookup y = some .local := k
        rcases ok.free _ (PySem.mem_of_lookup hfr2) rfl with k' | k' <;> rw [show X.env.scope.names.lookup y = _ from k'] at k <;> cases k
      · rw [h2] at e'; cases e'
        exact ⟨c, h1, z.keeps kp⟩
  · obtain ⟨w, z⟩ := I.cell y c (mem e).1
    exact ⟨w, z.keeps kp⟩
  · show H cenv.locals = none
    rw [hL]; exact I.hok.fresh (Nat.le_refl _)
  · exact I.freeC y c (mem e).1
  · exact absurd (show p ∈ ([] : List (Addr × Obj)) ++ [] from hp) (by simp)
end
end LC
-- G2
namespace LC
open PySem PySem.Spec PyProof.Rows L2 GenW

/-- the walked expression at rest (or about to go on): ys is out, i things of the walked one are taken; CP: what the walker holds meanwhile -/
def GInv (Xg : Cx) (tn : Nat → Heap → Prop) (fp : List Addr) (CP : List V → List (Addr × Obj) → Prop) (a : Addr) (go : Obj) (σ0 : L2.St) (ys : List V) (i : Nat) (H : Hp) (s : Shared) : Prop :=
  ∃ cp, CP ys cp ∧ (∀ p ∈ (a, go) :: cp, ∀ b ∈ fp, p.1 ≠ b) ∧ Inv Xg ((a, go) :: cp) σ0 H s ∧ tn i s.heap ∧ ∀ b ∈ fp, H b = none
abbrev GW := List V → Nat → Nat → Hp → Prop
abbrev GO := List V → Nat → Nat → V → Hp → Prop
def GYp (G : List V → Nat → Hp → Shared → Prop) (W : GW) (O : GO) : Protocol := fun _ _ v s kap =>
  ∃ ys i m x H, RelV x v ∧ G ys (i + 1) H s ∧ O ys i m x H ∧ ∀ s' H' m', m' < m → G (ys ++ [x]) (i + 1) H' s' → W (ys ++ [x]) (i + 1) m' H' → kap (.send .none) s'
def GFin (Xg : Cx) (CP : List V → List (Addr × Obj) → Prop) (a : Addr) (go : Obj) (σ0 : L2.St) (End : List V → Hp → Prop) (s : Shared) : Prop := ∃ ys H cp, CP ys cp ∧ Inv Xg ((a, go) :: cp) σ0 H s ∧ End ys H
def GRp (F : Shared → Prop) : GenEnd := fun _ _ r s => r = .ok .next ∧ F s
/-- what the parts of an expression do at each turn -/
def GTurn (J : It) (g : TG) (tt : TT) (te : TE) (vs : List Nat) (σ0 : L2.St) (W : GW) (O : GO) (End : List V → Hp → Prop) : Prop := ∀ ys i m H, W ys i m H →
  (J.stop i H ∧ End ys H) ∨ (J.go i H ∧ ∃ (Oy : V → Hp → Prop) (Nx : Hp → Prop), (∀ y H', Oy y H' → O ys i m y H') ∧ (∀ H', Nx H' → ∃ m', m' < m ∧ W ys (i + 1) m' H') ∧ ∀ x H', J.yld i H x H' → g x σ0 H' fun σ2 H2 => wipe σ2 vs = σ0 ∧ tt σ2 H2 fun b H3 =>
    if b = true then te σ2 H3 fun y H4 => Oy y H4 else Nx H3)

section
variable {X : Cx} {Ag : Around} {elt tg iter : Expr} {ifs : List Expr} {scope : Scope} {gpos : Pos} {it : Addr} {cenv : Env} {fp : List Addr} {tn : Nat → Heap → Prop} {J : It} {s4 : Shared} {H4 : Hp}
  {CP : List V → List (Addr × Obj) → Prop} {a : Addr} {go : Obj} {σ0 : L2.St} {vs : List Nat} {g : TG} {tt : TT} {te : TE} {W : GW} {O : GO} {End : List V → Hp → Prop}

theorem gfp {Xg : Cx} {pins : List (Addr × Obj)} {σ' : L2.St} {H' : Hp} {s' : Shared} (hex : Xg.ex = fp) (hpn : Xg.pn = []) (I' : Inv Xg pins σ' H' s') (hp : ∀ p ∈ pins, ∀ b ∈ fp, p.1 ≠ b) (hn : ∀ b ∈ fp, H' b = none) : ∀ b ∈ fp, FpOk Xg pins H' b := fun b hb =>
  have hb' : b ∈ Xg.ex := by rw [hex]; exact hb
  ⟨hn b hb, (I'.ok.exf b hb').1, I'.ok.exfs b hb', .inl hb', fun x c e => (I'.ok.exf b hb').2 x c e, fun p h => hp p (by rw [hpn] at h; exact h) b hb⟩

theorem ge_loop (hc : X.calm = true) (hco : cenv.scope.isCoroutine = false) (T : Turn X.prog X.w X.K tg J fp it tn)
    (pg : PG (gx X (Ag.over (.compLoop (.GeneratorExp elt [⟨tg, iter, ifs, 0⟩] scope gpos) 0 (.ref it) .none cenv) []) s4 H4 cenv fp) tg g)
    (pt : PTs (gx X (Ag.over (.compLoop (.GeneratorExp elt [⟨tg, iter, ifs, 0⟩] scope gpos) 0 (.ref it) .none cenv) []) s4 H4 cenv fp) ifs tt)
    (pe : PE (gx X (Ag.over (.compLoop (.GeneratorExp elt [⟨tg, iter, ifs, 0⟩] scope gpos) 0 (.ref it) .none cenv) []) s4 H4 cenv fp) elt te)
    (turn : GTurn J g tt te vs σ0 W O End) (hσ : wipe σ0 vs = σ0) :
    ∀ (n m : Nat), m < n → ∀ (ys : List V) (i : Nat) (H : Hp) (s₀ s : Shared),
      GInv (gx X (Ag.over (.compLoop (.GeneratorExp elt [⟨tg, iter, ifs, 0⟩] scope gpos) 0 (.ref it) .none cenv) []) s4 H4 cenv fp) tn fp CP a go σ0 ys i H s → W ys i m H →
      Seg (model X.prog X.w) Ag (GRp (GFin (gx X (Ag.over (.compLoop (.GeneratorExp elt [⟨tg, iter, ifs, 0⟩] scope gpos) 0 (.ref it) .none cenv) []) s4 H4 cenv fp) CP a go σ0 End))
        (GYp (GInv (gx X (Ag.over (.compLoop (.GeneratorExp elt [⟨tg, iter, ifs, 0⟩] scope gpos) 0 (.ref it) .none cenv) []) s4 H4 cenv fp) tn fp CP a go σ0) W O) n s₀
        (.compLoop (.GeneratorExp elt [⟨tg, iter, ifs, 0⟩] scope gpos) 0 (.ref it) .none cenv)
        ((model X.prog X.w).den (.compLoop (.GeneratorExp elt [⟨tg, iter, ifs, 0⟩] scope gpos) 0 (.ref it) .none cenv)) [] s := by
  intro n
  induction n with
  | zero => intro m hm; exact absurd hm (Nat.not_lt_zero _)
  | succ n ihn =>
    intro m
    induction m using Nat.strongRecOn with
    | ind m ihm =>
      intro hm ys i H s₀ s hI hw
      obtain ⟨cp, hcp, hpf, I, st, fr⟩ := hI
      show Seg _ Ag _ _ _ s₀ _ ((compTurn (.GeneratorExp elt [⟨tg, iter, ifs, 0⟩] scope gpos) 0 (.ref it) .none cenv).onRaise (leaving cenv)) [] s
      rw [compTurn_gen, Sem.onRaise_eq_wrap]
      refine seg_bind_wrap (wpAny_standAt ?_)
      rcases turn ys i m H hw with ⟨stop, qend⟩ | ⟨go', Oy, Nx, hOy, hNx, step⟩
      · have td := T.done (gx X (Ag.over (.compLoop (.GeneratorExp elt [⟨tg, iter, ifs, 0⟩] scope gpos) 0 (.ref it) .none cenv) []) s4 H4 cenv fp) rfl rfl rfl hc i _ s _ H (fun _ _ => False) I (gfp rfl rfl I hpf fr) st stop
        refine seg_bind_wrap (thnF td fun r s6 h6 => ?_)
        obtain ⟨hr, I6⟩ := h6
        subst hr
        exact seg_end (.ok .next) ⟨rfl, ys, H, cp, hcp, I6, qend⟩
      · have ti := T.item (gx X (Ag.over (.compLoop (.GeneratorExp elt [⟨tg, iter, ifs, 0⟩] scope gpos) 0 (.ref it) .none cenv) []) s4 H4 cenv fp) rfl rfl rfl hc i _ s _ H (fun _ _ => False) I (gfp rfl rfl I hpf fr) st go'
        refine seg_bind_wrap (thnF ti fun r s6 h6 => ?_)
        obtain ⟨u, hr, h6⟩ := h6
        subst hr
        refine seg_bind_wrap (thnF h6 fun _ s7 h7 => ?_)
        obtain ⟨x, H7, I7, r7, y7, st7, n7⟩ := h7
        have I7' := I7.pinned (gfp rfl rfl I7 hpf n7) (T.obj _ _ st7)
        refine seg_bind_wrap (thnF (pg.run _ s7 _ H7 x u _ I7' r7 (step x H7 y7)) fun _ s8 h8 => ?_)
        obtain ⟨σ8, H8, I8, hw8, q8⟩ := h8
        refine seg_bind_wrap (thnF (pt.run _ s8 σ8 H8 _ I8 q8) fun b s9 h9 => ?_)
        obtain ⟨H9, I9, q9⟩ := h9
        -- the turn's end
        have fin : ∀ {s' : Shared} {H' : Hp}, Inv (gx X (Ag.over (.compLoop (.GeneratorExp elt [⟨tg, iter, ifs, 0⟩] scope gpos) 0 (.ref it) .none cenv) []) s4 H4 cenv fp) (((a, go) :: cp) ++ pinsAt fp s7.heap) σ8 H' s' →
            GInv (gx X (Ag.over (.compLoop (.GeneratorExp elt [⟨tg, iter, ifs, 0⟩] scope gpos) 0 (.ref it) .none cenv) []) s4 H4 cenv fp) tn fp CP a go σ0 ys (i + 1) H' s' := fun {s' H'} I' => by
          have pin' : ∀ b ∈ fp, ∀ o, s7.heap.get? b = some o → s'.heap.get? b = some o ∧ H' b = none := fun b hb o e =>
            let z := I'.pin (b, o) (List.mem_append_right _ (List.mem_append_right _ (mem_pinsAt hb e)))
            ⟨z.1, z.2.1⟩
          have hl : σ0.length = σ8.length := by rw [← hw8, wipe_length]
          refine ⟨cp, hcp, hpf, I'.unpinned.weak hl (fun j v e => ?_), T.keep _ _ _ st7 fun b hb o e => (pin' b hb o e).1, fun b hb => ?_⟩
          · rw [← hw8] at e
            exact (wipe_some e).1
          · obtain ⟨o, e, _⟩ := T.obj _ _ st7 b hb
            exact (pin' b hb o e).2
        cases b with
        | false =>
          simp only [Bool.false_eq_true, if_false] at q9 ⊢
          obtain ⟨m', hm', w'⟩ := hNx _ q9
          exact seg_again rfl (ihm m' hm' (Nat.lt_trans hm' hm) ys (i + 1) H9 s₀ s9 (fin I9) w')
        | true =>
          simp only [if_true] at q9 ⊢
          have hy : ∀ v, yieldOut cenv v = yieldValue v := fun v => by simp only [yieldOut, hco, Bool.false_eq_true, if_false]
          simp only [hy]
          rw [Sem.bind_eq_wrap', Sem.bind_eq_wrap', Sem.wrap_wrap, Sem.wrap_wrap]
          refine seg_wrap (thnF (pe.run _ s9 σ8 H9 _ I9 q9) fun z s10 h10 => ?_)
          obtain ⟨yv, H10, I10, r10, q10⟩ := h10
          refine seg_at (seg_yield rfl rfl rfl ⟨ys, i, m, yv, H10, r10, fin I10, hOy _ _ q10, fun s' H' m' hm' G' w' => ?_⟩)
          exact seg_again rfl (ihn m' (Nat.lt_of_lt_of_le hm' (Nat.le_of_lt_succ hm)) (ys ++ [yv]) (i + 1) H' s' s' G' w')
end
end LC
-- G3
namespace LC
open PySem PySem.Spec PyProof.Rows L2 GenW

section
variable {X : Cx} {pins : List (Addr × Obj)} {σ : L2.St} {H : Hp} {s : Shared}
theorem inv_gens {gs : Array GenState} (I : Inv X pins σ H s) (h : AllBare gs) : Inv X pins σ H { s with gens := gs } :=
  ⟨I.ok, I.os, h, I.base, I.loc, I.cell, I.free, I.freeC, I.pin, I.hok, I.len⟩
theorem inv_setGen {g : Nat} {x : GenState} (I : Inv X pins σ H s) (h : x.bare = true) : Inv X pins σ H (s.setGen g x) := inv_gens I (allBare_setGen I.bare h)
theorem ginv_setGen {Xg : Cx} {tn : Nat → Heap → Prop} {fp : List Addr} {CP : List V → List (Addr × Obj) → Prop} {a : Addr} {go : Obj} {σ0 : L2.St} {ys : List V} {i : Nat} {g : Nat} {x : GenState}
    (h : GInv Xg tn fp CP a go σ0 ys i H s) (hb : x.bare = true) : GInv Xg tn fp CP a go σ0 ys i H (s.setGen g x) := by
  obtain ⟨cp, h1, h2, I, st, fr⟩ := h
  exact ⟨cp, h1, h2, inv_setGen I hb, st, fr⟩
end

section
variable {X : Cx} {Ag : Around} {elt tg iter : Expr} {ifs : List Expr} {scope : Scope} {gpos : Pos} {it : Addr} {cenv : Env} {fp : List Addr} {tn : Nat → Heap → Prop} {J : It} {s4 : Shared} {H4 : Hp}
  {CP : List V → List (Addr × Obj) → Prop} {a : Addr} {go : Obj} {σ0 : L2.St} {vs : List Nat} {g : TG} {tt : TT} {te : TE} {W : GW} {O : GO} {End : List V → Hp → Prop}
theorem ge_begin (hc : X.calm = true) (hco : cenv.scope.isCoroutine = false) (T : Turn X.prog X.w X.K tg J fp it tn)
    (pg : PG (gx X (Ag.over (.compLoop (.GeneratorExp elt [⟨tg, iter, ifs, 0⟩] scope gpos) 0 (.ref it) .none cenv) []) s4 H4 cenv fp) tg g)
    (pt : PTs (gx X (Ag.over (.compLoop (.GeneratorExp elt [⟨tg, iter, ifs, 0⟩] scope gpos) 0 (.ref it) .none cenv) []) s4 H4 cenv fp) ifs tt)
    (pe : PE (gx X (Ag.over (.compLoop (.GeneratorExp elt [⟨tg, iter, ifs, 0⟩] scope gpos) 0 (.ref it) .none cenv) []) s4 H4 cenv fp) elt te)
    (turn : GTurn J g tt te vs σ0 W O End) (hσ : wipe σ0 vs = σ0)
    (n m : Nat) (hm : m < n) (ys : List V) (i : Nat) (H : Hp) (s₀ s : Shared)
    (hI : GInv (gx X (Ag.over (.compLoop (.GeneratorExp elt [⟨tg, iter, ifs, 0⟩] scope gpos) 0 (.ref it) .none cenv) []) s4 H4 cenv fp) tn fp CP a go σ0 ys i H s) (hw : W ys i m H) :
      Seg (model X.prog X.w) Ag (GRp (GFin (gx X (Ag.over (.compLoop (.GeneratorExp elt [⟨tg, iter, ifs, 0⟩] scope gpos) 0 (.ref it) .none cenv) []) s4 H4 cenv fp) CP a go σ0 End))
        (GYp (GInv (gx X (Ag.over (.compLoop (.GeneratorExp elt [⟨tg, iter, ifs, 0⟩] scope gpos) 0 (.ref it) .none cenv) []) s4 H4 cenv fp) tn fp CP a go σ0) W O) n s₀
        (.compStart (.GeneratorExp elt [⟨tg, iter, ifs, 0⟩] scope gpos) 0 (.ref it) .none cenv)
        ((model X.prog X.w).den (.compStart (.GeneratorExp elt [⟨tg, iter, ifs, 0⟩] scope gpos) 0 (.ref it) .none cenv)) [] s := by
  have loop := ge_loop (CP := CP) (a := a) (go := go) hc hco T pg pt pe turn hσ n m hm ys i H s₀ s hI hw
  obtain ⟨cp, hcp, hpf, I, st, fr⟩ := hI
  show Seg _ Ag _ _ _ s₀ _ ((compStart (.GeneratorExp elt [⟨tg, iter, ifs, 0⟩] scope gpos) 0 (.ref it) .none cenv).onRaise (leaving cenv)) [] s
  unfold compStart
  rw [Sem.onRaise_eq_wrap]
  show Seg _ Ag _ _ _ s₀ _ ((ask >>= _).wrap _ _ _ _) [] s
  refine seg_bind_wrap (wpAny_askSetting ?_)
  split
  · exact seg_again rfl loop
  · first
      | exact seg_bind_wrap (wpAny_rule (seg_bind_wrap (wpAny_standAt (seg_bind_wrap (T.self _ i s _ _ st (seg_again rfl loop))))))
      | (refine seg_bind_wrap (wpAny_rule ?_); show Seg _ Ag _ _ _ s₀ _ ((standAt iter.pos >>= _).wrap _ _ _ _) [] s; exact seg_bind_wrap (wpAny_standAt (seg_bind_wrap (T.self _ i s _ _ st (seg_again rfl loop)))))
end

/-- a generator expression made in X, not yet begun: J is what it walks, H1 the heap (its def's table at P may have grown) -/
def GReady (X : Cx) (pins : List (Addr × Obj)) (σ : L2.St) (elt tg iter : Expr) (ifs : List Expr) (scope : Scope) (gpos : Pos) (vs : List Nat) (P : Addr) (R : It → Hp → Prop) (u : Value) (s5 : Shared) : Prop :=
  ∃ (a : Addr) (gi : Nat) (s4 : Shared) (H1 H4 : Hp) (J : It) (fp : List Addr) (tn : Nat → Heap → Prop) (it : Addr) (go : Obj) (nm qn code : Value),
    u = .ref a ∧ GxR.Tabbed P H1 H4 ∧ R J H1 ∧ Inv X pins σ H4 s4 ∧ (∀ b ∈ fp, FpOk X pins H4 b) ∧ Turn X.prog X.w X.K tg J fp it tn ∧ tn 0 s5.heap ∧
    go.cls = .type "generator" ∧ go.data = .fields #[.int gi 0, nm, qn] ∧ go.slots = #[] ∧ s5.heap.get? a = some go ∧ s4.heap.objs.size < a ∧ (∀ b ∈ fp, b < s4.heap.objs.size) ∧
    s5.gens[gi]? = some (.fresh (.compStart (.GeneratorExp elt [⟨tg, iter, ifs, 0⟩] scope gpos) 0 (.ref it) .none (genEnv scope (cloFrom X.env.cells scope.names []) s4.heap.objs.size code builtinsNs X.env))) ∧
    ∀ B : Around, B.frames = some (genEnv scope (cloFrom X.env.cells scope.names []) s4.heap.objs.size code builtinsNs X.env :: X.stack) → B.handled = none →
      Inv (gx X B s4 H4 (genEnv scope (cloFrom X.env.cells scope.names []) s4.heap.objs.size code builtinsNs X.env) fp) [(a, go)] (wipe σ vs) H4 s5

theorem ge_make {X : Cx} {pins : List (Addr × Obj)} {σ : L2.St} {H : Hp} {s : Shared} {c P : Addr} {elt tg iter : Expr} {ifs : List Expr} {gpos : Pos} {scope : Scope} {own : List (Str × Nat)} {wi : TI} {k : Nat} {Q' : Value → Shared → Prop} {R : It → Hp → Prop}
    (hr : Room k X.A) (hN : X.N.Nodup) (TB : GxR.TabB X.base X.mg c P) (hcode : X.env.code = .ref c) (ok : GScp X.N X.env.scope scope own) (hi : PI X tg iter wi)
    (hs : ∀ v, genFold iter X.env v = pure v) (I : Inv X pins σ H s) (h : wi σ H fun J H1 => GxR.TabG H1 P ∧ R J H1)
    (hQ : ∀ u s5, GReady X pins σ elt tg iter ifs scope gpos (own.map (·.2)) P R u s5 → Q' u s5) :
    wpAny (model X.prog X.w) X.A (eval (.GeneratorExp elt [⟨tg, iter, ifs, 0⟩] scope gpos) X.env) Q' X.xe s := by
  have hfree : ∀ y ∈ scope.names, y.2 = .free → ∃ c, X.env.cells.lookup y.1 = some c := fun y hy e => by
    rcases ok.free y hy e with k | k
    · exact I.ok.has _ (.inl k)
    · exact I.ok.has _ (.inr k)
  refine wpAny_GeneratorExp_make ok.co (closure_ok hfree) ok.cell ok.dot ok.kind (by have := hr.dp; omega) ?_ hs
  refine thn (hi.run pins s σ H _ I h) fun xv s1 h1 => thn h1 fun itv s2 h2 => ?_
  obtain ⟨it, fp, tn, J, H2, e, I2, T, st2, f2, ⟨ps, hP, ht⟩, q2⟩ := h2
  subst e
  have hPs : s2.heap.get? P = some { cls := .none, data := .fields ps } := I2.hok P _ hP
  have hPlt : P < s2.heap.objs.size := Heap.lt_size hPs
  have cd : PySem.W.CodeHd s2.heap c P := TB.code.keeps fun b u e => I2.bk b u e
  have lim2 : s2.heap.NoLimit := I2.nolimit
  have cont : ∀ (code : Value) (h3 : Heap) (tk : Nat) (ps' : Array Value), Heap.ExtBut P s2.heap h3 → s2.heap.objs.size ≤ h3.objs.size → h3.get? P = some { cls := .none, data := .fields ps' } → (∃ more, ps' = ps ++ more) → TriplesOk ps'.toList →
      wpAny (model X.prog X.w) X.A (builtinsFor X.env.globals X.env.builtins) (fun bi s₄ =>
        ∀ h', h'.Ns s₄.heap.objs.size (fun y => if y = ".0" then some (.ref it) else none) → Heap.SameBut s₄.heap.objs.size (s₄.heap.push { cls := .type "frame", data := .dict #[] }) h' →
          Q' (.ref h'.objs.size) { s₄ with
            gens := s₄.gens.push (.fresh (.compStart (.GeneratorExp elt [⟨tg, iter, ifs, 0⟩] scope gpos) 0 (.ref it) .none (genEnv scope (cloFrom X.env.cells scope.names []) s₄.heap.objs.size code bi X.env))),
            toks := s₄.toks + 1 + 1 + 1,
            heap := h'.push { cls := .type "generator", data := .fields #[.int s₄.gens.size 0, .str "<genexpr>" (s₄.toks + 1), .str (X.env.qual ++ "<genexpr>") (s₄.toks + 1 + 1)] } }) X.xe { s2 with heap := h3, toks := tk } := by
    intro code h3 tk ps' hx hsz hP3 hmore ht3
    obtain ⟨bm, ob, e1, e2, e3, e4, e5, e6, e7, e8⟩ := TB.bm
    have keep3 : ∀ b u, b ≠ P → s2.heap.get? b = some u → h3.get? b = some u := fun b u hb e => hx b u hb e
    refine wpAny_builtinsFor (m := X.mg) (by rw [I2.ok.glob]; exact (I2.mod.glob.keeps I2.bk).extBut hx TB.gP) e1 e2 (keep3 _ _ e4 (I2.bk _ _ e5)) e6 e7 e8 ?_
    obtain ⟨more, em⟩ := hmore
    have I4 : Inv X pins σ (upd H2 P (.tbl (ps ++ more))) { s2 with heap := h3, toks := tk } :=
      GxR.inv_tab (more := more) (h' := h3) (g' := s2.gens) (d' := s2.drawn) (t' := tk) I2 hP keep3 (by rw [← em]; exact hP3) I2.bare
    have tab : GxR.Tabbed P H2 (upd H2 P (.tbl (ps ++ more))) := ⟨⟨ps ++ more, upd_same, by rw [← em]; exact ht3⟩, fun b hb => upd_ne hb⟩
    have fpP : ∀ b ∈ fp, b ≠ P := fun b hb z => by
      have := (f2 b hb).1
      rw [z, hP] at this
      cases this
    have fplt : ∀ b ∈ fp, b < s2.heap.objs.size := fun b hb => by
      obtain ⟨o, e, _⟩ := T.obj _ _ st2 b hb
      exact Heap.lt_size e
    have f4 : ∀ b ∈ fp, FpOk X pins (upd H2 P (.tbl (ps ++ more))) b := fun b hb => ⟨by rw [upd_ne (fpP b hb)]; exact (f2 b hb).1, (f2 b hb).2⟩
    intro h' hns hsb
    have hsz' : h'.objs.size = h3.objs.size + 1 := by rw [hsb.1, Heap.size_push]
    have kp' : ∀ b o, h3.get? b = some o → h'.get? b = some o := fun b o e => hsb.extBut b o (Nat.ne_of_lt (Heap.lt_size e)) (Heap.get?_push_of_some _ e)
    have main : ∀ (go : Obj) (nm qn : Value) (tk2 : Nat), go.cls = .type "generator" → go.data = .fields #[.int s2.gens.size 0, nm, qn] → go.slots = #[] → (∀ h : Heap, (h.push go).get? h.objs.size = some go) →
        Q' (.ref h'.objs.size) { ({ s2 with heap := h3, toks := tk } : Shared) with
            gens := s2.gens.push (.fresh (.compStart (.GeneratorExp elt [⟨tg, iter, ifs, 0⟩] scope gpos) 0 (.ref it) .none (genEnv scope (cloFrom X.env.cells scope.names []) h3.objs.size code builtinsNs X.env))),
            toks := tk2, heap := h'.push go } := by
      intro go nm qn tk2 hgc hgd hgs hgp
      have kp5 : ∀ b o, h3.get? b = some o → (h'.push go).get? b = some o := fun b o e => Heap.get?_push_of_some _ (kp' b o e)
      refine hQ _ _ ⟨h'.objs.size, s2.gens.size, { s2 with heap := h3, toks := tk }, H2, upd H2 P (.tbl (ps ++ more)), J, fp, tn, it, go, nm, qn, code, rfl, tab, q2, I4, f4, T, ?_, hgc, hgd, hgs, hgp _, ?_, fun b hb => Nat.lt_of_lt_of_le (fplt b hb) hsz, Array.getElem?_push_size .., fun B hBf hBh => ?_⟩
      · refine T.keep 0 _ _ st2 fun b hb o e => kp5 b o (keep3 b o (fpP b hb) e)
      · show h3.objs.size < h'.objs.size
        omega
      · have J0 := gx_start (fp := fp) (B := B) (code := code) (bi := builtinsNs) (h' := h'.push go) (tk := tk2) (gs := s2.gens.push (.fresh (.compStart (.GeneratorExp elt [⟨tg, iter, ifs, 0⟩] scope gpos) 0 (.ref it) .none (genEnv scope (cloFrom X.env.cells scope.names []) h3.objs.size code builtinsNs X.env))))
          I4 ok hN (fun b hb => ⟨f4 b hb, Nat.lt_of_lt_of_le (fplt b hb) hsz⟩) rfl hBf hBh kp5 (hns.push _) (AllBare.push I2.bare rfl)
        refine J0.pins_of fun p hp => ?_
        rw [List.mem_singleton.mp hp]
        have hlt : h3.objs.size < h'.objs.size := by omega
        refine ⟨hgp _, I4.hok.fresh (Nat.le_of_lt hlt), Nat.ne_of_gt hlt, fun z => ?_, fun v q => by rw [hgd] at q; cases q⟩
        rcases List.mem_cons.mp (I4.stkSub _ z) with z | z
        · have e1 : X.env.locals < h3.objs.size := I4.lt
          rw [← z] at e1
          exact absurd (Nat.lt_trans hlt e1) (Nat.lt_irrefl _)
        · exact I4.nofs (Nat.le_of_lt hlt) z
    exact main _ _ _ _ rfl rfl rfl fun h => Heap.get?_push_size _ rfl
  refine ⟨lim2, ?_⟩
  cases hf : codeAmong gpos ps.toList with
  | none =>
    refine wpAny_genexprCodeX hcode (cd.code hPs ht) (cd.tab hPs) hf fun c' h' tk hx hge hlt hco' _ htab' _ => ?_
    obtain ⟨o1, vs, f1, tf, fl, tg, inF, tx, tt, op, _, _, _, _, _, _, _, _, _, htr, _⟩ := hco'
    exact cont _ h' tk _ hx (Nat.le_trans hge (Nat.le_of_lt hlt)) htab'.2 ⟨_, rfl⟩ htr
  | some cv =>
    refine wpAny_genexprCode_hit hcode (cd.code hPs ht) hf ?_
    exact cont cv s2.heap s2.toks ps (Heap.ExtBut.refl _ _) (Nat.le_refl _) hPs ⟨#[], by simp⟩ ht
end LC
-- G4
namespace LC
open PySem PySem.Spec PyProof.Rows L2 GenW

section
variable {P : Program} {w : World} {A : Around} {Xg : Cx} {fp : List Addr} {tn : Nat → Heap → Prop} {CP : List V → List (Addr × Obj) → Prop} {a : Addr} {go : Obj} {gi : Nat} {nm qn : Value} {σ0 : L2.St} {W : GW} {O : GO} {End : List V → Hp → Prop} {R : Result → Shared → Prop}
theorem all_drive (hh : A.handled = none) (hd : A.depth < recursionLimit) (hgc : go.cls = .type "generator") (hgd : go.data = .fields #[.int gi 0, nm, qn]) (hgs : go.slots = #[])
    (hO : ∀ ys i m x H s, O ys i m x H → GInv Xg tn fp (fun _ cp => cp = []) a go σ0 ys (i + 1) H s → ∃ b, x = .bl b ∧ if b = true then ∃ m', m' < m ∧ W (ys ++ [x]) (i + 1) m' H else R (.ok (.ret (.bool false))) s)
    (hE : ∀ s, GFin Xg (fun _ cp => cp = []) a go σ0 End s → R (.ok (.ret (.bool true))) s) :
    ∀ (n : Nat) (s : Shared), (∃ ys i H, GInv Xg tn fp (fun _ cp => cp = []) a go σ0 ys i H s) →
      (∃ gs, s.gens[gi]? = some gs ∧ gs.Goes (model P w) A.in1.in1 (GRp (GFin Xg (fun _ cp => cp = []) a go σ0 End)) (GYp (GInv Xg tn fp (fun _ cp => cp = []) a go σ0) W O) n (.send .none) (s.setGen gi .running)) →
      codeAny (model P w) A (.builtin "all.loop" ⟨[.ref a], []⟩) R s := by
  have gen : ∀ {ys : List V} {i : Nat} {H : Hp} {s : Shared}, GInv Xg tn fp (fun _ cp => cp = []) a go σ0 ys i H s → s.heap.IsGen a gi ∧ s.heap.NoLimit := fun {ys i H s} h => by
    obtain ⟨cp, hcp, _, I, _, _⟩ := h
    subst hcp
    exact ⟨⟨go, nm, qn, (I.pin (a, go) (List.mem_append_right _ List.mem_cons_self)).1, hgc, hgd, hgs⟩, I.nolimit⟩
  have goes : ∀ {gs : GenState} {B : Around} {n : Nat} {r : Resume} {s : Shared}, gs.Goes (model P w) B (GRp (GFin Xg (fun _ cp => cp = []) a go σ0 End)) (GYp (GInv Xg tn fp (fun _ cp => cp = []) a go σ0) W O) n r s →
      gs.Goes (model P w) B (fun n s₀ r s₁ => r = .ok .next ∧ (fun _ _ s => GFin Xg (fun _ cp => cp = []) a go σ0 End s) n s₀ s₁) (GYp (GInv Xg tn fp (fun _ cp => cp = []) a go σ0) W O) n r s := fun h => h
  intro n
  induction n with
  | zero =>
    intro s ⟨ys, i, H, hI⟩ ⟨gs, hgs', hgo⟩
    obtain ⟨hg, hl⟩ := gen hI
    refine codeAny_builtin F.entry_all_loop ?_
    rw [Around.under_plainId F.plain_all_loop _]
    show wpAny _ A.in1 (pyNext (.ref a) >>= _) _ _ s
    refine wpAny_bind (wpAny_pyNext_genexpQ (A := A.in1) hh hl hd hg hgs' (goes hgo) (fun v s₁ gs' hb hv => ?_) (fun s₁ hp h' hk => ?_))
    · obtain ⟨ys1, i1, m1, x1, H1, rv, G1, o1, kap⟩ := hv
      obtain ⟨b, rfl, ob⟩ := hO _ _ _ _ _ _ o1 G1
      have rv' : v = .bool b := rv
      subst rv'
      refine wpAny_bind (wpAny_holding (wpAny_truthy_bool ?_))
      refine wpAny_bind (wpAny_letGo ?_)
      cases b with
      | true =>
        simp only [if_true] at ob
        obtain ⟨m', hm', w'⟩ := ob
        have G1' : GInv Xg tn fp (fun _ cp => cp = []) a go σ0 (ys1 ++ [V.bl true]) (i1 + 1) H1 s₁ := G1
        exact False.elim (kap s₁ H1 m' hm' G1' w')
      | false =>
        simp only [Bool.false_eq_true, if_false] at ob ⊢
        refine wpAny_bind (wpAny_rule (wpAny_pure ?_))
        obtain ⟨b2, e2, ob2⟩ := hO _ _ _ _ _ _ o1 (ginv_setGen (g := gi) G1 hb)
        cases e2
        simpa using ob2
    · refine wpAny_bind (wpAny_rule (wpAny_pure ?_))
      obtain ⟨ys1, H1, cp1, hcp1, I1, q1⟩ := hp
      refine hE _ ⟨ys1, H1, cp1, hcp1, ?_, q1⟩
      exact (inv_setGen I1 (x := .finished) (g := gi) rfl).kept (t' := (s₁.setGen gi .finished).toks) hk
  | succ n ih =>
    intro s ⟨ys, i, H, hI⟩ ⟨gs, hgs', hgo⟩
    obtain ⟨hg, hl⟩ := gen hI
    have hgl : gi < s.gens.size := (Array.getElem?_eq_some_iff.mp hgs').1
    refine codeAny_builtin F.entry_all_loop ?_
    rw [Around.under_plainId F.plain_all_loop _]
    show wpAny _ A.in1 (pyNext (.ref a) >>= _) _ _ s
    refine wpAny_bind (wpAny_gsz (n := gi + 1) hgl (wpAny_pyNext_genexpQ (A := A.in1) hh hl hd hg hgs' (goes hgo) (fun v s₁ gs' hb hv => ?_) (fun s₁ hp h' hk => ?_)))
    · intro hsz
      obtain ⟨ys1, i1, m1, x1, H1, rv, G1, o1, kap⟩ := hv
      obtain ⟨b, rfl, ob⟩ := hO _ _ _ _ _ _ o1 G1
      have rv' : v = .bool b := rv
      subst rv'
      refine wpAny_bind (wpAny_holding (wpAny_truthy_bool ?_))
      refine wpAny_bind (wpAny_letGo ?_)
      cases b with
      | true =>
        simp only [if_true] at ob ⊢
        obtain ⟨m', hm', w'⟩ := ob
        have hsz1 : gi < (s₁.setGen gi gs').gens.size := hsz
        have hsz2 : gi < s₁.gens.size := by rw [setGen_size] at hsz1; exact hsz1
        refine wpAny_pure ⟨plainId_quiet F.plain_all_loop _, ih (s₁.setGen gi gs') ⟨ys1, i1 + 1, H1, ginv_setGen G1 hb⟩ ⟨gs', setGen_at hsz2, ?_⟩⟩
        exact kap _ H1 m' hm' (ginv_setGen (ginv_setGen G1 hb) rfl) w'
      | false =>
        simp only [Bool.false_eq_true, if_false] at ob ⊢
        refine wpAny_bind (wpAny_rule (wpAny_pure ?_))
        obtain ⟨b2, e2, ob2⟩ := hO _ _ _ _ _ _ o1 (ginv_setGen (g := gi) G1 hb)
        cases e2
        simpa using ob2
    · intro hsz
      refine wpAny_bind (wpAny_rule (wpAny_pure ?_))
      obtain ⟨ys1, H1, cp1, hcp1, I1, q1⟩ := hp
      refine hE _ ⟨ys1, H1, cp1, hcp1, ?_, q1⟩
      exact (inv_setGen I1 (x := .finished) (g := gi) rfl).kept (t' := (s₁.setGen gi .finished).toks) hk
end
end LC
-- G5
namespace LC
open PySem PySem.Spec PyProof.Rows L2 GenW

theorem room_over {k : Nat} {A : Around} {elt tg iter : Expr} {ifs : List Expr} {scope : Scope} {gpos : Pos} {it : Value} {env : Env} (h : Room (k + 1) A) : Room k (A.over (.compLoop (.GeneratorExp elt [⟨tg, iter, ifs, 0⟩] scope gpos) 0 it .none env) []) := by
  have e1 : (A.over (.compLoop (.GeneratorExp elt [⟨tg, iter, ifs, 0⟩] scope gpos) 0 it .none env) []).depth ≤ A.depth + 1 := Nat.le_of_eq rfl
  have e2 : (A.over (.compLoop (.GeneratorExp elt [⟨tg, iter, ifs, 0⟩] scope gpos) 0 it .none env) []).units ≤ A.units + 3 := Nat.le_of_eq rfl
  have h1 := h.dp
  have h2 := h.un
  exact ⟨h.hd, by omega, by omega⟩
theorem room_in1 {k : Nat} {A : Around} (h : Room (k + 1) A) : Room k A.in1.in1.in1 := by
  have h1 := h.dp
  have h2 := h.un
  exact ⟨h.hd, by show A.depth + _ + _ < _; omega, by show A.units + 1 + 1 + 1 + _ + _ < _; omega⟩
theorem over_envs {elt tg iter : Expr} {ifs : List Expr} {scope : Scope} {gpos : Pos} {it : Value} {cenv : Env} :
    (Code.compLoop (.GeneratorExp elt [⟨tg, iter, ifs, 0⟩] scope gpos) 0 it .none cenv).envs = [cenv] := by
  first
    | rfl
    | (unfold Code.envs; simp [Code.isFrame, Code.env?])

section
variable {X : Cx} {pins : List (Addr × Obj)} {σ : L2.St}
/-- back in the frame that walks -/
theorem gx_back {B : Around} {s4 s : Shared} {H4 H : Hp} {cenv : Env} {fp : List Addr} {pins' : List (Addr × Obj)} {σ0 : L2.St} (I4 : Inv X pins σ H4 s4) (f4 : ∀ b ∈ fp, FpOk X pins H4 b) (I : Inv (gx X B s4 H4 cenv fp) pins' σ0 H s) : Inv X pins σ H s :=
  I4.call' (ch := fp) I.os I.base I.hok I.bare fun b hb => ⟨(f4 b hb).2.2.2.1, (f4 b hb).2.1, (f4 b hb).2.2.2.2.1, (f4 b hb).2.2.2.2.2⟩

/-- all(e for x in it if ..): P the def's table -/
def tAllG (P : Addr) (wi : TI) (g : TG) (tt : TT) (te : TE) (vs : List Nat) : TE := fun σ H Q => wi σ H fun J H1 => GxR.TabG H1 P ∧ ∀ H4, GxR.Tabbed P H1 H4 → ∃ W : Nat → Nat → Hp → Prop, (∃ m, W 0 m H4) ∧ ∀ i m H, W i m H →
  (J.stop i H ∧ Q (.bl true) H) ∨ (J.go i H ∧ ∃ Nx : Hp → Prop, (∀ H', Nx H' → ∃ m', m' < m ∧ W (i + 1) m' H') ∧ ∀ x H', J.yld i H x H' → g x (wipe σ vs) H' fun σ2 H2 => wipe σ2 vs = wipe σ vs ∧ tt σ2 H2 fun b H3 =>
    if b = true then te σ2 H3 fun y H5 => ∃ c, y = .bl c ∧ if c = true then Nx H5 else Q (.bl false) H5 else Nx H3)

theorem wipe_wipe (σ : L2.St) : ∀ vs : List Nat, wipe (wipe σ vs) vs = wipe σ vs := by
  intro vs
  apply List.ext_getElem?
  intro i
  have h1 : ∀ (τ : L2.St) (us : List Nat) (i : Nat), (wipe τ us)[i]? = if i ∈ us then (if i < τ.length then some none else none) else τ[i]? := by
    intro τ us
    induction us with
    | nil => intro i; simp [wipe]
    | cons u us ih =>
      intro i
      unfold wipe
      by_cases hi : u = i
      · subst hi
        by_cases hl : u < (wipe τ us).length
        · rw [List.getElem?_set_self hl]
          rw [wipe_length] at hl
          simp [hl]
        · rw [List.getElem?_eq_none (by simpa using hl)]
          rw [wipe_length] at hl
          simp [hl]
      · rw [List.getElem?_set_ne hi, ih]
        have : (i ∈ u :: us) ↔ i ∈ us := by simp [Ne.symm hi]
        simp only [this]
  rw [h1, h1 σ vs i]
  split <;> simp [wipe_length, *]

theorem pe_allG {c P : Addr} {elt tg iter : Expr} {ifs : List Expr} {p pos gpos : Pos} {scope : Scope} {own : List (Str × Nat)} {wi : TI} {g : TG} {tt : TT} {te : TE} {k : Nat}
    (hr : Room (k + 2) X.A) (hc : X.calm = true) (hN : X.N.Nodup) (hg : Gl X "all") (hm : X.mg "all" = none) (hb : bootBuiltins "all" = some (.builtin "all")) (TB : GxR.TabB X.base X.mg c P) (hcode : X.env.code = .ref c) (hi : PI X tg iter wi) (ok : GScp X.N X.env.scope scope own)
    (pg : ∀ (B : Around) (s : Shared) (H : Hp) (C : Addr) (code : Value) (fp : List Addr), PG (gx X B s H (genEnv scope (cloFrom X.env.cells scope.names []) C code builtinsNs X.env) fp) tg g)
    (pt : ∀ (B : Around) (s : Shared) (H : Hp) (C : Addr) (code : Value) (fp : List Addr), Room k B → PTs (gx X B s H (genEnv scope (cloFrom X.env.cells scope.names []) C code builtinsNs X.env) fp) ifs tt)
    (pe : ∀ (B : Around) (s : Shared) (H : Hp) (C : Addr) (code : Value) (fp : List Addr), Room k B → PE (gx X B s H (genEnv scope (cloFrom X.env.cells scope.names []) C code builtinsNs X.env) fp) elt te)
    (hs : ∀ v, genFold iter X.env v = pure v := by intro _; rfl)
    (he : starEach [.GeneratorExp elt [⟨tg, iter, ifs, 0⟩] scope gpos] X.env = (false, eval (.GeneratorExp elt [⟨tg, iter, ifs, 0⟩] scope gpos) X.env) :: starEach [] X.env := by rfl) :
    PE X (.Call (.Name "all" p) [.GeneratorExp elt [⟨tg, iter, ifs, 0⟩] scope gpos] [] pos) (tAllG P wi g tt te (own.map (·.2))) := by
  refine ⟨fun pins s σ H Q I h => ?_⟩
  refine wpAny_Call_Name_kw (ld_blt I hg hm hb ?_)
  refine PyProof.Rows.callWith_builtin1 ?_ he (by rfl)
  rw [he]
  show wpAny _ _ (spliced ((false, eval (.GeneratorExp elt [⟨tg, iter, ifs, 0⟩] scope gpos) X.env) :: backTo pos (starEach [] X.env))) _ _ s
  refine Calls.spliced_cons (ge_make hr hN TB hcode ok hi hs I h fun u s5 hG => ?_)
  obtain ⟨a, gi, s4, H1, H4, J, fp, tn, it, go, nm, qn, code, rfl, tab, hq, I4, f4, T, st5, hgc, hgd, hgs, hga, hlt, hfl, hgen, hI⟩ := hG
  refine Calls.spliced_nil ?_
  obtain ⟨W, ⟨m0, w0⟩, turn⟩ := hq H4 tab
  have hIt := hI
  have rB : Room k (X.A.in1.in1.over (.compLoop (.GeneratorExp elt [⟨tg, iter, ifs, 0⟩] scope gpos) 0 (.ref it) .none (genEnv scope (cloFrom X.env.cells scope.names []) s4.heap.objs.size code builtinsNs X.env)) []) :=
    room_over (A := X.A.in1.in1) ⟨hr.hd, by have := hr.dp; show X.A.depth + _ + _ < _; omega, by have := hr.un; show X.A.units + 1 + 1 + _ + _ < _; omega⟩
  have fB : (X.A.in1.in1.over (.compLoop (.GeneratorExp elt [⟨tg, iter, ifs, 0⟩] scope gpos) 0 (.ref it) .none (genEnv scope (cloFrom X.env.cells scope.names []) s4.heap.objs.size code builtinsNs X.env)) []).frames = some (genEnv scope (cloFrom X.env.cells scope.names []) s4.heap.objs.size code builtinsNs X.env :: X.stack) :=
    gx_frames (A := X.A.in1.in1) I4.ok.frames over_envs
  have I5 := hI _ fB rB.hd
  generalize hB : X.A.in1.in1.over (.compLoop (.GeneratorExp elt [⟨tg, iter, ifs, 0⟩] scope gpos) 0 (.ref it) .none (genEnv scope (cloFrom X.env.cells scope.names []) s4.heap.objs.size code builtinsNs X.env)) [] = B at rB I5
  have g5 : s5.heap.IsGen a gi := ⟨go, nm, qn, hga, hgc, hgd, hgs⟩
  have gturn : GTurn J g tt te (own.map (·.2)) (wipe σ (own.map (·.2))) (fun _ => W) (fun _ i m y H => ∃ c, y = .bl c ∧ if c = true then ∃ m', m' < m ∧ W (i + 1) m' H else Q (.bl false) H) (fun _ H => Q (.bl true) H) := fun ys i m H hw => by
    rcases turn i m H hw with z | ⟨z1, Nx, z2, z3⟩
    · exact .inl z
    · refine .inr ⟨z1, _, Nx, fun y H' hy => ?_, z2, z3⟩
      obtain ⟨cc, e, hcc⟩ := hy
      refine ⟨cc, e, ?_⟩
      cases cc with
      | true => exact iteT (z2 _ (by rw [if_pos rfl] at hcc; exact hcc))
      | false => exact hcc
  refine call_function_tree F.kind_all F.plain_all F.entry_all (F.args_all1 _) ?_
  unfold Builtin.«all»
  refine wpAny_bind (m := oneArg "all" _) (wpAny_pure ?_)
  refine wpAny_bind (wpAny_pyIter_gen g5 ?_)
  have fpa : ∀ p ∈ [(a, go)], ∀ b ∈ fp, p.1 ≠ b := fun p hp b hb => by
    rw [List.mem_singleton.mp hp]
    exact Nat.ne_of_gt (Nat.lt_trans (hfl b hb) hlt)
  refine wpAny_pure ⟨plainId_quiet F.plain_all_loop _, all_drive (A := X.A) (Xg := gx X B s4 H4 (genEnv scope (cloFrom X.env.cells scope.names []) s4.heap.objs.size code builtinsNs X.env) fp) (fp := fp) (tn := tn) (a := a) (go := go) (gi := gi) (nm := nm) (qn := qn)
    (σ0 := wipe σ (own.map (·.2))) (W := fun _ => W) (O := fun _ i m y H => ∃ c, y = .bl c ∧ if c = true then ∃ m', m' < m ∧ W (i + 1) m' H else Q (.bl false) H) (End := fun _ H => Q (.bl true) H)
    hr.hd (by have := hr.dp; show X.A.depth < _; omega) hgc hgd hgs (fun ys i m x H s hO hG => ?_) (fun s hF => ?_) (m0 + 1) s5 ⟨[], 0, H4, [], rfl, fpa, I5, st5, fun b hb => (f4 b hb).1⟩ ⟨_, hgen, rfl, ?_⟩⟩
  · obtain ⟨cc, rfl, hcc⟩ := hO
    refine ⟨cc, rfl, ?_⟩
    cases cc with
    | true => simpa using hcc
    | false =>
      simp only [Bool.false_eq_true, if_false] at hcc ⊢
      obtain ⟨cp, hcp, _, I6, _, _⟩ := hG
      exact ⟨V.bl false, H, gx_back I4 f4 I6, rfl, hcc⟩
  · obtain ⟨ys, H6, cp, hcp, I6, q6⟩ := hF
    exact ⟨V.bl true, H6, gx_back I4 f4 I6, rfl, q6⟩
  · subst hB
    refine ge_begin (CP := fun _ cp => cp = []) (a := a) (go := go) (σ0 := wipe σ (own.map (·.2))) hc ok.co T (pg _ _ _ _ _ _) (pt _ _ _ _ _ _ rB) (pe _ _ _ _ _ _ rB) gturn (wipe_wipe _ _) (m0 + 1) m0 (Nat.lt_succ_self _) [] 0 H4 _ _ ⟨[], rfl, fpa, inv_setGen I5 rfl, st5, fun b hb => (f4 b hb).1⟩ w0
end
end LC
-- G6
namespace LC
open PySem PySem.Spec PyProof.Rows L2 GenW

/-- the walker's list: what is out stands in it -/
def CPl (S : Addr) : List V → List (Addr × Obj) → Prop := fun ys cp => ∃ acc c, cp = [(S, lstObj acc c)] ∧ Vals ys acc.toList

section
variable {P : Program} {w : World} {A : Around} {Xg : Cx} {fp : List Addr} {tn : Nat → Heap → Prop} {S a : Addr} {go : Obj} {gi : Nat} {nm qn res : Value} {σ0 : L2.St} {W : GW} {O : GO} {End : List V → Hp → Prop} {R : Result → Shared → Prop}
theorem ginv_push {T : Prop} (hfS : ∀ b ∈ fp, S ≠ b) (hSa : S ≠ a) (hS0 : Xg.s_0.heap.objs.size ≤ S) (hpn : Xg.pn = []) (hkeep : ∀ i h h', tn i h → (∀ b ∈ fp, ∀ o, h.get? b = some o → h'.get? b = some o) → tn i h') (hobj : ∀ i h, tn i h → ∀ b ∈ fp, ∃ o, h.get? b = some o)
    {ys : List V} {i : Nat} {H : Hp} {s : Shared} {x : V} {v : Value} (hz : ys.length < sizeLine) (rv : RelV x v)
    (G : GInv Xg tn fp (CPl S) a go σ0 ys i H s)
    (k : ∀ acc c, s.heap.get? S = some (lstObj acc c) → acc.size = ys.length → (∀ gs : Array GenState, AllBare gs → GInv Xg tn fp (CPl S) a go σ0 (ys ++ [x]) i H { s with gens := gs, heap := s.heap.update S (Obj.mapSeq (·.push v)) }) → T) : T := by
  obtain ⟨cp, ⟨acc, c, rfl, r⟩, hpf, I, st, fr⟩ := G
  have pS := I.pin (S, lstObj acc c) (List.mem_append_right _ (List.mem_cons_of_mem _ List.mem_cons_self))
  have pa := I.pin (a, go) (List.mem_append_right _ List.mem_cons_self)
  obtain ⟨e1, e2, e3, e4, e5⟩ := pS
  have hsz : acc.size = ys.length := by
    have e1 := r.length
    have e2 : acc.toList.length = acc.size := by simp
    omega
  refine k acc c e1 hsz fun gs hgs => ?_
  have k' : ∀ b o, b ≠ S → s.heap.get? b = some o → (s.heap.update S (Obj.mapSeq (·.push v))).get? b = some o := fun b o hb e => (Heap.get?_update_other _ _ (Ne.symm hb)).trans e
  have I0 : Inv Xg [(a, go)] σ0 H s := I.pins_of fun p hp => by
    rw [List.mem_singleton.mp hp]
    exact pa
  have I1 : Inv Xg [(a, go)] σ0 H { s with heap := s.heap.update S (Obj.mapSeq (·.push v)) } := I0.turned (t' := s.toks) (it := S) k' e2 e3 (.inr hS0) (fun y cc hy z => by
      obtain ⟨u, o, ho, hd⟩ := I.cell y cc hy
      rw [z, e1] at ho
      cases ho
      exact e5 u hd) fun p hp => by
        rw [hpn] at hp
        rw [List.mem_singleton.mp hp]
        exact Ne.symm hSa
  obtain ⟨c', eS⟩ : ∃ c', (s.heap.update S (Obj.mapSeq (·.push v))).get? S = some (lstObj (acc.push v) c') := ⟨_, Heap.get?_update_self _ e1 rfl⟩
  refine ⟨[(S, lstObj (acc.push v) c')], ⟨acc.push v, _, rfl, ?_⟩, ?_, ?_, ?_, fr⟩
  · rw [Array.toList_push]
    exact r.append (.cons rv .nil)
  · intro p hp b hb
    rcases List.mem_cons.mp hp with z | z
    · rw [z]
      exact hpf (a, go) List.mem_cons_self b hb
    · rw [List.mem_singleton.mp z]
      exact hfS b hb
  · refine inv_gens (I1.pins_of fun p hp => ?_) hgs
    rcases List.mem_cons.mp hp with z | z
    · rw [z]
      exact I1.pin (a, go) (List.mem_append_right _ List.mem_cons_self)
    · rw [List.mem_singleton.mp z]
      exact ⟨eS, e2, e3, e4, fun v q => by cases q⟩
  · exact hkeep _ _ _ st fun b hb o e => k' b o (Ne.symm (hfS b hb)) e
theorem ext_drive (hh : A.handled = none) (hd : A.depth < recursionLimit) (hgc : go.cls = .type "generator") (hgd : go.data = .fields #[.int gi 0, nm, qn]) (hgs : go.slots = #[])
    (hfS : ∀ b ∈ fp, S ≠ b) (hSa : S ≠ a) (hS0 : Xg.s_0.heap.objs.size ≤ S) (hpn : Xg.pn = []) (hkeep : ∀ i h h', tn i h → (∀ b ∈ fp, ∀ o, h.get? b = some o → h'.get? b = some o) → tn i h') (hobj : ∀ i h, tn i h → ∀ b ∈ fp, ∃ o, h.get? b = some o)
    (hO : ∀ ys i m x H, O ys i m x H → ys.length < sizeLine ∧ ∃ m', m' < m ∧ W (ys ++ [x]) (i + 1) m' H)
    (hE : ∀ s, GFin Xg (CPl S) a go σ0 End s → R (.ok (.ret res)) s) :
    ∀ (n : Nat) (s : Shared), (∃ ys i H, GInv Xg tn fp (CPl S) a go σ0 ys i H s) →
      (∃ gs, s.gens[gi]? = some gs ∧ gs.Goes (model P w) A.in1.in1 (GRp (GFin Xg (CPl S) a go σ0 End)) (GYp (GInv Xg tn fp (CPl S) a go σ0) W O) n (.send .none) (s.setGen gi .running)) →
      codeAny (model P w) A (.builtin "list.extend.loop" ⟨[.ref S, .ref a, res], []⟩) R s := by
  have gen : ∀ {ys : List V} {i : Nat} {H : Hp} {s : Shared}, GInv Xg tn fp (CPl S) a go σ0 ys i H s → s.heap.IsGen a gi ∧ s.heap.NoLimit := fun {ys i H s} h => by
    obtain ⟨cp, hcp, _, I, _, _⟩ := h
    exact ⟨⟨go, nm, qn, (I.pin (a, go) (List.mem_append_right _ List.mem_cons_self)).1, hgc, hgd, hgs⟩, I.nolimit⟩
  have goes : ∀ {gs : GenState} {B : Around} {n : Nat} {r : Resume} {s : Shared}, gs.Goes (model P w) B (GRp (GFin Xg (CPl S) a go σ0 End)) (GYp (GInv Xg tn fp (CPl S) a go σ0) W O) n r s →
      gs.Goes (model P w) B (fun n s₀ r s₁ => r = .ok .next ∧ (fun _ _ s => GFin Xg (CPl S) a go σ0 End s) n s₀ s₁) (GYp (GInv Xg tn fp (CPl S) a go σ0) W O) n r s := fun h => h
  have ends : ∀ {s₁ : Shared} {h' : Heap}, GFin Xg (CPl S) a go σ0 End s₁ → (∀ b o, s₁.heap.get? b = some o → h'.get? b = some o) → GFin Xg (CPl S) a go σ0 End { s₁.setGen gi .finished with heap := h' } := fun {s₁ h'} hp hk => by
    obtain ⟨ys1, H1, cp1, hcp1, I1, q1⟩ := hp
    exact ⟨ys1, H1, cp1, hcp1, (inv_setGen I1 (x := .finished) (g := gi) rfl).kept (t' := (s₁.setGen gi .finished).toks) hk, q1⟩
  intro n
  induction n with
  | zero =>
    intro s ⟨ys, i, H, hI⟩ ⟨gs, hgs', hgo⟩
    obtain ⟨hg, hl⟩ := gen hI
    refine codeAny_builtin F.entry_extend_loop ?_
    rw [Around.under_plainId F.plain_extend_loop _]
    show wpAny _ A.in1 (pyNext (.ref a) >>= _) _ _ s
    refine wpAny_bind (wpAny_pyNext_genexpQ (A := A.in1) hh hl hd hg hgs' (goes hgo) (fun v s₁ gs' hb hv => ?_) (fun s₁ hp h' hk => ?_))
    · obtain ⟨ys1, i1, m1, x1, H1, rv, G1, o1, kap⟩ := hv
      obtain ⟨hz, m', hm', w'⟩ := hO _ _ _ _ _ o1
      refine ginv_push hfS hSa hS0 hpn hkeep hobj hz rv G1 fun acc c eS hsz kk => ?_
      have bare1 : AllBare s₁.gens := by
        obtain ⟨_, _, _, I1, _, _⟩ := G1
        exact I1.bare
      exact False.elim (kap _ H1 m' hm' (kk s₁.gens bare1) w')
    · exact wpAny_pure (hE _ (ends hp hk))
  | succ n ih =>
    intro s ⟨ys, i, H, hI⟩ ⟨gs, hgs', hgo⟩
    obtain ⟨hg, hl⟩ := gen hI
    have hgl : gi < s.gens.size := (Array.getElem?_eq_some_iff.mp hgs').1
    refine codeAny_builtin F.entry_extend_loop ?_
    rw [Around.under_plainId F.plain_extend_loop _]
    show wpAny _ A.in1 (pyNext (.ref a) >>= _) _ _ s
    refine wpAny_bind (wpAny_gsz (n := gi + 1) hgl (wpAny_pyNext_genexpQ (A := A.in1) hh hl hd hg hgs' (goes hgo) (fun v s₁ gs' hb hv => ?_) (fun s₁ hp h' hk => ?_)))
    · intro hsz0
      obtain ⟨ys1, i1, m1, x1, H1, rv, G1, o1, kap⟩ := hv
      obtain ⟨hz, m', hm', w'⟩ := hO _ _ _ _ _ o1
      have hsz1 : gi < (s₁.setGen gi gs').gens.size := hsz0
      have hsz2 : gi < s₁.gens.size := by rw [setGen_size] at hsz1; exact hsz1
      have bare1 : AllBare (s₁.setGen gi gs').gens := by
        obtain ⟨_, _, _, I1, _, _⟩ := G1
        exact allBare_setGen I1.bare hb
      refine ginv_push hfS hSa hS0 hpn hkeep hobj hz rv G1 fun acc c eS hsz kk => ?_
      show wpAny _ A.in1 (updateSeq S (·.push v) >>= _) _ _ _
      refine wpAny_bind ?_
      refine wpAny_updateSeq eS rfl (wpAny_pure ⟨plainId_quiet F.plain_extend_loop _, ?_⟩) (by rw [hsz]; exact Nat.le_of_lt hz) (by show (acc.push v).size ≤ sizeLine + 1; rw [Array.size_push]; omega)
      refine ih { s₁.setGen gi gs' with heap := s₁.heap.update S (Obj.mapSeq (·.push v)) } ⟨ys1 ++ [x1], i1 + 1, H1, kk _ bare1⟩ ⟨gs', setGen_at hsz2, ?_⟩
      exact kap _ H1 m' hm' (kk _ (allBare_setGen (s := s₁.setGen gi gs') bare1 rfl)) w'
    · intro hsz
      exact wpAny_pure (hE _ (ends hp hk))
end
end LC
-- G7
namespace LC
open PySem PySem.Spec PyProof.Rows L2 GenW
open AutoSeq1 (wpAny_loadPart')

section
variable {P : Program} {w : World} {A : Around} {E : Value → Shared → Prop}
/-- list(..)'s way of taking all that a new generator hands out -/
theorem collect_by {s : Shared} {a : Addr} {gi : Nat} {Q : List Value → Shared → Prop} (hg : s.heap.IsGen a gi)
    (h : ∀ h1 : Heap, h1.get? s.heap.objs.size = some (lstObj #[] 0) ∨ (∃ c, h1.get? s.heap.objs.size = some (lstObj #[] c)) → (∀ b o, s.heap.get? b = some o → h1.get? b = some o) →
      codeAny (model P w) A (.builtin "list.extend.loop" ⟨[.ref s.heap.objs.size, .ref a, .ref s.heap.objs.size], []⟩)
        (fun r s' => match r with
          | .ok (.ret v) => ∃ acc c, v = .ref s.heap.objs.size ∧ s'.heap.get? s.heap.objs.size = some (lstObj acc c) ∧ Q acc.toList s'
          | _ => False) { s with heap := h1 }) : wpAny (model P w) A (collect (.ref a)) Q E s := by
  have hgl : a < s.heap.objs.size := by
    obtain ⟨o, _, _, ho, _⟩ := hg
    exact Heap.lt_size ho
  have hSI : s.heap.objs.size ≠ a := Nat.ne_of_gt hgl
  unfold collect
  refine wpAny_bind (wpAny_runValue (codeAny_builtin F.entry_proto_collect ?_))
  rw [Around.under_plainId F.plain_proto_collect _]
  show wpAny _ A.in1 (newList [] >>= fun l => again (.builtin "list.__iadd__" ⟨[l, .ref a], []⟩)) _ _ s
  refine wpAny_bind (wpAny_newObj_type ?_)
  refine wpAny_pure ⟨plainId_quiet F.plain_list_iadd _, codeAny_builtin F.entry_list_iadd ?_⟩
  rw [Around.under_plainId F.plain_list_iadd _]
  have k1 : ∀ b o, s.heap.get? b = some o → (s.heap.push { cls := .type "list", data := .seq ([] : List Value).toArray }).get? b = some o := fun b o e => Heap.get?_push_of_some _ e
  have gty : ∀ {h : Heap}, (∀ b o, s.heap.get? b = some o → h.get? b = some o) → h.IsGen a gi := fun {h} q => hg.keeps q
  show wpAny _ A.in1 (Builtin.List.listExtendWith (.ref s.heap.objs.size) (.ref a) (.ref s.heap.objs.size)) _ _ _
  unfold Builtin.List.listExtendWith
  refine wpAny_bind (wpAny_typeOf (Heap.IsGen.typeIs (s := { s with heap := _ }) (gty k1)) ?_)
  have h1 : Builtin.List.listSameRef (.ref s.heap.objs.size) (.ref a) = false := by simp [Builtin.List.listSameRef, hSI]
  have h2 : (Value.type "generator" == Value.type "list") = false := by decide
  have h3 : (Value.type "generator" == Value.type "tuple") = false := by decide
  simp only [h1, h2, h3, Bool.or_false, Bool.false_eq_true, if_false]
  refine wpAny_bind (wpAny_pyIter_gen (s := { s with heap := _ }) (gty k1) ?_)
  refine wpAny_bind (wpAny_holding ?_)
  unfold Builtin.List.listLengthHint
  refine wpAny_bind (wpAny_specialOf (Heap.IsGen.typeIs (s := { s with heap := _ }) (gty k1)) F.gen_no_len ?_)
  show wpAny _ A.in1 (specialOf (Value.ref a) (Str.ofString "__length_hint__") >>= _) _ _ _
  refine wpAny_bind (wpAny_specialOf (Heap.IsGen.typeIs (s := { s with heap := _ }) (gty k1)) F.gen_no_hint ?_)
  refine wpAny_pure ?_
  show wpAny _ A.in1 (rule "list.extend.makes-room" >>= fun _ => Builtin.List.listTouch (.ref s.heap.objs.size) >>= fun _ =>
    again (.builtin "list.extend.loop" ⟨[.ref s.heap.objs.size, .ref a, .ref s.heap.objs.size], []⟩)) _ _ _
  refine wpAny_bind (wpAny_rule ?_)
  have hS1 : (s.heap.push { cls := .type "list", data := .seq ([] : List Value).toArray }).get? s.heap.objs.size = some { cls := .type "list", data := .seq ([] : List Value).toArray } := Heap.get?_push_size _ rfl
  refine wpAny_bind ?_
  show wpAny _ A.in1 (updateSeq s.heap.objs.size (·.push .none) >>= fun _ => updateSeq s.heap.objs.size (·.pop)) _ _ _
  refine wpAny_bind (wpAny_updateSeq hS1 rfl ?_)
  have hS2 := Heap.get?_update_self (Obj.mapSeq (·.push Value.none)) hS1 rfl
  refine wpAny_updateSeq hS2 rfl ?_
  have hS3 := Heap.get?_update_self (Obj.mapSeq (·.pop)) hS2 rfl
  have up : ∀ (h : Heap) (f : Obj → Obj), (∀ b o, s.heap.get? b = some o → h.get? b = some o) → ∀ b o, s.heap.get? b = some o → (h.update s.heap.objs.size f).get? b = some o := fun h f q b o e =>
    (Heap.get?_update_other _ _ (Ne.symm (Nat.ne_of_lt (Heap.lt_size e)))).trans (q b o e)
  have k4 := up _ (Obj.mapSeq (·.pop)) (up _ (Obj.mapSeq (·.push Value.none)) k1)
  refine wpAny_pure ⟨plainId_quiet F.plain_extend_loop _, codeAny_mono (h _ (.inr ⟨_, hS3⟩) k4) fun r s' hq => ?_⟩
  cases r with
  | error e => exact hq.elim
  | ok fl =>
    cases fl with
    | ret v =>
      obtain ⟨acc, c, rfl, hS', hQ⟩ := hq
      show wpAny _ A (load s.heap.objs.size >>= _) _ _ s'
      refine wpAny_bind (wpAny_load hS' ?_)
      exact wpAny_pure hQ
    | next => exact hq.elim
    | brk => exact hq.elim
    | cont => exact hq.elim
theorem code_tuple_by {s : Shared} {a : Addr} {gi : Nat} {Q₁ : Value → Shared → Prop} (hg : s.heap.IsGen a gi)
    (hc : ∀ {Q : List Value → Shared → Prop} {E' : Value → Shared → Prop}, (∀ acc s', (acc.length ≤ sizeLine ∧ Q₁ (.ref s'.heap.objs.size) { s' with heap := s'.heap.push { cls := .type "tuple", data := .seq acc.toArray } }) → Q acc s') → wpAny (model P w) A.in1 (collect (.ref a)) Q E' s) :
    codeAny (model P w) A (.call (.builtin "tuple.__new__") ⟨[.type "tuple", .ref a], []⟩) (wants Q₁ E) s := by
  refine codeAny_of_tree ?_
  show wpAny _ A.in1 (do checkBuiltinCall "tuple.__new__" ⟨[.type "tuple", .ref a], []⟩; again (.builtin "tuple.__new__" ⟨[.type "tuple", .ref a], []⟩)) _ _ s
  refine wpAny_bind (wpAny_of_eq (F.newCall_tuple_1 _) (wpAny_pure ⟨plainId_quiet F.plain_tuple_new _, codeAny_builtin F.entry_tuple_new ?_⟩))
  rw [Around.under_plainId F.plain_tuple_new _]
  have hsub := sub_tuple_self
  have hinit := init_tuple_lookup
  have hmh := madeHere_tuple
  have hTI := hg.typeIs (s := s)
  wp_walk using wpAny_typeOf hTI, hc
  intro acc s' hp
  obtain ⟨hz, hq⟩ := hp
  show wpAny _ _ (Builtin.Tuple.tupleExact acc.toArray >>= fun v => ret v) _ _ _
  unfold Builtin.Tuple.tupleExact
  refine wpAny_bind (wpAny_newObj_type ?_ (by show acc.toArray.size ≤ sizeLine; simpa using hz))
  exact wpAny_pure hq
theorem call_tuple_by {s : Shared} {a : Addr} {gi : Nat} {Q : Value → Shared → Prop} (hg : s.heap.IsGen a gi)
    (hc : ∀ {Q' : List Value → Shared → Prop} {E' : Value → Shared → Prop}, (∀ acc s', (acc.length ≤ sizeLine ∧ Q (.ref s'.heap.objs.size) { s' with heap := s'.heap.push { cls := .type "tuple", data := .seq acc.toArray } }) → Q' acc s') → wpAny (model P w) A.in1.in1 (collect (.ref a)) Q' E' s) :
    wpAny (model P w) A (call (.type "tuple") [.ref a]) Q E s := by
  refine callType_codes (Q₁ := fun obj s₁ => s₁.TypeIs obj "tuple" ∧ Q obj s₁) F.called_tuple (F.typeCall_tuple_1 _) F.entry_object_init
    (code_tuple_by hg fun {Q' E'} k => hc fun acc s' hp => k acc s' ⟨hp.1, ⟨_, Heap.get?_push_size _ rfl, rfl⟩, hp.2⟩) fun obj s₁ h₁ => ?_
  exact ⟨h₁.1, F.args_object_init_2 obj _, object_init_meets F.called_tuple.init.lookup F.called_tuple.made (by decide) P w A.in1 _ s₁ ⟨h₁.1, rfl, h₁.2⟩⟩
end

/-- tuple(e for x in it if ..): P the def's table; ys what is out so far -/
def tTupG (P : Addr) (wi : TI) (g : TG) (tt : TT) (te : TE) (vs : List Nat) : TE := fun σ H Q => wi σ H fun J H1 => GxR.TabG H1 P ∧ ∀ H4, GxR.Tabbed P H1 H4 → ∃ W : List V → Nat → Nat → Hp → Prop, (∃ m, W [] 0 m H4) ∧ ∀ ys i m H, W ys i m H →
  (J.stop i H ∧ ys.length ≤ sizeLine ∧ ∀ p, H p = none → Q (.ref p) (upd H p (.tup ys))) ∨ (J.go i H ∧ ∃ Nx : List V → Hp → Prop, (∀ zs H', Nx zs H' → ∃ m', m' < m ∧ W zs (i + 1) m' H') ∧ ∀ x H', J.yld i H x H' → g x (wipe σ vs) H' fun σ2 H2 => wipe σ2 vs = wipe σ vs ∧ tt σ2 H2 fun b H3 =>
    if b = true then te σ2 H3 fun y H5 => ys.length < sizeLine ∧ Nx (ys ++ [y]) H5 else Nx ys H3)

section
variable {X : Cx}
theorem pe_tupG {c P : Addr} {elt tg iter : Expr} {ifs : List Expr} {p pos gpos : Pos} {scope : Scope} {own : List (Str × Nat)} {wi : TI} {g : TG} {tt : TT} {te : TE} {k : Nat}
    (hr : Room (k + 2) X.A) (hc : X.calm = true) (hN : X.N.Nodup) (hg : Gl X "tuple") (hm : X.mg "tuple" = none) (hb : bootBuiltins "tuple" = some (.type "tuple")) (TB : GxR.TabB X.base X.mg c P) (hcode : X.env.code = .ref c) (hi : PI X tg iter wi) (ok : GScp X.N X.env.scope scope own)
    (pg : ∀ (B : Around) (s : Shared) (H : Hp) (C : Addr) (code : Value) (fp : List Addr), PG (gx X B s H (genEnv scope (cloFrom X.env.cells scope.names []) C code builtinsNs X.env) fp) tg g)
    (pt : ∀ (B : Around) (s : Shared) (H : Hp) (C : Addr) (code : Value) (fp : List Addr), Room k B → PTs (gx X B s H (genEnv scope (cloFrom X.env.cells scope.names []) C code builtinsNs X.env) fp) ifs tt)
    (pe : ∀ (B : Around) (s : Shared) (H : Hp) (C : Addr) (code : Value) (fp : List Addr), Room k B → PE (gx X B s H (genEnv scope (cloFrom X.env.cells scope.names []) C code builtinsNs X.env) fp) elt te)
    (hs : ∀ v, genFold iter X.env v = pure v := by intro _; rfl)
    (he : starEach [.GeneratorExp elt [⟨tg, iter, ifs, 0⟩] scope gpos] X.env = (false, eval (.GeneratorExp elt [⟨tg, iter, ifs, 0⟩] scope gpos) X.env) :: starEach [] X.env := by rfl) :
    PE X (.Call (.Name "tuple" p) [.GeneratorExp elt [⟨tg, iter, ifs, 0⟩] scope gpos] [] pos) (tTupG P wi g tt te (own.map (·.2))) := by
  refine ⟨fun pins s σ H Q I h => ?_⟩
  refine wpAny_Call_Name_kw (ld_blt I hg hm hb ?_)
  refine PyProof.Rows.callWith_type1 ?_ he (by rfl)
  rw [he]
  show wpAny _ _ (spliced ((false, eval (.GeneratorExp elt [⟨tg, iter, ifs, 0⟩] scope gpos) X.env) :: backTo pos (starEach [] X.env))) _ _ s
  refine Calls.spliced_cons (ge_make hr hN TB hcode ok hi hs I h fun u s5 hG => ?_)
  obtain ⟨a, gi, s4, H1, H4, J, fp, tn, it, go, nm, qn, code, rfl, tab, hq, I4, f4, T, st5, hgc, hgd, hgs, hga, hlt, hfl, hgen, hI⟩ := hG
  refine Calls.spliced_nil ?_
  obtain ⟨W, ⟨m0, w0⟩, turn⟩ := hq H4 tab
  have rB : Room k (X.A.in1.in1.in1.in1.over (.compLoop (.GeneratorExp elt [⟨tg, iter, ifs, 0⟩] scope gpos) 0 (.ref it) .none (genEnv scope (cloFrom X.env.cells scope.names []) s4.heap.objs.size code builtinsNs X.env)) []) :=
    room_over (A := X.A.in1.in1.in1.in1) ⟨hr.hd, by have := hr.dp; show X.A.depth + _ + _ < _; omega, by have := hr.un; show X.A.units + 1 + 1 + 1 + 1 + _ + _ < _; omega⟩
  have fB : (X.A.in1.in1.in1.in1.over (.compLoop (.GeneratorExp elt [⟨tg, iter, ifs, 0⟩] scope gpos) 0 (.ref it) .none (genEnv scope (cloFrom X.env.cells scope.names []) s4.heap.objs.size code builtinsNs X.env)) []).frames = some (genEnv scope (cloFrom X.env.cells scope.names []) s4.heap.objs.size code builtinsNs X.env :: X.stack) :=
    gx_frames (A := X.A.in1.in1.in1.in1) I4.ok.frames over_envs
  have I5 := hI _ fB rB.hd
  generalize hB : X.A.in1.in1.in1.in1.over (.compLoop (.GeneratorExp elt [⟨tg, iter, ifs, 0⟩] scope gpos) 0 (.ref it) .none (genEnv scope (cloFrom X.env.cells scope.names []) s4.heap.objs.size code builtinsNs X.env)) [] = B at rB I5
  have g5 : s5.heap.IsGen a gi := ⟨go, nm, qn, hga, hgc, hgd, hgs⟩
  have gturn : GTurn J g tt te (own.map (·.2)) (wipe σ (own.map (·.2))) W (fun ys i m y H => ys.length < sizeLine ∧ ∃ m', m' < m ∧ W (ys ++ [y]) (i + 1) m' H) (fun ys H => ys.length ≤ sizeLine ∧ ∀ p, H p = none → Q (.ref p) (upd H p (.tup ys))) := fun ys i m H hw => by
    rcases turn ys i m H hw with z | ⟨z1, Nx, z2, z3⟩
    · exact .inl z
    · exact .inr ⟨z1, _, Nx ys, fun y H' hy => ⟨hy.1, z2 _ _ hy.2⟩, fun H' h' => z2 _ _ h', z3⟩
  have fpa : ∀ p ∈ [(a, go)], ∀ b ∈ fp, p.1 ≠ b := fun p hp b hb => by
    rw [List.mem_singleton.mp hp]
    exact Nat.ne_of_gt (Nat.lt_trans (hfl b hb) hlt)
  refine call_tuple_by g5 fun {Q' E'} kk => collect_by g5 fun h1 hS1 kp1 => ?_
  have hal : a < s5.heap.objs.size := Heap.lt_size hga
  have hS4 : s4.heap.objs.size ≤ s5.heap.objs.size := Nat.le_of_lt (Nat.lt_trans hlt hal)
  obtain ⟨cS, hS⟩ : ∃ c, h1.get? s5.heap.objs.size = some (lstObj #[] c) := by
    rcases hS1 with z | z
    · exact ⟨_, z⟩
    · exact z
  -- the list is pinned
  have I6 : Inv (gx X B s4 H4 (genEnv scope (cloFrom X.env.cells scope.names []) s4.heap.objs.size code builtinsNs X.env) fp) [(a, go), (s5.heap.objs.size, lstObj #[] cS)] (wipe σ (own.map (·.2))) H4 { s5 with heap := h1 } := by
    have I5' := I5.kept (t' := s5.toks) kp1
    refine I5'.pins_of fun p hp => ?_
    rcases List.mem_cons.mp hp with z | z
    · rw [z]
      exact I5'.pin (a, go) (List.mem_append_right _ List.mem_cons_self)
    · rw [List.mem_singleton.mp z]
      exact ⟨hS, I5.hok.fresh (Nat.le_refl _), Nat.ne_of_gt I5.lt, I5.nofs (Nat.le_refl _), fun v q => by cases q⟩
  have fpS : ∀ p ∈ [(a, go), (s5.heap.objs.size, lstObj #[] cS)], ∀ b ∈ fp, p.1 ≠ b := fun p hp b hb => by
    rcases List.mem_cons.mp hp with z | z
    · rw [z]
      exact Nat.ne_of_gt (Nat.lt_trans (hfl b hb) hlt)
    · rw [List.mem_singleton.mp z]
      exact Nat.ne_of_gt (Nat.lt_of_lt_of_le (hfl b hb) hS4)
  have st6 : tn 0 h1 := T.keep 0 _ _ st5 fun b hb o e => kp1 b o e
  refine ext_drive (A := X.A.in1.in1) (Xg := gx X B s4 H4 (genEnv scope (cloFrom X.env.cells scope.names []) s4.heap.objs.size code builtinsNs X.env) fp) (fp := fp) (tn := tn) (S := s5.heap.objs.size) (a := a) (go := go) (gi := gi) (nm := nm) (qn := qn)
    (σ0 := wipe σ (own.map (·.2))) (W := W) (O := fun ys i m y H => ys.length < sizeLine ∧ ∃ m', m' < m ∧ W (ys ++ [y]) (i + 1) m' H) (End := fun ys H => ys.length ≤ sizeLine ∧ ∀ p, H p = none → Q (.ref p) (upd H p (.tup ys)))
    hr.hd (by have := hr.dp; show X.A.depth < _; omega) hgc hgd hgs (fun b hb => fpS (s5.heap.objs.size, lstObj #[] cS) (List.mem_cons_of_mem _ List.mem_cons_self) b hb) (Nat.ne_of_gt hal) hS4 rfl T.keep (fun i h st b hb => (T.obj i h st b hb).imp fun _ z => z.1)
    (fun ys i m x H hO => hO) (fun s hF => ?_) (m0 + 1) { s5 with heap := h1 } ⟨[], 0, H4, _, ⟨#[], cS, rfl, .nil⟩, fpS, I6, st6, fun b hb => (f4 b hb).1⟩ ⟨_, hgen, rfl, ?_⟩
  · obtain ⟨ys, H6, cp, ⟨acc, cc, rfl, rv⟩, I7, hz, q7⟩ := hF
    have eS := (I7.pin (s5.heap.objs.size, lstObj acc cc) (List.mem_append_right _ (List.mem_cons_of_mem _ List.mem_cons_self))).1
    refine ⟨acc, cc, rfl, eS, kk acc.toList s ⟨by rw [← rv.length]; exact hz, ?_⟩⟩
    have I8 := gx_back I4 f4 I7
    have hf : H6 s.heap.objs.size = none := I8.hok.fresh (Nat.le_refl _)
    refine ⟨.ref s.heap.objs.size, upd H6 s.heap.objs.size (.tup ys), I8.laid (t' := s.toks) (fun b u e => Heap.get?_push_of_some _ e) (Nat.le_refl _) ?_, rfl, q7 _ hf⟩
    exact ⟨hz, acc.toList, rv, ⟨_, Heap.get?_push_size _ rfl, rfl, _, rfl⟩⟩
  · subst hB
    refine ge_begin (CP := CPl s5.heap.objs.size) (a := a) (go := go) (σ0 := wipe σ (own.map (·.2))) hc ok.co T (pg _ _ _ _ _ _) (pt _ _ _ _ _ _ rB) (pe _ _ _ _ _ _ rB) gturn (wipe_wipe _ _) (m0 + 1) m0 (Nat.lt_succ_self _) [] 0 H4 _ _ ⟨_, ⟨#[], cS, rfl, .nil⟩, fpS, inv_setGen I6 rfl, st6, fun b hb => (f4 b hb).1⟩ w0
end
end LC
-- G8
namespace LC
open PySem PySem.Spec PyProof.Rows L2 GenW
open AutoSeq1 (wpAny_loadPart')

/-! sum of a tuple -/
def rSumT (K : PySem.W.Frag) : List V → Hp → VK → Prop := fun vs H Q => ∃ (a : Addr) (ns : List Int), vs = [V.ref a] ∧ (SqT K H a (ns.map V.int) ∨ SqL K H a (ns.map V.int)) ∧ Q (.int ns.sum) H
theorem cr_sumT {X : Cx} (hc : X.calm = true) : CallR X (.builtin "sum") (rSumT X.K) := by
  intro pins s σ H vs us Q I r h
  obtain ⟨a, ns, rfl, hs, q⟩ := h
  rcases hs with hs | hs
  · obtain ⟨its, rv, hl, _⟩ := I.tuple hs
    rw [Vals.ref1 r]
    obtain ⟨xs, e⟩ := rv.ints.allInts.items
    have hn : numsOf (intItems xs).toList = ns := by rw [← e]; exact rv.ints.numsOf
    rw [nums_intItems] at hn
    have hT : s.heap.IsTuple a (intItems xs) := by rw [← e]; exact hl
    have hlt : a < s.heap.objs.size := hl.lt
    have hne : a ≠ s.heap.objs.size := Nat.ne_of_lt hlt
    refine call_sum_walkG (wpAny_pyIter_tuple hT ⟨s.heap.objs.size, _, _, _, _, _, numAt xs, rfl, Walks.tuple (A := X.A.in1) (I.ok.hd hc) s.heap.objs.size a hne (intItems xs), ⟨⟨_, Heap.get?_push_size _ rfl, rfl, rfl⟩, ?_⟩, ?_, fun _ _ => intItems_at, fun h' tk t' hk => ?_⟩)
    · obtain ⟨o, ho, r⟩ := hT
      exact ⟨o, Heap.get?_push_of_some _ ho, r⟩
    · intro b hb
      show b < (s.heap.push _).objs.size
      rw [Heap.size_push]
      rcases List.mem_cons.mp hb with z | z
      · rw [z]; exact Nat.lt_succ_self _
      · rw [List.mem_singleton.mp z]; exact Nat.lt_succ_of_lt hlt
    · have hk' : ∀ b o, s.heap.get? b = some o → h'.get? b = some o := fun b o e => hk b o (fun z => by rw [List.mem_singleton.mp z] at e; exact absurd (Heap.lt_size e) (Nat.lt_irrefl _)) (Heap.get?_push_of_some _ e)
      have e1 : preSum (numAt xs) (intItems xs).size = ns.sum := by
        have : (intItems xs).size = xs.size := by simp [intItems]
        rw [this, preSum_eq, List.take_of_length_le (by simp), hn]
      rw [e1]
      exact ⟨.int _, H, I.kept (t' := tk) hk', ⟨_, rfl⟩, q⟩
  · obtain ⟨its, rv, hl, _⟩ := I.list hs
    rw [Vals.ref1 r]
    exact sum_raw (I.ok.hd hc) hl.isList rv.ints fun h' tk t' hk => ⟨.int _, H, I.kept hk, ⟨_, rfl⟩, q⟩

/-! enumerate over a tuple -/
theorem made_enumT (l : Addr) (o : Obj) (items : Array Value) (hT : ∀ h : Heap, h.get? l = some o → h.IsTuple l items) :
    Meets (Builtin.«enumerate.__new__» ⟨[.type "enumerate", .ref l], []⟩) (fun _ R s => s.heap.get? l = some o ∧
      R (.ok (.ret (.ref (s.heap.push { cls := .type "tuple_iterator", data := .fields #[.ref l, .int 0 0] }).objs.size)))
        { s with heap := (s.heap.push { cls := .type "tuple_iterator", data := .fields #[.ref l, .int 0 0] }).push { cls := .type "enumerate", data := .fields #[.none, .bool false, .ref s.heap.objs.size, rawInt 0, .none, .none] } }) :=
  .of_wp fun prog w A R s h => by
    obtain ⟨hp, g, d, tk, os⟩ := s; obtain ⟨hl, h⟩ := h
    have hsub := sub_enumerate
    have hL : Heap.IsTuple (Shared.heap ⟨hp, g, d, tk, os⟩) l items := hT _ hl
    wp_walk using wpAny_loadPart' hl
    refine wpAny_stack_any fun st => wpAny_pure ?_
    split
    · rename_i c _ _ _ _ _
      cases (c == Value.type "enumerate")
      · wp_walk using wpAny_loadPart' hl, wpAny_pyIter_tuple hL
        exact ⟨_, rfl, h⟩
      · wp_walk using wpAny_loadPart' hl, wpAny_pyIter_tuple hL
        exact ⟨_, rfl, h⟩
    · wp_walk using wpAny_loadPart' hl, wpAny_pyIter_tuple hL
      exact ⟨_, rfl, h⟩
section
variable {prog : Program} {w : World} {A : Around} {E : Value → Shared → Prop} {s : Shared}
theorem call_enumT {l : Addr} {items : Array Value} {Q : Value → Shared → Prop} (hL : s.heap.IsTuple l items)
    (h : ∀ h', IsEnum h' (s.heap.objs.size + 1) s.heap.objs.size 0 .none → h'.IsTupleIter s.heap.objs.size l 0 → (∀ b o, s.heap.get? b = some o → h'.get? b = some o) → Q (.ref (s.heap.objs.size + 1)) { s with heap := h' }) :
    wpAny (model prog w) A (call (.type "enumerate") [.ref l]) Q E s := by
  obtain ⟨o, hl, rr⟩ := _root_.id hL
  refine callType_new F.called_enumerate (by decide) (F.typeCall_enumerate_1 _) (F.newCall_enumerate_1 _) (fun obj => F.args_object_init_2 obj _) F.entry_enumerate_new
    (made_enumT l o items fun h e => ⟨o, e, rr⟩) ⟨hl, ?_⟩
  generalize hy : ({ cls := .type "tuple_iterator", data := .fields #[.ref l, .int 0 0] } : Obj) = y
  have hyd : y.isFreed = false := by rw [← hy]; rfl
  generalize hz : s.heap.push y = h1
  have h1s : h1.objs.size = s.heap.objs.size + 1 := by rw [← hz]; exact Heap.size_push ..
  have h1g : h1.get? s.heap.objs.size = some y := by rw [← hz]; exact Heap.get?_push_size _ hyd
  have h1k : ∀ b o, s.heap.get? b = some o → h1.get? b = some o := fun b o e => by rw [← hz]; exact Heap.get?_push_of_some _ e
  generalize hv : ({ cls := .type "enumerate", data := .fields #[.none, .bool false, .ref s.heap.objs.size, rawInt 0, .none, .none] } : Obj) = v
  have h2g : (h1.push v).get? h1.objs.size = some v := by rw [← hv]; exact Heap.get?_push_size _ rfl
  have he : IsEnum (h1.push v) (s.heap.objs.size + 1) s.heap.objs.size 0 .none := by
    have q := h2g
    rw [h1s, ← hv] at q
    rw [← hv]
    exact q
  have goal : Q (.ref (s.heap.objs.size + 1)) { s with heap := h1.push v } := h _ he ⟨y, Heap.get?_push_of_some _ h1g, by rw [← hy], by rw [← hy]; rfl⟩ fun b o e => Heap.get?_push_of_some _ (h1k b o e)
  rw [← h1s] at goal
  refine ⟨⟨v, h2g, by rw [← hv]⟩, goal⟩
end
def IteT (K : PySem.W.Frag) (a : Addr) : It :=
  ⟨fun i H => ∃ (xs : List V) (x : V), SqT K H a xs ∧ xs[i]? = some x, fun i H v H' => ∃ T x, v = .ref T ∧ H T = none ∧ H' = upd H T (.tup [.int (i : Nat), x]) ∧ ∀ xs, SqT K H a xs → xs[i]? = some x, fun i H => ∃ xs : List V, SqT K H a xs ∧ i = xs.length⟩
theorem turn_enumT {P : Program} {w : World} {K : PySem.W.Frag} {elts : List Expr} {kk : Nat} {tpos : Pos} (a e it : Addr) :
    Turn P w K (.Tuple elts kk tpos) (IteT K a) [e, it] e (fun i h => (∃ old, IsEnum h e it ((i : Nat) : Int) old) ∧ h.IsTupleIter it a i ∧ e ≠ it) where
  mem := List.mem_cons_self
  obj := fun i h st b hb => by
    obtain ⟨⟨old, he⟩, ⟨o, ho, hc, hd⟩, _⟩ := st
    rcases List.mem_cons.mp hb with z | z
    · rw [z]; exact ⟨_, he, fun v q => nomatch q⟩
    · rw [List.mem_singleton.mp z]; exact ⟨o, ho, fun v q => by rw [hd] at q; cases q⟩
  keep := fun i h h' st k => by
    obtain ⟨⟨old, he⟩, hi, hne⟩ := st
    exact ⟨⟨old, k e List.mem_cons_self _ he⟩, hi.at fun o q => k it (List.mem_cons_of_mem _ List.mem_cons_self) o q, hne⟩
  item := by
    intro X hP hw hK hc i pins s σ H E I hf st hg
    subst hP hw hK
    obtain ⟨⟨old, he⟩, hit, hne⟩ := st
    obtain ⟨xs, x, hq, hx⟩ := hg
    obtain ⟨its, rv, p, hz⟩ := I.tuple hq
    obtain ⟨u, hu, ru⟩ := rv.get hx
    have hel : e < s.heap.objs.size := Heap.lt_size he
    have hil : it < s.heap.objs.size := by obtain ⟨_, q, _⟩ := hit; exact Heap.lt_size q
    have hpt : s.heap.IsTuple a its.toArray := p
    have hae : a ≠ e := fun z => by
      obtain ⟨o, q, c, _⟩ := hpt
      rw [z] at q
      have q2 : s.heap.get? e = some _ := he
      rw [q2] at q
      cases q
      exact absurd (show Value.type "enumerate" = Value.type "tuple" from c) (by decide)
    have hai : a ≠ it := fun z => by
      obtain ⟨o, q, c, _⟩ := hpt
      obtain ⟨o2, q2, c2, _⟩ := hit
      rw [z, q2] at q
      cases q
      rw [c2] at c
      exact absurd c (by decide)
    have hlt : i < its.toArray.size := by
      have := (List.getElem?_eq_some_iff.mp hu).1
      simpa using this
    refine wpAny_pyNext_enum_itemD (Draws.tuple (prog := X.prog) (w := X.w) (A := X.A.in1) (I.ok.hd hc) it a hai its.toArray) he ⟨hit, hpt⟩ hlt hne ?_ fun y h' tk hy ho hst hT hsz hk => ?_
    · intro hm
      rcases List.mem_cons.mp hm with z | z
      · exact hne z
      · exact hae (List.mem_singleton.mp z).symm
    have ey : y = u := by
      have h2 : its.toArray[i]? = some u := by simpa using hu
      rw [h2] at hy
      exact (Option.some.inj hy).symm
    subst ey
    refine ⟨_, rfl, wpAny_letOwnedTupleGo_enum (s := { s with heap := h', toks := tk + 1 }) ho fun h'' he' sb => ?_⟩
    have hT2 := (sb.2 s.heap.objs.size (Nat.ne_of_gt hel)).trans hT
    have new : ObjOk X.prog X.w (upd H s.heap.objs.size (.tup [.int (i : Nat), x])) h'' s.heap.objs.size (.tup [.int (i : Nat), x]) :=
      ⟨(by decide : 2 ≤ sizeLine), [.int i tk, y], .cons ⟨_, rfl⟩ (.cons ru .nil), _, hT2, rfl, _, rfl⟩
    have ke : ∀ b ob, b ∉ [e, it] → s.heap.get? b = some ob → h''.get? b = some ob := fun b ob hb q => (sb.2 b fun z => hb (by rw [z]; exact List.mem_cons_self)).trans (hk b ob (fun z => hb (by rw [z]; exact List.mem_cons_self)) (fun z => hb (by rw [z]; exact List.mem_cons_of_mem _ List.mem_cons_self)) q)
    have I1 := I.turnedNew (h' := h'') (t' := tk + 1) (ch := [e, it]) ke hf (Nat.le_refl _) new
    refine ⟨.ref s.heap.objs.size, _, I1, rfl, ⟨_, x, rfl, I.hok.fresh (Nat.le_refl _), rfl, fun ys hy => by rw [I.tuple_inj hy hq]; exact hx⟩, ⟨⟨y, ?_⟩, hst.1.at fun o q => (sb.2 it (Ne.symm hne)).trans q, hne⟩, fun b hb => ?_⟩
    · rw [show ((i + 1 : Nat) : Int) = (i : Int) + 1 from rfl]; exact he'
    · have hb' : b < s.heap.objs.size := by
        rcases List.mem_cons.mp hb with z | z
        · rw [z]; exact hel
        · rw [List.mem_singleton.mp z]; exact hil
      rw [upd_ne (Nat.ne_of_lt hb')]
      exact (hf b hb).1
  done := by
    intro X hP hw hK hc i pins s σ H E I hf st hg
    subst hP hw hK
    obtain ⟨⟨old, he⟩, hit, hne⟩ := st
    obtain ⟨xs, hq, hx⟩ := hg
    obtain ⟨its, rv, p, hz⟩ := I.tuple hq
    have hpt : s.heap.IsTuple a its.toArray := p
    obtain ⟨f0, f1, f2, f3, f4, f5⟩ := hf it (List.mem_cons_of_mem _ List.mem_cons_self)
    have hl := rv.length
    have hai : a ≠ it := fun z => by
      obtain ⟨o, q, c, _⟩ := hpt
      obtain ⟨o2, q2, c2, _⟩ := hit
      rw [z, q2] at q
      cases q
      rw [c2] at c
      exact absurd c (by decide)
    have ei : i = its.toArray.size := by rw [hx, hl]; simp
    subst ei
    exact wpAny_pyNext_enum_endD (Draws.tuple (prog := X.prog) (w := X.w) (A := X.A.in1) (I.ok.hd hc) it a hai its.toArray) he ⟨hit, hpt⟩ fun h' eb => ⟨rfl, I.turned (t' := s.toks) (fun b o hb q => eb b o hb q) f0 f1 f3 f4 f5⟩
  self := fun A i s Q E st h => by
    obtain ⟨⟨_, he⟩, _⟩ := st
    exact wpAny_pyIter_enum he h
def iEnumT (K : PySem.W.Frag) (ta : TA) : TI := fun σ H R => ta σ H fun vs H1 => ∃ a xs, vs = [.ref a] ∧ SqT K H1 a xs ∧ R (IteT K a) H1
theorem pi_enumT {X : Cx} {e : Expr} {ta : TA} {p pos tpos : Pos} {elts : List Expr} {kk : Nat} (hg : Gl X "enumerate") (hm : X.mg "enumerate" = none) (ha : PA X [e] ta) (hs : starEach [e] X.env = [(false, eval e X.env)] := by rfl) :
    PI X (.Tuple elts kk tpos) (.Call (.Name "enumerate" p) [e] [] pos) (iEnumT X.K ta) := by
  refine ⟨fun pins s σ H R I h => ?_⟩
  refine Call_ (ld_blt I hg hm boot_enumerate (PyProof.Rows.callWith_type1 (thn (ha.run pos pins s σ H _ I h) fun us s1 hh => ?_) hs rfl))
  obtain ⟨vs, H1, I1, r1, a, xs, ex, hq, q⟩ := hh
  subst ex
  rw [Vals.ref1 r1]
  obtain ⟨its, rv, p', hz⟩ := I1.tuple hq
  refine call_enumT (show s1.heap.IsTuple a its.toArray from p') fun h' he hit hk => wpAny_pyIter_enum he ?_
  refine ⟨s1.heap.objs.size + 1, [s1.heap.objs.size + 1, s1.heap.objs.size], _, _, H1, rfl, I1.kept (t' := s1.toks) hk, turn_enumT a _ _, ⟨⟨.none, he⟩, hit, Nat.succ_ne_self _⟩, fun b hb => ?_, q⟩
  have hle : s1.heap.objs.size ≤ b := by
    rcases List.mem_cons.mp hb with z | z
    · rw [z]; exact Nat.le_succ _
    · rw [List.mem_singleton.mp z]; exact Nat.le_refl _
  exact I1.fpOk hle (I1.hok.fresh hle)

/-! max(xs, default=d), xs a list of whole numbers -/
theorem args_maxD (a v : Value) : argsOk "max" ⟨[a], [(Str.ofString "default", v)]⟩ := by unfold argsOk; kernel_rfl
def rMaxDf (K : PySem.W.Frag) : List V → List V → Hp → VK → Prop := fun vs zs H Q => ∃ (a : Addr) (ns : List Int) (d : Int), vs = [V.ref a] ∧ zs = [V.int d] ∧ SqL K H a (ns.map V.int) ∧ ∀ m, (ns = [] → m = d) → (ns ≠ [] → m ∈ ns ∧ ∀ y ∈ ns, y ≤ m) → Q (.int m) H
section
variable {prog : Program} {w : World} {A : Around} {E : Value → Shared → Prop}
theorem gt_raw {a b : Int} {t u : Tok} {s : Shared} {Q : Value → Shared → Prop} (h : Q (.bool (decide (a > b))) s) : wpAny (model prog w) A (richCompare .Gt (.int a t) (.int b u)) Q E s :=
  CmpOf.ints_gt (prog := prog) (w := w) (A := A) (P := fun i v => ∃ t, v = Value.int (if i = 0 then a else b) t) (fun i => if i = 0 then a else b) (fun _ _ h => h) 0 1 _ _ s Q E ⟨t, rfl⟩ ⟨u, rfl⟩ h
/-- the two places of the walker's own list -/
def bestA : Option (Int × Tok) → Array Value
  | none => #[]
  | some p => #[.int p.1 p.2, .int p.1 p.2]
def bestOk (ns : List Int) (i : Nat) : Option (Int × Tok) → Prop
  | none => i = 0
  | some p => 0 < i ∧ p.1 ∈ ns.take i ∧ ∀ y ∈ ns.take i, y ≤ p.1
theorem take_snoc {ns : List Int} {i : Nat} {k : Int} (h : ns[i]? = some k) : ns.take (i + 1) = ns.take i ++ [k] := by
  rw [List.take_add_one, h]; rfl
theorem maxD_loop {it l S : Addr} {its : List Value} {ns : List Int} {d : Value} {R : Result → Shared → Prop} (hh : A.handled = none) (rv : Vals (ns.map V.int) its) (hn1 : S ≠ it) (hn2 : S ≠ l) (hn3 : l ≠ it) :
    ∀ (k i : Nat) (s : Shared) (best : Option (Int × Tok)) (c : Nat), ns.length - i = k → i ≤ ns.length → s.heap.IsListIter it l i → s.heap.IsList l its.toArray → s.heap.get? S = some (lstObj (bestA best) c) → bestOk ns i best →
      (∀ h' tk m, ((ns = [] ∧ m = d) ∨ ∃ k t, m = .int k t ∧ k ∈ ns ∧ ∀ y ∈ ns, y ≤ k) → (∀ b o, b ≠ it → b ≠ S → s.heap.get? b = some o → h'.get? b = some o) → R (.ok (.ret m)) { s with heap := h', toks := tk }) →
      codeAny (model prog w) A (.builtin "max.loop" ⟨[.ref it, .none, .ref S], [(Str.ofString "default", d)]⟩) R s := by
  have hname : (toString "max" ++ toString ".loop" : String) = "max.loop" := by decide
  have hlen : its.length = ns.length := by rw [← rv.length, List.length_map]
  intro k
  induction k with
  | zero =>
    intro i s best c hk hi hit hl hS hb hR
    have ei : i = ns.length := by omega
    refine codeAny_builtin F.entry_max_loop ?_
    rw [Around.under_plainId F.plain_max_loop _]
    show wpAny _ A.in1 (seqItems? (.ref S) >>= _) _ _ s
    refine wpAny_bind (wpAny_seqItems hS rfl ?_)
    show wpAny _ A.in1 (tryCatch (pyNext (.ref it)) _ >>= _) _ _ s
    refine wpAny_bind (wpAny_tryCatch (wpAny_pyNext_list_end (A := A.in1) hh hit hl (by simp; omega) fun h' eb => ?_))
    cases best with
    | none =>
      have i0 : i = 0 := hb
      have e0 : ns = [] := List.length_eq_zero_iff.mp (by omega)
      refine wpAny_bind (wpAny_rule (wpAny_pure ?_))
      exact hR h' s.toks d (.inl ⟨e0, rfl⟩) fun b o h1 _ e => eb b o h1 e
    | some p =>
      obtain ⟨b1, b2, b3⟩ := hb
      have hS' := eb S _ hn1 hS
      show wpAny _ A.in1 (updateSeq S (fun _ => #[]) >>= _) _ _ _
      refine wpAny_bind ?_
      refine wpAny_updateSeq (hz := (show 2 ≤ sizeLine by decide)) hS' rfl (wpAny_bind (wpAny_letGo (wpAny_pure ?_)))
      have et : ns.take i = ns := by rw [ei]; exact List.take_length
      rw [et] at b2 b3
      exact hR _ s.toks _ (.inr ⟨p.1, p.2, rfl, b2, b3⟩) fun b o h1 h2 e => (Heap.get?_update_other _ _ (Ne.symm h2)).trans (eb b o h1 e)
  | succ k ih =>
    intro i s best c hk hi hit hl hS hb hR
    have hlt : i < ns.length := by omega
    obtain ⟨kv, ekv⟩ : ∃ kv, ns[i]? = some kv := ⟨ns[i], List.getElem?_eq_getElem hlt⟩
    obtain ⟨u, hu, ru⟩ := rv.get (show (ns.map V.int)[i]? = some (V.int kv) by rw [List.getElem?_map, ekv]; rfl)
    obtain ⟨t, rfl⟩ := ru
    have ts := take_snoc ekv
    refine codeAny_builtin F.entry_max_loop ?_
    rw [Around.under_plainId F.plain_max_loop _]
    show wpAny _ A.in1 (seqItems? (.ref S) >>= _) _ _ s
    refine wpAny_bind (wpAny_seqItems hS rfl ?_)
    show wpAny _ A.in1 (tryCatch (pyNext (.ref it)) _ >>= _) _ _ s
    refine wpAny_bind (wpAny_tryCatch (wpAny_pyNext_list_item (A := A.in1) hit hl (x := .int kv t) (by simpa using hu) fun h' hit' sb => ?_))
    have hS' : h'.get? S = some (lstObj (bestA best) c) := (sb.2 S hn1).trans hS
    have hl' : h'.IsList l its.toArray := hl.extBut sb.extBut hn3
    have step : ∀ (p : Int × Tok) (h2 : Heap) (c2 : Nat), (∀ b o, b ≠ S → h'.get? b = some o → h2.get? b = some o) → h2.get? S = some (lstObj (bestA (some p)) c2) → bestOk ns (i + 1) (some p) →
        codeAny (model prog w) A (.builtin "max.loop" ⟨[.ref it, .none, .ref S], [(Str.ofString "default", d)]⟩) R { s with heap := h2 } := fun p h2 c2 k2 e2 b2 =>
      ih (i + 1) { s with heap := h2 } (some p) c2 (by omega) hlt (hit'.at fun o e => k2 it o (Ne.symm hn1) e) (hl'.at fun o e => k2 l o (Ne.symm hn2) e) e2 b2 fun h3 tk m hm hk3 => hR h3 tk m hm fun b o h1 hb2 e => hk3 b o h1 hb2 (k2 b o hb2 ((sb.2 b h1).trans e))
    cases best with
    | none =>
      have i0 : i = 0 := hb
      show wpAny _ A.in1 (updateSeq S (fun _ => #[Value.int kv t, Value.int kv t]) >>= _) _ _ _
      refine wpAny_bind ?_
      refine wpAny_updateSeq hS' rfl ?_
      rw [hname]
      obtain ⟨c3, e3⟩ : ∃ c3, (h'.update S (Obj.mapSeq fun _ => #[Value.int kv t, Value.int kv t])).get? S = some (lstObj (bestA (some (kv, t))) c3) := ⟨_, Heap.get?_update_self _ hS' rfl⟩
      refine wpAny_pure ⟨plainId_quiet F.plain_max_loop _, step (kv, t) _ c3 (fun b o h1 e => (Heap.get?_update_other _ _ (Ne.symm h1)).trans e) e3 ⟨Nat.succ_pos _, ?_, ?_⟩⟩
      · rw [ts]; simp
      · rw [ts, i0]; intro y hy; simp at hy; rw [hy]; exact Int.le_refl _
    | some p =>
      obtain ⟨b1, b2, b3⟩ := hb
      show wpAny _ A.in1 (tryCatch (holding [Value.int kv t, Value.int kv t] (richCompare .Gt (Value.int kv t) (Value.int p.1 p.2) >>= _)) _ >>= _) _ _ _
      refine wpAny_bind (wpAny_tryCatch (wpAny_holding (wpAny_bind (gt_raw ?_))))
      refine wpAny_bind (wpAny_holding (wpAny_truthy_bool ?_))
      refine wpAny_bind (wpAny_letGo (wpAny_pure ?_))
      by_cases hg : kv > p.1
      · rw [decide_eq_true hg]
        simp only [if_true]
        refine wpAny_bind ?_
        refine wpAny_updateSeq (hz := (show 2 ≤ sizeLine by decide)) hS' rfl (wpAny_bind (wpAny_letGo ?_))
        rw [hname]
        obtain ⟨c3, e3⟩ : ∃ c3, (h'.update S (Obj.mapSeq fun _ => #[Value.int kv t, Value.int kv t])).get? S = some (lstObj (bestA (some (kv, t))) c3) := ⟨_, Heap.get?_update_self _ hS' rfl⟩
        refine wpAny_pure ⟨plainId_quiet F.plain_max_loop _, step (kv, t) _ c3 (fun b o h1 e => (Heap.get?_update_other _ _ (Ne.symm h1)).trans e) e3 ⟨Nat.succ_pos _, ?_, ?_⟩⟩
        · rw [ts]; simp
        · rw [ts]; intro y hy
          rcases List.mem_append.mp hy with z | z
          · have := b3 y z; show y ≤ kv; omega
          · rw [List.mem_singleton.mp z]; exact Int.le_refl _
      · rw [decide_eq_false hg]
        simp only [Bool.false_eq_true, if_false]
        refine wpAny_bind (wpAny_letGo ?_)
        rw [hname]
        refine wpAny_pure ⟨plainId_quiet F.plain_max_loop _, step p h' c (fun b o _ e => e) hS' ⟨Nat.succ_pos _, ?_, ?_⟩⟩
        · rw [ts]; exact List.mem_append_left _ b2
        · rw [ts]; intro y hy
          rcases List.mem_append.mp hy with z | z
          · exact b3 y z
          · rw [List.mem_singleton.mp z]; omega
end
theorem cr_maxDf {X : Cx} (hc : X.calm = true) : CallRK X (.builtin "max") [Str.ofString "default"] (rMaxDf X.K) := by
  intro pins s σ H vs zs us ws Q I r rz h
  obtain ⟨a, ns, d, rfl, rfl, hs, q⟩ := h
  obtain ⟨its, rv, hl, _⟩ := I.list hs
  rw [Vals.ref1 r]
  cases rz with
  | cons rd rn =>
    cases rn
    obtain ⟨td, rfl⟩ := rd
    have hlt : a < s.heap.objs.size := by
      obtain ⟨_, e, _⟩ := hl.isList
      exact Heap.lt_size e
    have hname : (toString "max" ++ toString ".loop" : String) = "max.loop" := by decide
    have hfin : wpAny (model X.prog X.w) X.A.in1 (Builtin.«max» ⟨[.ref a], [(Str.ofString "default", .int d td)]⟩) (fun fin s' => match fin with
        | .done f => (match (Except.ok f : Result) with | .ok (.ret v) => EP X pins σ Q v s' | .ok _ => False | .error e => X.xe e s')
        | .again c' => c'.quiet = true ∧ codeAny (model X.prog X.w) X.A c' (fun r s' => match r with | .ok (.ret v) => EP X pins σ Q v s' | .ok _ => False | .error e => X.xe e s') s') (fun e s' => X.xe e s') s := by
      show wpAny _ _ (Builtin.Builtins.bindParams "max" ["key", "default"] 0 ⟨[], [(Str.ofString "default", .int d td)]⟩ >>= _) _ _ s
      refine wpAny_bind (wpAny_of_eq (show Builtin.Builtins.bindParams "max" ["key", "default"] 0 ⟨[], [(Str.ofString "default", .int d td)]⟩ = pure [none, some (.int d td)] by kernel_rfl) ?_)
      refine wpAny_bind (wpAny_pure ?_)
      refine wpAny_bind (wpAny_pyIter_list hl.isList ?_)
      refine wpAny_bind (wpAny_newObj_type ?_)
      rw [hname]
      have hz : (s.heap.push { cls := .type "list_iterator", data := .fields #[.ref a, .int 0 0] }).objs.size = s.heap.objs.size + 1 := Heap.size_push ..
      generalize hg1 : s.heap.push { cls := .type "list_iterator", data := .fields #[.ref a, .int 0 0] } = h1 at hz
      have it1 : h1.IsListIter s.heap.objs.size a 0 := by rw [← hg1]; exact ⟨_, Heap.get?_push_size _ rfl, rfl, rfl⟩
      have k1 : ∀ b o, s.heap.get? b = some o → h1.get? b = some o := fun b o e => by rw [← hg1]; exact Heap.get?_push_of_some _ e
      refine wpAny_pure ⟨plainId_quiet F.plain_max_loop _, ?_⟩
      refine maxD_loop (l := a) (it := s.heap.objs.size) (S := h1.objs.size) (its := its) (ns := ns) (I.ok.hd hc) rv (by rw [hz]; exact Nat.succ_ne_self _) (by rw [hz]; exact Nat.ne_of_gt (Nat.lt_succ_of_lt hlt)) (Nat.ne_of_lt hlt) ns.length 0 _ none 0 (by omega) (Nat.zero_le _) (it1.at fun o e => Heap.get?_push_of_some _ e)
        ((hl.isList.at fun o e => Heap.get?_push_of_some _ (k1 a o e))) (Heap.get?_push_size _ rfl) rfl fun h' tk m hm hk => ?_
      have hk' : ∀ b o, s.heap.get? b = some o → h'.get? b = some o := fun b o e => hk b o (Nat.ne_of_lt (Heap.lt_size e)) (by rw [hz]; exact Nat.ne_of_lt (Nat.lt_succ_of_lt (Heap.lt_size e))) (Heap.get?_push_of_some _ (k1 b o e))
      have I2 := I.kept (t' := tk) hk'
      rcases hm with ⟨e0, rfl⟩ | ⟨k, t, rfl, b1, b2⟩
      · exact ⟨.int d, H, I2, ⟨_, rfl⟩, q d (fun _ => rfl) fun z => absurd e0 z⟩
      · exact ⟨.int k, H, I2, ⟨_, rfl⟩, q k (fun z => by rw [z] at b1; cases b1) fun _ => ⟨b1, b2⟩⟩
    refine wpAny_call (codeAny_call_builtin F.plain_max F.entry_max ?_)
    simp only [checkBuiltinCall, F.kind_max]
    cases hsig : Manifest.signature? "max" with
    | none => exact wpAny_pure hfin
    | some sig =>
      have ha := args_maxD (.ref a) (.int d td)
      have ha' : Bind.checkArgs "max" sig ⟨[.ref a], [(Str.ofString "default", .int d td)]⟩ = pure () := by simpa only [argsOk, hsig] using ha
      show wpAny _ _ (Bind.checkArgs "max" sig ⟨[.ref a], [(Str.ofString "default", .int d td)]⟩) _ _ s
      rw [ha']
      exact wpAny_pure hfin
end LC
-- L1
namespace LC
open PySem PySem.Spec PyProof.Rows L2 GenW

/-! ### defs, and how they are called -/
structure Callee (P : Program) (w : World) (K : PySem.W.Frag) (mg : Str → Option Value) (base : Heap) (x : Str) (k : Nat) (ps : List Str) (sp : Sp) : Prop where
  ex : ∃ f fd, mg x = some (.ref f) ∧ PySem.W.keepIn K (.ref f) = true ∧ Binds K fd ps [] ∧ FnOk P w K mg base CX0 k f fd ps sp
theorem pe_callC {X : Cx} {x : Str} {j k : Nat} {ps : List Str} {sp : Sp} {p pos : Pos} {e : Expr} {es : List Expr} {t : TA} (C : Callee X.prog X.w X.K X.mg X.base x j ps sp) (hr : Room k X.A) (hg : Gl X x) (ha : PA X (e :: es) t)
    (hle : j ≤ k := by decide) (hdb : (x == ("__debug__" : Str)) = false := by decide) (he : starEach (e :: es) X.env = (false, eval e X.env) :: starEach es X.env := by rfl) (hpl : (backTo pos (starEach es X.env)).any (·.1) = false := by rfl) :
    PE X (.Call (.Name x p) (e :: es) [] pos) (tCall sp [] E0 t) := by
  obtain ⟨f, fd, hm, hk, hb, F⟩ := C.ex
  exact pe_call (F.mono hle) hr hg hm hk hb .nil pass0 ha hdb he hpl
theorem Callee.imp {P : Program} {w : World} {K : PySem.W.Frag} {mg : Str → Option Value} {base : Heap} {x : Str} {k : Nat} {ps : List Str} {sp sp' : Sp} (C : Callee P w K mg base x k ps sp) (h : ∀ vs H Q E, sp' vs H Q E → sp vs H Q E) : Callee P w K mg base x k ps sp' := by
  obtain ⟨f, fd, hm, hk, hb, F⟩ := C.ex
  exact ⟨f, fd, hm, hk, hb, F.imp h⟩

/-- a def whose code object stands at c -/
structure FunC (K : PySem.W.Frag) (x : Str) (st : Stmt) (f : Addr) (fd : FuncData) (c : Addr) : Prop where
  ex : ∃ (oc : Value) (od : Option Addr) (kV doc pm : Value) (an : Option Addr) (ct : Value) (osl : Array (Option Value)),
    fd = PySem.W.fnOf x x (defArgs st) (defBody st) (defScope st) .none kV doc pm an (.ref c) ct ∧ K.lookup f = some ⟨oc, od, .func fd, osl⟩ ∧ PySem.W.codeIn K (.ref c) x = true
  kp : PySem.W.keepIn K (.ref f) = true
section
variable {P : Program} {w : World} {K : PySem.W.Frag} {mg : Str → Option Value} {base : Heap} {x : Str} {st : Stmt} {f c : Addr} {fd : FuncData} {N ps : List Str} {k : Nat} {sp : Sp}
theorem FunC.ok (F : FunC K x st f fd c) (S : FnScope N ps (defScope st)) (len : ∀ vs H Q E, sp vs H Q E → vs.length = ps.length)
    (hbody : ∀ (A : Around) (outer : List Env) (s : Shared) (H : Hp) (vs : List V) (Q : VK) (E : XK), Room k (A.deeper (envOfC x (defScope st) s.heap.objs.size f (.ref c))) → sp vs H Q E →
      ∃ t, PSs (cxOf CX0 P w K mg base N x (defScope st) f (.ref c) A outer s H E).nox (defBody st) t ∧ t { nx := fun _ H' => Q .non H', rt := Q } (start N vs) H) : FnOk P w K mg base CX0 (k + 1) f fd ps sp := by
  obtain ⟨oc, od, kV, doc, pm, an, ct, osl, rfl, lk, hcd⟩ := F.ex
  refine fn_of lk hcd S len fun A outer s H vs Q E hr hsp => ?_
  obtain ⟨t, h, q⟩ := hbody A outer s H vs Q E hr hsp
  exact ⟨t, h.nox, q⟩
theorem FunC.binds (F : FunC K x st f fd c) (h : ∀ (kV doc pm : Value) (an : Option Addr) (cdv ct : Value) (us : List Value), us.length = ps.length → bindArgs (PySem.W.fnOf x x (defArgs st) (defBody st) (defScope st) .none kV doc pm an cdv ct) ⟨us, []⟩ = pure (ps.zip us)) : Binds K fd ps [] := by
  obtain ⟨oc, od, kV, doc, pm, an, ct, osl, rfl, lk, hcd⟩ := F.ex
  exact .all (h kV doc pm an (.ref c) ct)
theorem funC_mk {oc : Value} {od an : Option Addr} {osl : Array (Option Value)} {kV doc pm ct : Value} (l : K.lookup f = some ⟨oc, od, .func (PySem.W.fnOf x x (defArgs st) (defBody st) (defScope st) .none kV doc pm an (.ref c) ct), osl⟩)
    (hc : PySem.W.codeIn K (.ref c) x = true) (hk : PySem.W.keepIn K (.ref f) = true) : FunC K x st f (PySem.W.fnOf x x (defArgs st) (defBody st) (defScope st) .none kV doc pm an (.ref c) ct) c := ⟨⟨oc, od, kV, doc, pm, an, ct, osl, rfl, l, hc⟩, hk⟩
/-- a def that keeps its promise may be called -/
theorem FunC.callee (F : FunC K x st f fd c) (hm : mg x = some (.ref f)) (G : FnOk P w K mg base CX0 k f fd ps sp) (h : ∀ (kV doc pm : Value) (an : Option Addr) (cdv ct : Value) (us : List Value), us.length = ps.length → bindArgs (PySem.W.fnOf x x (defArgs st) (defBody st) (defScope st) .none kV doc pm an cdv ct) ⟨us, []⟩ = pure (ps.zip us)) :
    Callee P w K mg base x k ps sp := ⟨f, fd, hm, F.kp, F.binds h, G⟩
end

/-! ### heaps that grow: all that was tracked stays, but for what S names; the tables that Tbl names may grow -/
class Tbl where
  ts : List Addr
variable [Tbl]
/-- a table of code objects that may grow -/
structure TabX (H : Hp) (P : Addr) : Prop where
  tab : GxR.TabG H P
  mem : P ∈ Tbl.ts
instance {H : Hp} {P : Addr} : Coe (TabX H P) (GxR.TabG H P) := ⟨TabX.tab⟩
structure Xt (S : Addr → Prop) (H H' : Hp) : Prop where
  tups : ∀ a xs, H a = some (.tup xs) → H' a = some (.tup xs)
  keep : ∀ a o, ¬ S a → (∀ ps, o ≠ .tbl ps) → H a = some o → H' a = some o
  tabs : ∀ P, GxR.TabG H P → GxR.TabG H' P
  tbls : ∀ a ps, H a = some (.tbl ps) → ∃ qs, H' a = some (.tbl qs)
  tbk : ∀ P ps, P ∉ Tbl.ts → ¬ S P → H P = some (.tbl ps) → H' P = some (.tbl ps)
abbrev No : Addr → Prop := fun _ => False
abbrev Xn : Hp → Hp → Prop := Xt No
section
variable {S S' : Addr → Prop} {H H1 H2 : Hp} {a p : Addr} {o : HO}
theorem Xt.refl : Xt S H H := ⟨fun _ _ e => e, fun _ _ _ _ e => e, fun _ e => e, fun _ ps e => ⟨ps, e⟩, fun _ _ _ _ e => e⟩
theorem Xt.trans (a : Xt S H H1) (b : Xt S H1 H2) : Xt S H H2 := ⟨fun x xs e => b.tups x xs (a.tups x xs e), fun x o h1 h2 e => b.keep x o h1 h2 (a.keep x o h1 h2 e), fun P e => b.tabs P (a.tabs P e), fun x ps e => by
  obtain ⟨qs, e1⟩ := a.tbls x ps e
  exact b.tbls x qs e1, fun P ps n1 n2 e => b.tbk P ps n1 n2 (a.tbk P ps n1 n2 e)⟩
theorem Xt.weak (h : Xt S H H1) (hs : ∀ a, S a → S' a) : Xt S' H H1 := ⟨h.tups, fun x o h1 h2 e => h.keep x o (fun z => h1 (hs x z)) h2 e, h.tabs, h.tbls, fun P ps n1 n2 e => h.tbk P ps n1 (fun z => n2 (hs P z)) e⟩
theorem Xt.any (h : Xn H H1) : Xt S H H1 := h.weak fun _ z => z.elim
/-- one place changes that the first heap does not have, or that S names and that holds no tuple and no table -/
theorem Xt.at (h : Xt S H H1) (hn : ∀ u, H a = some u → S a ∧ (∀ xs, u ≠ .tup xs) ∧ ∀ ps, u ≠ .tbl ps) : Xt S H (upd H1 a o) := by
  refine ⟨fun x xs e => ?_, fun x u h1 h2 e => ?_, fun P e => ?_, fun x ps e => ?_, fun x ps n1 n2 e => by rw [upd_ne (fun z => by rw [z] at e; exact (hn _ e).2.2 ps rfl)]; exact h.tbk x ps n1 n2 e⟩
  · rw [upd_ne (fun z => by rw [z] at e; exact (hn _ e).2.1 xs rfl)]; exact h.tups x xs e
  · rw [upd_ne (fun z => by rw [z] at e h1; exact h1 (hn _ e).1)]; exact h.keep x u h1 h2 e
  · obtain ⟨ps, e1, e2⟩ := h.tabs P e
    obtain ⟨qs, e3, _⟩ := e
    exact ⟨ps, by rw [upd_ne (fun z => by rw [z] at e3; exact (hn _ e3).2.2 qs rfl)]; exact e1, e2⟩
  · obtain ⟨qs, e1⟩ := h.tbls x ps e
    exact ⟨qs, by rw [upd_ne (fun z => by rw [z] at e; exact (hn _ e).2.2 ps rfl)]; exact e1⟩
theorem Xt.young (h : Xt S H H1) (hn : H a = none) : Xt S H (upd H1 a o) := h.at fun u e => by rw [hn] at e; cases e
theorem Xt.new (h : H p = none) : Xt S H (upd H p o) := Xt.refl.young h
theorem Xt.own {xs : List V} (hs : S a) (h : H a = some (.lst xs)) : Xt S H (upd H a o) := Xt.refl.at fun u e => by
  rw [h] at e; cases e
  exact ⟨hs, fun _ z => (by cases z), fun _ z => by cases z⟩
theorem Xt.ownD {xs : List (List Key × V)} (hs : S a) (h : H a = some (.dT xs)) : Xt S H (upd H a o) := Xt.refl.at fun u e => by
  rw [h] at e; cases e
  exact ⟨hs, fun _ z => (by cases z), fun _ z => by cases z⟩
theorem Xt.tabbed (hX : TabX H p) (h : GxR.Tabbed p H H1) : Xt S H H1 := by
  obtain ⟨h1, h2⟩ := h
  obtain ⟨ps, e0, _⟩ := hX.tab
  refine ⟨fun x xs e => ?_, fun x u _ hn e => ?_, fun P e => ?_, fun x qs e => ?_, fun x qs n1 _ e => by rw [h2 x (fun z => n1 (z ▸ hX.mem))]; exact e⟩
  · rw [h2 x (ne_of e e0 (fun z => by cases z))]; exact e
  · rw [h2 x (ne_of e e0 (hn ps))]; exact e
  · by_cases z : P = p
    · rw [z]; exact h1
    · obtain ⟨qs, e1, e2⟩ := e
      exact ⟨qs, by rw [h2 P z]; exact e1, e2⟩
  · by_cases z : x = p
    · rw [z]
      obtain ⟨rs, e1, _⟩ := h1
      exact ⟨rs, e1⟩
    · exact ⟨qs, by rw [h2 x z]; exact e⟩
theorem Xt.back (h : Xt S H H1) (hs : ∀ u, H a = some u → ¬ S a) (hn : H1 a = none) : H a = none := by
  cases e : H a with
  | none => rfl
  | some u =>
    exfalso
    by_cases ht : ∃ ps, u = .tbl ps
    · obtain ⟨ps, rfl⟩ := ht
      obtain ⟨qs, e1⟩ := h.tbls a ps e
      rw [hn] at e1; cases e1
    · have := h.keep a u (hs u e) (fun ps z => ht ⟨ps, z⟩) e
      rw [hn] at this; cases this
theorem Xt.backN (h : Xn H H1) (hn : H1 a = none) : H a = none := h.back (fun _ _ z => z) hn
end

/-! ### data: whole numbers, True and False, None, texts, tuples and lists of such -/
inductive D where
  | non | bl (b : Bool) | int (i : Int) | str (x : Str) | tup (xs : List D) | lst (xs : List D)
mutual
def At (H : Hp) : D → V → Prop
  | .non, v => v = .non
  | .bl b, v => v = .bl b
  | .int i, v => v = .int i
  | .str x, v => v = .str x
  | .tup ds, v => ∃ a xs, v = .ref a ∧ H a = some (.tup xs) ∧ Ats H ds xs
  | .lst ds, v => ∃ a xs, v = .ref a ∧ H a = some (.lst xs) ∧ Ats H ds xs
def Ats (H : Hp) : List D → List V → Prop
  | [], vs => vs = []
  | d :: ds, vs => ∃ v r, vs = v :: r ∧ At H d v ∧ Ats H ds r
end
/-! data without lists: it stays whatever is stored -/
mutual
def D.fix : D → Bool
  | .tup ds => D.fixs ds
  | .lst _ => false
  | _ => true
def D.fixs : List D → Bool
  | [] => true
  | d :: ds => d.fix && D.fixs ds
end
section
variable {S : Addr → Prop} {H H1 : Hp}
mutual
theorem At.mono (h : ∀ a xs, H a = some (.tup xs) → H1 a = some (.tup xs)) : ∀ (d : D) (v : V), d.fix = true → At H d v → At H1 d v
  | .non, _, _, e => e
  | .bl _, _, _, e => e
  | .int _, _, _, e => e
  | .str _, _, _, e => e
  | .tup ds, v, hf, e => by
    unfold At at e ⊢
    obtain ⟨a, xs, e1, e2, e3⟩ := e
    exact ⟨a, xs, e1, h a xs e2, Ats.mono h ds xs (by unfold D.fix at hf; exact hf) e3⟩
  | .lst _, _, hf, _ => by unfold D.fix at hf; cases hf
theorem Ats.mono (h : ∀ a xs, H a = some (.tup xs) → H1 a = some (.tup xs)) : ∀ (ds : List D) (vs : List V), D.fixs ds = true → Ats H ds vs → Ats H1 ds vs
  | [], _, _, e => by unfold Ats at e ⊢; exact e
  | d :: ds, _, hf, e => by
    unfold Ats at e ⊢
    unfold D.fixs at hf
    obtain ⟨v, r, e1, e2, e3⟩ := e
    rw [Bool.and_eq_true] at hf
    exact ⟨v, r, e1, At.mono h d v hf.1 e2, Ats.mono h ds r hf.2 e3⟩
end
theorem At.x {d : D} {v : V} (x : Xt S H H1) (hf : d.fix = true) (h : At H d v) : At H1 d v := At.mono x.tups d v hf h
theorem Ats.x {ds : List D} {vs : List V} (x : Xt S H H1) (hf : D.fixs ds = true) (h : Ats H ds vs) : Ats H1 ds vs := Ats.mono x.tups ds vs hf h
theorem Ats.length : ∀ {ds : List D} {vs : List V}, Ats H ds vs → vs.length = ds.length
  | [], _, e => by unfold Ats at e; rw [e]; rfl
  | d :: ds, _, e => by
    unfold Ats at e
    obtain ⟨v, r, e1, _, e3⟩ := e
    rw [e1, List.length_cons, List.length_cons, Ats.length e3]
theorem Ats.get : ∀ {ds : List D} {vs : List V} {i : Nat} {d : D}, Ats H ds vs → ds[i]? = some d → ∃ v, vs[i]? = some v ∧ At H d v
  | [], _, _, _, _, e => by simp at e
  | d0 :: ds, _, 0, d, h, e => by
    unfold Ats at h
    obtain ⟨v, r, rfl, e2, _⟩ := h
    simp at e; subst e
    exact ⟨v, rfl, e2⟩
  | d0 :: ds, _, i + 1, d, h, e => by
    unfold Ats at h
    obtain ⟨v, r, rfl, _, e3⟩ := h
    obtain ⟨u, e4, e5⟩ := Ats.get (i := i) e3 (by simpa using e)
    exact ⟨u, by simpa using e4, e5⟩
theorem Ats.getV {ds : List D} {vs : List V} {i : Nat} {v : V} (h : Ats H ds vs) (e : vs[i]? = some v) : ∃ d, ds[i]? = some d ∧ At H d v := by
  have hl : i < ds.length := by rw [← h.length]; exact (List.getElem?_eq_some_iff.mp e).1
  obtain ⟨u, e1, e2⟩ := h.get (List.getElem?_eq_getElem hl)
  rw [e] at e1; cases e1
  exact ⟨_, List.getElem?_eq_getElem hl, e2⟩
theorem Ats.snoc : ∀ {ds : List D} {vs : List V} {d : D} {v : V}, Ats H ds vs → At H d v → Ats H (ds ++ [d]) (vs ++ [v])
  | [], _, d, v, h, e => by
    unfold Ats at h; subst h
    show Ats H [d] [v]
    unfold Ats
    exact ⟨v, [], rfl, e, by unfold Ats; rfl⟩
  | d0 :: ds, _, d, v, h, e => by
    unfold Ats at h
    obtain ⟨u, r, rfl, e2, e3⟩ := h
    show Ats H (d0 :: (ds ++ [d])) (u :: (r ++ [v]))
    unfold Ats
    exact ⟨u, r ++ [v], rfl, e2, Ats.snoc e3 e⟩
theorem Ats.app : ∀ {ds es : List D} {vs us : List V}, Ats H ds vs → Ats H es us → Ats H (ds ++ es) (vs ++ us)
  | [], _, _, _, h, e => by unfold Ats at h; subst h; exact e
  | d0 :: ds, es, _, us, h, e => by
    unfold Ats at h
    obtain ⟨u, r, rfl, e2, e3⟩ := h
    show Ats H (d0 :: (ds ++ es)) (u :: (r ++ us))
    unfold Ats
    exact ⟨u, r ++ us, rfl, e2, Ats.app e3 e⟩
theorem Ats.nil : Ats H [] [] := by unfold Ats; rfl
theorem Ats.cons {d : D} {ds : List D} {v : V} {vs : List V} (h : At H d v) (t : Ats H ds vs) : Ats H (d :: ds) (v :: vs) := by
  unfold Ats; exact ⟨v, vs, rfl, h, t⟩
theorem Ats.drop : ∀ {ds : List D} {vs : List V} (n : Nat), Ats H ds vs → Ats H (ds.drop n) (vs.drop n)
  | _, _, 0, h => h
  | [], _, n + 1, h => by unfold Ats at h; subst h; exact Ats.nil
  | d :: ds, _, n + 1, h => by
    unfold Ats at h
    obtain ⟨v, r, rfl, _, e3⟩ := h
    exact Ats.drop n e3
theorem Ats.take : ∀ {ds : List D} {vs : List V} (n : Nat), Ats H ds vs → Ats H (ds.take n) (vs.take n)
  | _, _, 0, _ => by simp only [List.take_zero]; exact Ats.nil
  | [], _, n + 1, h => by unfold Ats at h; subst h; exact Ats.nil
  | d :: ds, _, n + 1, h => by
    unfold Ats at h
    obtain ⟨v, r, rfl, e2, e3⟩ := h
    exact Ats.cons e2 (Ats.take n e3)
theorem ats_ints : ∀ {ns : List Int} {vs : List V}, Ats H (ns.map D.int) vs ↔ vs = ns.map V.int
  | [], vs => by show Ats H [] vs ↔ _; unfold Ats; rfl
  | n :: ns, vs => by
    show Ats H (D.int n :: ns.map D.int) vs ↔ _
    unfold Ats
    constructor
    · rintro ⟨v, r, rfl, e2, e3⟩
      unfold At at e2
      rw [ats_ints.mp e3, e2]; rfl
    · intro e
      exact ⟨V.int n, ns.map V.int, by rw [e]; rfl, by unfold At; rfl, ats_ints.mpr rfl⟩
theorem at_int {i : Int} {v : V} : At H (.int i) v ↔ v = .int i := by unfold At; rfl
theorem at_tup {ds : List D} {v : V} : At H (.tup ds) v ↔ ∃ a xs, v = .ref a ∧ H a = some (.tup xs) ∧ Ats H ds xs := by rw [At]
theorem at_lst {ds : List D} {v : V} : At H (.lst ds) v ↔ ∃ a xs, v = .ref a ∧ H a = some (.lst xs) ∧ Ats H ds xs := by rw [At]
theorem at_ints {ns : List Int} {v : V} : At H (.tup (ns.map D.int)) v ↔ ∃ a, v = .ref a ∧ H a = some (.tup (ns.map V.int)) := by
  rw [at_tup]
  constructor
  · rintro ⟨a, xs, e1, e2, e3⟩
    rw [ats_ints.mp e3] at e2
    exact ⟨a, e1, e2⟩
  · rintro ⟨a, e1, e2⟩
    exact ⟨a, _, e1, e2, ats_ints.mpr rfl⟩
theorem fixs_ints : ∀ (ns : List Int), D.fixs (ns.map D.int) = true
  | [] => rfl
  | n :: ns => by
    show D.fixs (D.int n :: ns.map D.int) = true
    unfold D.fixs
    rw [fixs_ints ns]; rfl
theorem fixs_all : ∀ {ds : List D}, (∀ d ∈ ds, d.fix = true) → D.fixs ds = true
  | [], _ => rfl
  | d :: ds, h => by
    unfold D.fixs
    rw [h d List.mem_cons_self, fixs_all fun e he => h e (List.mem_cons_of_mem _ he)]; rfl
theorem fix_ints (ns : List Int) : (D.tup (ns.map D.int)).fix = true := by unfold D.fix; exact fixs_ints ns
end
end LC
-- L2x
namespace LC
variable [Tbl]
open PySem PySem.Spec PyProof.Rows L2 GenW
/-- a module's number -/
theorem pe_gI {X : Cx} {x : Str} {n : Int} {pos : Pos} (hg : Gl X x) (hm : ∃ t, X.mg x = some (.int n t)) (hd : (x == ("__debug__" : Str)) = false := by decide) : PE X (.Name x pos) (tC (.int n)) := by
  obtain ⟨t, e⟩ := hm
  exact pe_glob hg e ⟨_, rfl⟩ hd
/-- < of whole numbers, of tuples of whole numbers -/
def rLtK (K : PySem.W.Frag) : R2 := fun x y H Q => (∃ i j, x = .int i ∧ y = .int j ∧ Q (.bl (decide (i < j))) H) ∨ rLtT K x y H Q
theorem op_ltK {X : Cx} (hu : X.A.units < cLine) : OpR X (compareOp .Lt) (rLtK X.K) := by
  intro pins s σ H x y v u Q I rx ry h
  rcases h with h | h
  · exact op_lt pins s σ H x y v u Q I rx ry h
  · exact op_ltT hu pins s σ H x y v u Q I rx ry h

/-! kinds of values -/
def wholeOf : V → Option Int
  | .int i => some i
  | _ => none
/-- isinstance knows it: a whole number or not -/
def Kd (K : PySem.W.Frag) (H : Hp) (x : V) : Prop := ∃ t b c, TyX K H x (.type t) ∧ kitB t "int" = some b ∧ kitB t "bool" = some c ∧ (b && !c) = (wholeOf x).isSome
section
variable {K : PySem.W.Frag} {H : Hp} {a : Addr}
theorem kd_int {i : Int} : Kd K H (.int i) := ⟨"int", true, false, .base (.int i), by decide +kernel, by decide +kernel, rfl⟩
theorem kd_bl {b : Bool} : Kd K H (.bl b) := ⟨"bool", true, true, .base (.bl b), by decide +kernel, by decide +kernel, rfl⟩
theorem kd_non : Kd K H .non := ⟨"NoneType", false, false, .base .non, by decide +kernel, by decide +kernel, rfl⟩
theorem kd_str {x : Str} : Kd K H (.str x) := ⟨"str", false, false, .base (.str x), by decide +kernel, by decide +kernel, rfl⟩
theorem kd_tup {xs : List V} (h : H a = some (.tup xs)) : Kd K H (.ref a) := ⟨"tuple", false, false, .base (.tup h), by decide +kernel, by decide +kernel, rfl⟩
theorem kd_lst {xs : List V} (h : H a = some (.lst xs)) : Kd K H (.ref a) := ⟨"list", false, false, .base (.lst h), by decide +kernel, by decide +kernel, rfl⟩
end
/-- low ≤ x ≤ high, x any value -/
def btw (x : V) (lo hi : Int) : Bool := match x with
  | .int i => decide (lo ≤ i) && decide (i ≤ hi)
  | _ => false
theorem btw_int {i lo hi : Int} (h1 : lo ≤ i) (h2 : i ≤ hi) : btw (.int i) lo hi = true := by
  unfold btw; simp [h1, h2]
/-- the items of a value that is a tuple -/
def tupOf (H : Hp) : V → Option (List V)
  | .ref a => match H a with
    | some (.tup xs) => some xs
    | _ => none
  | _ => none
theorem tupOf_ref {H : Hp} {a : Addr} {xs : List V} (h : H a = some (.tup xs)) : tupOf H (.ref a) = some xs := by
  show (match H a with | some (.tup xs) => some xs | _ => none) = some xs
  rw [h]
def Kt (K : PySem.W.Frag) (H : Hp) (x : V) : Prop := ∃ t b, TyX K H x (.type t) ∧ kitB t "tuple" = some b ∧ b = (tupOf H x).isSome
section
variable {K : PySem.W.Frag} {H : Hp} {a : Addr}
theorem kt_tup {xs : List V} (h : H a = some (.tup xs)) : Kt K H (.ref a) := ⟨"tuple", true, .base (.tup h), by decide +kernel, by rw [tupOf_ref h]; rfl⟩
end
/-- rising: each less than the next -/
def rising (ks : List (List Int)) : Bool := (List.range (ks.length - 1)).all fun i => HT.lexLt (ks[i]?.getD []) (ks[i + 1]?.getD [])
/-- the things that are compared: whole numbers, or tuples of such -/
def Kys (K : PySem.W.Frag) (H : Hp) (xs : List V) (ks : List (List Int)) : Prop := xs.length = ks.length ∧
  ((∀ (i : Nat) (x : V), xs[i]? = some x → ∃ n : Int, x = V.int n ∧ ks[i]? = some [n]) ∨ ∀ (i : Nat) (x : V), xs[i]? = some x → ∃ (b : Addr) (ns : List Int), x = V.ref b ∧ H b = some (.tup (ns.map V.int)) ∧ ks[i]? = some ns)
theorem lexLt_one {i j : Int} : HT.lexLt [i] [j] = decide (i < j) := by
  simp [HT.lexLt]
  intro h; omega
/-- all tables of code objects of the text -/
def Tabs (Ts : List Addr) (H : Hp) : Prop := ∀ P ∈ Ts, TabX H P
theorem Tabs.x {Ts : List Addr} {S : Addr → Prop} {H H1 : Hp} (h : Tabs Ts H) (x : Xt S H H1) : Tabs Ts H1 := fun P hP => ⟨x.tabs P (h P hP).tab, (h P hP).mem⟩
theorem sz_ok {n : Nat} (h : n ≤ 1000) : n ≤ sizeLine := Nat.le_trans h (by decide)
theorem sz_lt {n : Nat} (h : n < 1000) : n < sizeLine := Nat.lt_of_lt_of_le h (by decide)
end LC
namespace LC
variable [Tbl]
open PySem PySem.Spec PyProof.Rows L2 GenW
/-! rules by the written part's own name -/
section
variable {X : Cx} {K : PySem.W.Frag}
theorem ixK (r : PySem.W.Frag → R2) (h : IxR X (r X.K)) (e : X.K = K) : IxR X (r K) := e ▸ h
theorem opK (r : PySem.W.Frag → R2) {f : Value → Value → Sem Value} (h : OpR X f (r X.K)) (e : X.K = K) : OpR X f (r K) := e ▸ h
theorem crK (r : PySem.W.Frag → List V → Hp → VK → Prop) {f : Value} (h : CallR X f (r X.K)) (e : X.K = K) : CallR X f (r K) := e ▸ h
theorem slK (r : PySem.W.Frag → V → Option Int → Option Int → Hp → VK → Prop) (h : SlR X (r X.K)) (e : X.K = K) : SlR X (r K) := e ▸ h
theorem piK {tg e : Expr} (r : PySem.W.Frag → TE → TI) {t : TE} (h : PI X tg e (r X.K t)) (q : X.K = K) : PI X tg e (r K t) := q ▸ h
theorem piA {tg e : Expr} (r : PySem.W.Frag → TA → TI) {t : TA} (h : PI X tg e (r X.K t)) (q : X.K = K) : PI X tg e (r K t) := q ▸ h
def rLenQ (K : PySem.W.Frag) : List V → Hp → VK → Prop := fun xs H Q => ∃ p ys, xs = [.ref p] ∧ (SqL K H p ys ∨ SqT K H p ys) ∧ Q (.int ys.length) H
theorem cr_len : CallR X (.builtin "len") (rLenQ X.K) := call_len_seq
def rTupQ (K : PySem.W.Frag) : List V → Hp → VK → Prop := fun xs H Q => ∃ p ys, xs = [.ref p] ∧ ((SqL K H p ys ∧ ∀ l, H l = none → Q (.ref l) (upd H l (.tup ys))) ∨ (SqT K H p ys ∧ Q (.ref p) H))
theorem cr_tuple : CallR X (.type "tuple") (rTupQ X.K) := call_tuple_of
end
end LC
namespace LC
variable [Tbl]
open PySem PySem.Spec PyProof.Rows L2 GenW
theorem tupOf_some {H : Hp} {x : V} (h : (tupOf H x).isSome = true) : ∃ a xs, x = .ref a ∧ H a = some (.tup xs) ∧ tupOf H x = some xs := by
  cases x with
  | ref a =>
    have e : tupOf H (.ref a) = (match H a with | some (.tup xs) => some xs | _ => none) := rfl
    cases z : H a with
    | none => rw [e, z] at h; cases h
    | some o =>
      cases o with
      | tup xs => exact ⟨a, xs, rfl, z, tupOf_ref z⟩
      | _ => rw [e, z] at h; cases h
  | _ => cases h
section
variable {K : PySem.W.Frag} {S : Addr → Prop} {H H1 : Hp} {a : Addr} {xs : List V}
theorem rd_x {u : HO} (x : Xn H H1) (hu : ∀ ps, u ≠ .tbl ps) (h : Rd H a u) : Rd H1 a u := by
  rcases h with h | ⟨o, h⟩
  · exact .inl (x.keep a u (fun z => z) hu h)
  · exact .inr ⟨o, x.keep a _ (fun z => z) (fun _ z => by cases z) h⟩
theorem sqL_x (x : Xn H H1) (h : SqL K H a xs) : SqL K H1 a xs := by
  rcases h with h | h
  · exact .inl (rd_x x (fun _ z => by cases z) h)
  · exact .inr h
theorem sqT_x (x : Xn H H1) (h : SqT K H a xs) : SqT K H1 a xs := by
  rcases h with h | h
  · exact .inl (rd_x x (fun _ z => by cases z) h)
  · exact .inr h
theorem atI_of {i : Int} {j : Nat} {v : V} (e : i = (j : Int)) (h : xs[j]? = some v) : atI xs i = some v := by rw [e]; exact atI_nat h
theorem rix_of {i : Int} {j : Nat} {v : V} {Q : VK} (hs : SqL K H a xs ∨ SqT K H a xs) (e : i = (j : Int)) (hx : xs[j]? = some v) (q : Q v H) : rIx K (.ref a) (.int i) H Q := by
  rcases hs with hs | hs
  · exact .inl ⟨a, xs, i, v, rfl, rfl, hs, atI_of e hx, q⟩
  · exact .inr (.inl ⟨a, xs, i, v, rfl, rfl, hs, atI_of e hx, q⟩)
theorem rixT_of {i : Int} {j : Nat} {v : V} {Q : VK} (hs : H a = some (.tup xs)) (e : i = (j : Int)) (hx : xs[j]? = some v) (q : Q v H) : rIxT K (.ref a) (.int i) H Q := ⟨a, xs, i, v, rfl, rfl, SqT.of hs, atI_of e hx, q⟩
end
/-- the answers of all neighbours up to a place -/
def nbs (ks : List (List Int)) (n : Nat) : List Bool := (List.range n).map fun i => HT.lexLt (ks[i]?.getD []) (ks[i + 1]?.getD [])
theorem nbs_succ (ks : List (List Int)) (n : Nat) : nbs ks (n + 1) = nbs ks n ++ [HT.lexLt (ks[n]?.getD []) (ks[n + 1]?.getD [])] := by
  unfold nbs; rw [List.range_succ, List.map_append]; rfl
theorem nbs_len (ks : List (List Int)) (n : Nat) : (nbs ks n).length = n := by unfold nbs; simp
theorem nbs_all (ks : List (List Int)) : (nbs ks (ks.length - 1)).all id = rising ks := by
  unfold nbs rising; rw [List.all_map]; rfl
end LC
namespace LC
variable [Tbl]
open PySem L2
theorem yes_of {σ : L2.St} {H : Hp} {A B : Hp → Prop} (h : A H) : tYes σ H (fun b H3 => if b = true then A H3 else B H3) := by
  show (if true = true then A H else B H)
  rw [if_pos rfl]
  exact h
end LC
-- K02_d1
namespace K02
open PySem PySem.Spec PyProof.Rows L2 LC
def topS (i : Nat) : Stmt := PySem.Challenge.pw_livingclock_k02_clocks_refused.main.body.getD i (.Pass ⟨0, 0, 0, 0⟩)
abbrev s_is_whole : Stmt := topS 8
abbrev N_is_whole : List Str := ["value"]
theorem sc_is_whole : FnScope ["value"] ["value"] (defScope s_is_whole) := ⟨rfl, rfl, rfl, by decide +kernel, rfl, by decide +kernel, by decide +kernel⟩
abbrev s_is_between : Stmt := topS 9
abbrev N_is_between : List Str := ["value", "low", "high"]
theorem sc_is_between : FnScope ["value", "low", "high"] ["value", "low", "high"] (defScope s_is_between) := ⟨rfl, rfl, rfl, by decide +kernel, rfl, by decide +kernel, by decide +kernel⟩
abbrev s_is_tuple_of : Stmt := topS 10
abbrev N_is_tuple_of : List Str := ["value", "many"]
theorem sc_is_tuple_of : FnScope ["value", "many"] ["value", "many"] (defScope s_is_tuple_of) := ⟨rfl, rfl, rfl, by decide +kernel, rfl, by decide +kernel, by decide +kernel⟩
abbrev s_is_rising : Stmt := topS 11
abbrev N_is_rising : List Str := ["things", "place"]
theorem sc_is_rising : FnScope ["things", "place"] ["things"] (defScope s_is_rising) := ⟨rfl, rfl, rfl, by decide +kernel, rfl, by decide +kernel, by decide +kernel⟩
abbrev s_check_tick : Stmt := topS 12
abbrev N_check_tick : List Str := ["tick", "least"]
theorem sc_check_tick : FnScope ["tick", "least"] ["tick", "least"] (defScope s_check_tick) := ⟨rfl, rfl, rfl, by decide +kernel, rfl, by decide +kernel, by decide +kernel⟩
abbrev s_exchanges : Stmt := topS 18
abbrev N_exchanges : List Str := ["clock"]
theorem sc_exchanges : FnScope ["clock"] ["clock"] (defScope s_exchanges) := ⟨rfl, rfl, rfl, by decide +kernel, rfl, by decide +kernel, by decide +kernel⟩
abbrev s_needed : Stmt := topS 19
abbrev N_needed : List Str := ["clock", "wheel", "edition", "other"]
theorem sc_needed : FnScope ["clock", "wheel", "edition", "other"] ["clock", "wheel", "edition", "other"] (defScope s_needed) := ⟨rfl, rfl, rfl, by decide +kernel, rfl, by decide +kernel, by decide +kernel⟩
abbrev s_touching : Stmt := topS 20
abbrev N_touching : List Str := ["clock", "tick"]
theorem sc_touching : FnScope ["clock", "tick"] ["clock", "tick"] (defScope s_touching) := ⟨rfl, rfl, rfl, by decide +kernel, rfl, by decide +kernel, by decide +kernel⟩
abbrev s_check_clock : Stmt := topS 21
abbrev N_check_clock : List Str := ["clock", "part"]
theorem sc_check_clock : FnScope ["clock", "part"] ["clock"] (defScope s_check_clock) := ⟨rfl, rfl, rfl, by decide +kernel, rfl, by decide +kernel, by decide +kernel⟩
abbrev s_check_wheel : Stmt := topS 22
abbrev N_check_wheel : List Str := ["clock", "wheel"]
theorem sc_check_wheel : FnScope ["clock", "wheel"] ["clock", "wheel"] (defScope s_check_wheel) := ⟨rfl, rfl, rfl, by decide +kernel, rfl, by decide +kernel, by decide +kernel⟩
abbrev s_wrong_part : Stmt := topS 23
abbrev N_wrong_part : List Str := ["clock", "period", "editions", "touches", "gaps", "book"]
theorem sc_wrong_part : FnScope ["clock", "period", "editions", "touches", "gaps", "book"] ["clock"] (defScope s_wrong_part) := ⟨rfl, rfl, rfl, by decide +kernel, rfl, by decide +kernel, by decide +kernel⟩
abbrev s_are_editions : Stmt := topS 24
abbrev N_are_editions : List Str := ["value", "last"]
theorem sc_are_editions : FnScope ["value", "last"] ["value"] (defScope s_are_editions) := ⟨rfl, rfl, rfl, by decide +kernel, rfl, by decide +kernel, by decide +kernel⟩
abbrev s_are_touches : Stmt := topS 25
abbrev N_are_touches : List Str := ["period", "editions", "value", "touch"]
theorem sc_are_touches : FnScope ["period", "editions", "value", "touch"] ["period", "editions", "value"] (defScope s_are_touches) := ⟨rfl, rfl, rfl, by decide +kernel, rfl, by decide +kernel, by decide +kernel⟩
abbrev s_is_touch : Stmt := topS 26
abbrev N_is_touch : List Str := ["period", "editions", "value", "last", "phase", "wheel", "other"]
theorem sc_is_touch : FnScope ["period", "editions", "value", "last", "phase", "wheel", "other"] ["period", "editions", "value"] (defScope s_is_touch) := ⟨rfl, rfl, rfl, by decide +kernel, rfl, by decide +kernel, by decide +kernel⟩
abbrev s_are_gaps : Stmt := topS 27
abbrev N_are_gaps : List Str := ["period", "editions", "value", "last", "phases"]
theorem sc_are_gaps : FnScope ["period", "editions", "value", "last", "phases"] ["period", "editions", "value"] (defScope s_are_gaps) := ⟨rfl, rfl, rfl, by decide +kernel, rfl, by decide +kernel, by decide +kernel⟩
abbrev s_are_wheel_gaps : Stmt := topS 28
abbrev N_are_wheel_gaps : List Str := ["period", "last", "value", "phase"]
theorem sc_are_wheel_gaps : FnScope ["period", "last", "value", "phase"] ["period", "last", "value"] (defScope s_are_wheel_gaps) := ⟨rfl, rfl, rfl, by decide +kernel, rfl, by decide +kernel, by decide +kernel⟩
abbrev s_is_book : Stmt := topS 29
abbrev N_is_book : List Str := ["editions", "value", "entry"]
theorem sc_is_book : FnScope ["editions", "value", "entry"] ["editions", "value"] (defScope s_is_book) := ⟨rfl, rfl, rfl, by decide +kernel, rfl, by decide +kernel, by decide +kernel⟩
abbrev s_is_entry : Stmt := topS 30
abbrev N_is_entry : List Str := ["editions", "value", "last", "wheel", "edition", "other", "least"]
theorem sc_is_entry : FnScope ["editions", "value", "last", "wheel", "edition", "other", "least"] ["editions", "value"] (defScope s_is_entry) := ⟨rfl, rfl, rfl, by decide +kernel, rfl, by decide +kernel, by decide +kernel⟩
abbrev s_all_exchanges : Stmt := topS 31
abbrev N_all_exchanges : List Str := ["clock", "edition", "wheel", "last"]
theorem sc_all_exchanges : FnScope ["clock", "edition", "wheel", "last"] ["clock"] (defScope s_all_exchanges) := ⟨rfl, rfl, rfl, by decide +kernel, rfl, by decide +kernel, by decide +kernel⟩
abbrev s_is_exchange : Stmt := topS 32
abbrev N_is_exchange : List Str := ["clock", "value"]
theorem sc_is_exchange : FnScope ["clock", "value"] ["clock", "value"] (defScope s_is_exchange) := ⟨rfl, rfl, rfl, by decide +kernel, rfl, by decide +kernel, by decide +kernel⟩
abbrev s_least_needed : Stmt := topS 33
abbrev N_least_needed : List Str := ["clock", "wheel", "edition", "other", "entries", "entry"]
theorem sc_least_needed : FnScope ["clock", "wheel", "edition", "other", "entries", "entry"] ["clock", "wheel", "edition", "other"] (defScope s_least_needed) := ⟨rfl, rfl, rfl, by decide +kernel, rfl, by decide +kernel, by decide +kernel⟩
abbrev s_touching_at : Stmt := topS 34
abbrev N_touching_at : List Str := ["clock", "tick", "phase", "touch"]
theorem sc_touching_at : FnScope ["clock", "tick", "phase", "touch"] ["clock", "tick"] (defScope s_touching_at) := ⟨rfl, rfl, rfl, by decide +kernel, rfl, by decide +kernel, by decide +kernel⟩
abbrev s_touch_phases : Stmt := topS 35
abbrev N_touch_phases : List Str := ["clock", "wheel", "other", "pair", "touch"]
theorem sc_touch_phases : FnScope ["clock", "wheel", "other", "pair", "touch"] ["clock", "wheel", "other"] (defScope s_touch_phases) := ⟨rfl, rfl, rfl, by decide +kernel, rfl, by decide +kernel, by decide +kernel⟩
abbrev s_first_from : Stmt := topS 36
abbrev N_first_from : List Str := ["clock", "phases", "low", "phase"]
theorem sc_first_from : FnScope ["clock", "phases", "low", "phase"] ["clock", "phases", "low"] (defScope s_first_from) := ⟨rfl, rfl, rfl, by decide +kernel, rfl, by decide +kernel, by decide +kernel⟩
abbrev s_first_gap : Stmt := topS 37
abbrev N_first_gap : List Str := ["clock", "wheel", "low"]
theorem sc_first_gap : FnScope ["clock", "wheel", "low"] ["clock", "wheel", "low"] (defScope s_first_gap) := ⟨rfl, rfl, rfl, by decide +kernel, rfl, by decide +kernel, by decide +kernel⟩
abbrev s_stair_at : Stmt := topS 39
abbrev N_stair_at : List Str := ["row", "number", "rounds", "place"]
theorem sc_stair_at : FnScope ["row", "number", "rounds", "place"] ["row", "number"] (defScope s_stair_at) := ⟨rfl, rfl, rfl, by decide +kernel, rfl, by decide +kernel, by decide +kernel⟩
abbrev s_leaning_pairs : Stmt := topS 41
abbrev N_leaning_pairs : List Str := ["clock", "exchange", "other"]
theorem sc_leaning_pairs : FnScope ["clock", "exchange", "other"] ["clock"] (defScope s_leaning_pairs) := ⟨rfl, rfl, rfl, by decide +kernel, rfl, by decide +kernel, by decide +kernel⟩
abbrev s_leant_on : Stmt := topS 42
abbrev N_leant_on : List Str := ["clock", "exchange", "found", "partner", "wheel", "edition", "least"]
theorem sc_leant_on : FnScope ["clock", "exchange", "found", "partner", "wheel", "edition", "least"] ["clock", "exchange"] (defScope s_leant_on) := ⟨rfl, rfl, rfl, by decide +kernel, rfl, by decide +kernel, by decide +kernel⟩
abbrev s_row_of_push : Stmt := topS 43
abbrev N_row_of_push : List Str := ["clock", "exchange", "other", "phases", "tick"]
theorem sc_row_of_push : FnScope ["clock", "exchange", "other", "phases", "tick"] ["clock", "exchange", "other"] (defScope s_row_of_push) := ⟨rfl, rfl, rfl, by decide +kernel, rfl, by decide +kernel, by decide +kernel⟩
abbrev s_gap_behind : Stmt := topS 44
abbrev N_gap_behind : List Str := ["clock", "wheel", "phases", "tick", "last", "phase"]
theorem sc_gap_behind : FnScope ["clock", "wheel", "phases", "tick", "last", "phase"] ["clock", "wheel", "phases", "tick"] (defScope s_gap_behind) := ⟨rfl, rfl, rfl, by decide +kernel, rfl, by decide +kernel, by decide +kernel⟩
abbrev s_push_table : Stmt := topS 45
abbrev N_push_table : List Str := ["clock", "table", "exchange", "other"]
theorem sc_push_table : FnScope ["clock", "table", "exchange", "other"] ["clock"] (defScope s_push_table) := ⟨rfl, rfl, rfl, by decide +kernel, rfl, by decide +kernel, by decide +kernel⟩
abbrev s_pushed_pairs : Stmt := topS 46
abbrev N_pushed_pairs : List Str := ["table", "pair", "exchange", "number", "leaner", "row"]
theorem sc_pushed_pairs : FnScope ["table", "pair", "exchange", "number", "leaner", "row"] ["table", "pair"] (defScope s_pushed_pairs) := ⟨rfl, rfl, rfl, by decide +kernel, rfl, by decide +kernel, by decide +kernel⟩
abbrev s_is_linked : Stmt := topS 47
abbrev N_is_linked : List Str := ["clock", "value", "table", "pair", "former"]
theorem sc_is_linked : FnScope ["clock", "value", "table", "pair", "former"] ["clock", "value"] (defScope s_is_linked) := ⟨rfl, rfl, rfl, by decide +kernel, rfl, by decide +kernel, by decide +kernel⟩
abbrev s_is_pair : Stmt := topS 48
abbrev N_is_pair : List Str := ["clock", "value"]
theorem sc_is_pair : FnScope ["clock", "value"] ["clock", "value"] (defScope s_is_pair) := ⟨rfl, rfl, rfl, by decide +kernel, rfl, by decide +kernel, by decide +kernel⟩
abbrev s_earliest : Stmt := topS 50
abbrev N_earliest : List Str := ["clock", "numbers"]
theorem sc_earliest : FnScope ["clock", "numbers"] ["clock"] (defScope s_earliest) := ⟨rfl, rfl, rfl, by decide +kernel, rfl, by decide +kernel, by decide +kernel⟩
abbrev s_first_numbers : Stmt := topS 51
abbrev N_first_numbers : List Str := ["clock", "exchange"]
theorem sc_first_numbers : FnScope ["clock", "exchange"] ["clock"] (defScope s_first_numbers) := ⟨rfl, rfl, rfl, by decide +kernel, rfl, by decide +kernel, by decide +kernel⟩
abbrev s_settled : Stmt := topS 52
abbrev N_settled : List Str := ["clock", "firsts"]
theorem sc_settled : FnScope ["clock", "firsts"] ["clock", "firsts"] (defScope s_settled) := ⟨rfl, rfl, rfl, by decide +kernel, rfl, by decide +kernel, by decide +kernel⟩
abbrev s_settled_by : Stmt := topS 53
abbrev N_settled_by : List Str := ["table", "period", "firsts", "limit"]
theorem sc_settled_by : FnScope ["table", "period", "firsts", "limit"] ["table", "period", "firsts"] (defScope s_settled_by) := ⟨rfl, rfl, rfl, by decide +kernel, rfl, by decide +kernel, by decide +kernel⟩
abbrev s_lifted_numbers : Stmt := topS 54
abbrev N_lifted_numbers : List Str := ["table", "firsts", "moved", "limit", "numbers", "lifted", "exchange", "leaner", "number"]
theorem sc_lifted_numbers : FnScope ["table", "firsts", "moved", "limit", "numbers", "lifted", "exchange", "leaner", "number"] ["table", "firsts", "moved", "limit"] (defScope s_lifted_numbers) := ⟨rfl, rfl, rfl, by decide +kernel, rfl, by decide +kernel, by decide +kernel⟩
abbrev s_rows_of : Stmt := topS 55
abbrev N_rows_of : List Str := ["clock", "numbers", "rows", "exchange", "_", "ticks"]
theorem sc_rows_of : FnScope ["clock", "numbers", "rows", "exchange", "_", "ticks"] ["clock", "numbers"] (defScope s_rows_of) := ⟨rfl, rfl, rfl, by decide +kernel, rfl, by decide +kernel, by decide +kernel⟩
abbrev s_trail : Stmt := topS 56
abbrev N_trail : List Str := ["former", "goal", "pairs", "pair"]
theorem sc_trail : FnScope ["former", "goal", "pairs", "pair"] ["former", "goal"] (defScope s_trail) := ⟨rfl, rfl, rfl, by decide +kernel, rfl, by decide +kernel, by decide +kernel⟩
abbrev s_ring : Stmt := topS 59
abbrev N_ring : List Str := ["clock", "table", "searches", "found", "pair"]
theorem sc_ring : FnScope ["clock", "table", "searches", "found", "pair"] ["clock"] (defScope s_ring) := ⟨rfl, rfl, rfl, by decide +kernel, rfl, by decide +kernel, by decide +kernel⟩
abbrev s_is_ring : Stmt := topS 60
abbrev N_is_ring : List Str := ["clock", "value"]
theorem sc_is_ring : FnScope ["clock", "value"] ["clock", "value"] (defScope s_is_ring) := ⟨rfl, rfl, rfl, by decide +kernel, rfl, by decide +kernel, by decide +kernel⟩
abbrev s_is_round : Stmt := topS 61
abbrev N_is_round : List Str := ["clock", "value", "exchange", "number", "last", "end"]
theorem sc_is_round : FnScope ["clock", "value", "exchange", "number", "last", "end"] ["clock", "value"] (defScope s_is_round) := ⟨rfl, rfl, rfl, by decide +kernel, rfl, by decide +kernel, by decide +kernel⟩
abbrev s_first_pairs : Stmt := topS 62
abbrev N_first_pairs : List Str := ["clock", "exchange", "gap"]
theorem sc_first_pairs : FnScope ["clock", "exchange", "gap"] ["clock"] (defScope s_first_pairs) := ⟨rfl, rfl, rfl, by decide +kernel, rfl, by decide +kernel, by decide +kernel⟩
abbrev s_closed_by : Stmt := topS 63
abbrev N_closed_by : List Str := ["searches", "table", "search"]
theorem sc_closed_by : FnScope ["searches", "table", "search"] ["searches", "table"] (defScope s_closed_by) := ⟨rfl, rfl, rfl, by decide +kernel, rfl, by decide +kernel, by decide +kernel⟩
abbrev s_law_taken : Stmt := topS 66
abbrev N_law_taken : List Str := ["row", "many", "cell", "found"]
theorem sc_law_taken : FnScope ["row", "many", "cell", "found"] ["row", "many"] (defScope s_law_taken) := ⟨rfl, rfl, rfl, by decide +kernel, rfl, by decide +kernel, by decide +kernel⟩
abbrev s_law_low_clock : Stmt := topS 67
abbrev N_law_low_clock : List Str := ["row", "period", "wheels", "most", "entries", "editions", "touches", "turn", "gaps", "last", "book", "entry", "one", "other", "some", "wheel", "phase", "key"]
theorem sc_law_low_clock : FnScope ["row", "period", "wheels", "most", "entries", "editions", "touches", "turn", "gaps", "last", "book", "entry", "one", "other", "some", "wheel", "phase", "key"] ["row", "period", "wheels", "most", "entries"] (defScope s_law_low_clock) := ⟨rfl, rfl, rfl, by decide +kernel, rfl, by decide +kernel, by decide +kernel⟩
abbrev s_law_pick : Stmt := topS 68
abbrev N_law_pick : List Str := ["row", "things"]
theorem sc_law_pick : FnScope ["row", "things"] ["row", "things"] (defScope s_law_pick) := ⟨rfl, rfl, rfl, by decide +kernel, rfl, by decide +kernel, by decide +kernel⟩
abbrev s_law_refused : Stmt := topS 69
abbrev N_law_refused : List Str := ["work", "found", "e", "kinds", "names"]
theorem sc_law_refused : FnScope ["work", "found", "e", "kinds", "names"] ["work"] (defScope s_law_refused) := ⟨rfl, rfl, rfl, by decide +kernel, rfl, by decide +kernel, by decide +kernel⟩
abbrev s_law_works : Stmt := topS 70
abbrev N_law_works : List Str := ["one", "other", "third", "fourth", "works"]
theorem sc_law_works : FnScope ["one", "other", "third", "fourth", "works"] ["one", "other", "third", "fourth"] (defScope s_law_works) := ⟨rfl, rfl, rfl, by decide +kernel, rfl, by decide +kernel, by decide +kernel⟩
abbrev s_law : Stmt := topS 71
abbrev N_law : List Str := ["script", "row", "clock", "lots", "words", "at", "tick", "wheel", "edition", "period", "wheels", "bent", "word", "work"]
theorem sc_law : FnScope ["script", "row", "clock", "lots", "words", "at", "tick", "wheel", "edition", "period", "wheels", "bent", "word", "work"] ["script"] (defScope s_law) := ⟨rfl, rfl, rfl, by decide +kernel, rfl, by decide +kernel, by decide +kernel⟩
structure Txt (mg : Str → Option Value) : Prop where
  g_all : mg "all" = none
  g_bool : mg "bool" = none
  g_divmod : mg "divmod" = none
  g_enumerate : mg "enumerate" = none
  g_int : mg "int" = none
  g_isinstance : mg "isinstance" = none
  g_len : mg "len" = none
  g_list : mg "list" = none
  g_max : mg "max" = none
  g_min : mg "min" = none
  g_range : mg "range" = none
  g_sorted : mg "sorted" = none
  g_sum : mg "sum" = none
  g_tuple : mg "tuple" = none
  g_zip : mg "zip" = none
  m_MOST : ∃ t, mg "MOST" = some (.int 1000000000000000000000000000000 t)
  m_MOST_PERIOD : ∃ t, mg "MOST_PERIOD" = some (.int 12 t)
  m_MOST_WHEELS : ∃ t, mg "MOST_WHEELS" = some (.int 12 t)
  m_MOST_EDITION : ∃ t, mg "MOST_EDITION" = some (.int 4 t)
  m_MOST_EXCHANGES : ∃ t, mg "MOST_EXCHANGES" = some (.int 24 t)
  m_MOST_PAIRS : ∃ t, mg "MOST_PAIRS" = some (.int 400 t)
variable [Tbl]
variable {P : Program} {w : World} {K : PySem.W.Frag} {mg : Str → Option Value} {base : Heap} {f c : Addr} {fd : FuncData}

def sp_is_whole (K : PySem.W.Frag) : Sp := fun vs H Q _ => ∃ x, vs = [x] ∧ Kd K H x ∧ Q (.bl (wholeOf x).isSome) H
theorem ok_is_whole (T : Txt mg) (F : FunC K "is_whole" s_is_whole f fd c) : FnOk P w K mg base CX0 1 f fd ["value"] (sp_is_whole K) := by
  refine F.ok sc_is_whole (fun vs H Q E h => ?_) (fun A outer s H vs Q E hr h => ⟨_, (pss_one (ps_ret (pe_and (pe_callB (crK (K := K) rIsi call_isi rfl) (by rfl) T.g_isinstance (by decide +kernel) (pa_cons (pv 0) (pa_cons (pe_bltn (v := .ty "int") (by rfl) T.g_int boot_int rfl) pa_nil))) (pe_one (pe_not (pe_callB (crK (K := K) rIsi call_isi rfl) (by rfl) T.g_isinstance (by decide +kernel) (pa_cons (pv 0) (pa_cons (pe_bltn (v := .ty "bool") (by rfl) T.g_bool boot_bool rfl) pa_nil)))))))), ?_⟩)
  · obtain ⟨x, rfl, _⟩ := h; rfl
  · obtain ⟨x, rfl, ⟨t, b, cc, ht, hb, hc, e⟩, q⟩ := h
    refine ⟨_, rfl, x, .ty "int", .type t, .type "int", b, rfl, .ty _, ht, kit_ty hb, b, rfl, ?_⟩
    cases b with
    | false =>
      refine iteF ?_
      rw [← e] at q
      exact q
    | true =>
      refine iteT ⟨_, rfl, x, .ty "bool", .type t, .type "bool", cc, rfl, .ty _, ht, kit_ty hc, cc, rfl, ?_⟩
      rw [← e] at q
      exact q

def sp_is_between (K : PySem.W.Frag) : Sp := fun vs H Q _ => ∃ x lo hi, vs = [x, .int lo, .int hi] ∧ Kd K H x ∧ Q (.bl (btw x lo hi)) H
theorem ok_is_between (T : Txt mg) (C_is_whole : Callee P w K mg base "is_whole" 1 ["value"] (sp_is_whole K)) (F : FunC K "is_between" s_is_between f fd c) : FnOk P w K mg base CX0 2 f fd ["value", "low", "high"] (sp_is_between K) := by
  refine F.ok sc_is_between (fun vs H Q E h => ?_) (fun A outer s H vs Q E hr h => ⟨_, (pss_one (ps_ret (pe_and (pe_callC C_is_whole hr (by rfl) (pa_cons (pv 0) pa_nil)) (pe_one (pe_chain op_le op_le (pv 1) (pv 0) (pv 2)))))), ?_⟩)
  · obtain ⟨x, lo, hi, rfl, _⟩ := h; rfl
  · obtain ⟨x, lo, hi, rfl, kd, q⟩ := h
    refine ⟨_, rfl, x, rfl, kd, _, rfl, ?_⟩
    cases x with
    | int i =>
      refine iteT ⟨_, rfl, _, rfl, lo, i, rfl, rfl, _, rfl, ?_⟩
      by_cases h1 : lo ≤ i
      · rw [decide_eq_true h1]
        refine iteT ⟨_, rfl, i, hi, rfl, rfl, ?_⟩
        have e : btw (.int i) lo hi = decide (i ≤ hi) := by unfold btw; simp [h1]
        rw [e] at q
        exact q
      · rw [decide_eq_false h1]
        refine iteF ?_
        have e : btw (.int i) lo hi = false := by unfold btw; simp [h1]
        rw [e] at q
        exact q
    | _ => exact iteF q

def sp_is_tuple_of (K : PySem.W.Frag) : Sp := fun vs H Q _ => ∃ x n, vs = [x, .int n] ∧ Kt K H x ∧ Q (.bl (match tupOf H x with | some xs => decide ((xs.length : Int) = n) | none => false)) H
theorem ok_is_tuple_of (T : Txt mg) (F : FunC K "is_tuple_of" s_is_tuple_of f fd c) : FnOk P w K mg base CX0 1 f fd ["value", "many"] (sp_is_tuple_of K) := by
  refine F.ok sc_is_tuple_of (fun vs H Q E h => ?_) (fun A outer s H vs Q E hr h => ⟨_, (pss_one (ps_ret (pe_and (pe_callB (crK (K := K) rIsi call_isi rfl) (by rfl) T.g_isinstance (by decide +kernel) (pa_cons (pv 0) (pa_cons (pe_bltn (v := .ty "tuple") (by rfl) T.g_tuple boot_tuple rfl) pa_nil))) (pe_one (pe_cmpR op_eq (pe_callB (crK (K := K) rLenQ cr_len rfl) (by rfl) T.g_len (by decide +kernel) (pa_cons (pv 0) pa_nil)) (pv 1) (nomark _)))))), ?_⟩)
  · obtain ⟨x, n, rfl, _⟩ := h; rfl
  · obtain ⟨x, n, rfl, ⟨t, b, ht, hb, e⟩, q⟩ := h
    refine ⟨_, rfl, x, .ty "tuple", .type t, .type "tuple", b, rfl, .ty _, ht, kit_ty hb, b, rfl, ?_⟩
    cases b with
    | false =>
      refine iteF ?_
      have e1 : tupOf H x = none := by cases z : tupOf H x with
        | none => rfl
        | some v => rw [z] at e; cases e
      rw [e1] at q
      exact q
    | true =>
      refine iteT ?_
      obtain ⟨a, xs, rfl, z, e1⟩ := tupOf_some e.symm
      rw [e1] at q
      refine ⟨_, rfl, a, xs, rfl, .inr (SqT.of z), _, rfl, rfl, ?_⟩
      have e2 : decide (V.int (xs.length : Int) = V.int n) = decide ((xs.length : Int) = n) := by rw [dec_int]; exact (Bool.beq_eq_decide_eq _ _)
      rw [e2]
      exact q

def sp_is_rising (K : PySem.W.Frag) : Sp := fun vs H Q _ => ∃ a xs ks, vs = [.ref a] ∧ (SqL K H a xs ∨ SqT K H a xs) ∧ Kys K H xs ks ∧ xs.length ≤ 1000 ∧ ∀ H', Xn H H' → Q (.bl (rising ks)) H'
theorem ok_is_rising (T : Txt mg) (F : FunC K "is_rising" s_is_rising f fd c) : FnOk P w K mg base CX0 1 f fd ["things"] (sp_is_rising K) := by
  refine F.ok sc_is_rising (fun vs H Q E h => ?_) (fun A outer s H vs Q E hr h => ⟨_, (pss_one (ps_ret (pe_callB (crK (K := K) rAll (cr_all rfl) rfl) (by rfl) T.g_all (by decide +kernel) (pa_cons (pe_lc (own := [("place", 1)]) rfl sc_is_rising.nd (pi_range1 (by rfl) T.g_range (pa_cons (pe_op op_sub (pe_callB (crK (K := K) rLenQ cr_len rfl) (by rfl) T.g_len (by decide +kernel) (pa_cons (pv 0) pa_nil)) pe_int) pa_nil)) (blkOk_by (N := N_is_rising) (sc := defScope s_is_rising) (own := [("place", 1)]) (by decide +kernel)) (fun _ _ _ _ _ => (pg_name (i := 1) sc_is_rising.nd rfl (Or.inl rfl))) (fun _ _ _ _ _ => pts_nil) (fun _ _ _ _ _ => (pe_cmpR (opK (K := K) rLtK (op_ltK hr.units0) rfl) (pe_ix (ixK (K := K) rIx ix_seq rfl) (pv 0) (pv 1) (fun _ _ => rfl)) (pe_ix (ixK (K := K) rIx ix_seq rfl) (pv 0) (pe_op op_add (pv 1) pe_int) (fun _ _ => rfl)) (nomark _)))) pa_nil)))), ?_⟩)
  · obtain ⟨a, xs, ks, rfl, _⟩ := h; rfl
  · obtain ⟨a, xs, ks, rfl, hs, ⟨hl, hk⟩, hz, q⟩ := h
    refine ⟨_, rfl, a, xs, rfl, hs, _, _, rfl, rfl, _, rfl, by omega, by omega, fun D hD => ?_⟩
    refine lc_range (lo := 0) (n := ((xs.length : Int) - 1).toNat) (fun i H' => Xn H H' ∧ H' D = some (.lst ((nbs ks i).map V.bl))) ⟨Xt.new hD, upd_same⟩ (fun i H' hi hp => ?_) (fun H' hp => ?_)
    · obtain ⟨hx, hD'⟩ := hp
      have hs' : SqL K H' a xs ∨ SqT K H' a xs := hs.imp (sqL_x hx) (sqT_x hx)
      obtain ⟨x1, e1⟩ : ∃ x1, xs[i]? = some x1 := ⟨xs[i]'(by omega), List.getElem?_eq_getElem _⟩
      obtain ⟨x2, e2⟩ : ∃ x2, xs[i + 1]? = some x2 := ⟨xs[i + 1]'(by omega), List.getElem?_eq_getElem _⟩
      refine ⟨rfl, yes_of ⟨_, rfl, _, rfl, rix_of hs' (Int.zero_add _) e1 ⟨_, rfl, _, rfl, _, _, rfl, rfl, rix_of hs' (show (0 : Int) + (i : Int) + 1 = ((i + 1 : Nat) : Int) by omega) e2 ?_⟩⟩⟩
      have fin : ∀ b, b = HT.lexLt (ks[i]?.getD []) (ks[i + 1]?.getD []) → ∃ acc, H' D = some (.lst acc) ∧ acc.length < sizeLine ∧ Xn H (upd H' D (.lst (acc ++ [V.bl b]))) ∧ upd H' D (.lst (acc ++ [V.bl b])) D = some (.lst ((nbs ks (i + 1)).map V.bl)) := fun b eb => by
        refine ⟨_, hD', sz_lt (by rw [List.length_map, nbs_len]; omega), hx.young hD, ?_⟩
        rw [upd_same, nbs_succ, List.map_append, eb]; rfl
      rcases hk with hk | hk
      · obtain ⟨n1, rfl, k1⟩ := hk i x1 e1
        obtain ⟨n2, rfl, k2⟩ := hk (i + 1) x2 e2
        refine .inl ⟨n1, n2, rfl, rfl, fin _ ?_⟩
        rw [k1, k2]; exact lexLt_one.symm
      · obtain ⟨b1, ns1, rfl, t1, k1⟩ := hk i x1 e1
        obtain ⟨b2, ns2, rfl, t2, k2⟩ := hk (i + 1) x2 e2
        refine .inr ⟨b1, b2, ns1, ns2, rfl, rfl, SqT.of (hx.tups _ _ t1), SqT.of (hx.tups _ _ t2), fin _ ?_⟩
        rw [k1, k2]; rfl
    · obtain ⟨hx, hD'⟩ := hp
      refine ⟨D, nbs ks ((xs.length : Int) - 1).toNat, rfl, SqL.of hD', ?_⟩
      have e : ((xs.length : Int) - 1).toNat = ks.length - 1 := by omega
      rw [e, nbs_all]
      exact q H' hx

end K02
-- L3
namespace LC
variable [Tbl]
open PySem PySem.Spec PyProof.Rows L2 GenW RZ

/-! walking a tuple within all(..), tuple(..), and pairs by enumerate, zip in a comprehension -/
section
variable {K : PySem.W.Frag} {a : Addr} {xs : List V} {g : TG} {tt : TT} {te : TE} {vs : List Nat} {σ : L2.St} {H4 : Hp} {Qt Qf : Hp → Prop} {Qd : List V → Hp → Prop}
theorem allG_tup (Pv : Nat → Hp → Prop) (h0 : Pv 0 H4) (hl : ∀ i H, i ≤ xs.length → Pv i H → SqT K H a xs)
    (hs : ∀ i x H, xs[i]? = some x → Pv i H → g x (wipe σ vs) H fun σ2 H2 => wipe σ2 vs = wipe σ vs ∧ tt σ2 H2 fun b H3 =>
      if b = true then te σ2 H3 fun y H5 => ∃ c, y = .bl c ∧ if c = true then Pv (i + 1) H5 else Qf H5 else Pv (i + 1) H3) (hd : ∀ H, Pv xs.length H → Qt H) :
    ∃ W : Nat → Nat → Hp → Prop, (∃ m, W 0 m H4) ∧ ∀ i m H, W i m H →
      ((Itt K a).stop i H ∧ Qt H) ∨ ((Itt K a).go i H ∧ ∃ Nx : Hp → Prop, (∀ H', Nx H' → ∃ m', m' < m ∧ W (i + 1) m' H') ∧ ∀ x H', (Itt K a).yld i H x H' → g x (wipe σ vs) H' fun σ2 H2 => wipe σ2 vs = wipe σ vs ∧ tt σ2 H2 fun b H3 =>
        if b = true then te σ2 H3 fun y H5 => ∃ c, y = .bl c ∧ if c = true then Nx H5 else Qf H5 else Nx H3) := by
  refine ⟨fun i m H => m = xs.length - i ∧ i ≤ xs.length ∧ Pv i H, ⟨xs.length, by simp, Nat.zero_le _, h0⟩, ?_⟩
  rintro i m H ⟨rfl, hi, p⟩
  have q := hl i H hi p
  by_cases hlt : i < xs.length
  · refine .inr ⟨⟨xs, xs[i], q, by simp [hlt]⟩, Pv (i + 1), fun H' h' => ⟨xs.length - (i + 1), by omega, rfl, hlt, h'⟩, fun x H' y => ?_⟩
    obtain ⟨e, y⟩ := y
    subst e
    exact hs i x _ (y xs q) p
  · have e : i = xs.length := by omega
    subst e
    exact .inl ⟨⟨xs, q, Nat.le_refl _⟩, hd H p⟩
theorem tupG_tup (Pv : Nat → List V → Hp → Prop) (h0 : Pv 0 [] H4) (hl : ∀ i zs H, i ≤ xs.length → Pv i zs H → SqT K H a xs)
    (hs : ∀ i x zs H, xs[i]? = some x → Pv i zs H → g x (wipe σ vs) H fun σ2 H2 => wipe σ2 vs = wipe σ vs ∧ tt σ2 H2 fun b H3 =>
      if b = true then te σ2 H3 fun y H5 => zs.length < sizeLine ∧ Pv (i + 1) (zs ++ [y]) H5 else Pv (i + 1) zs H3) (hd : ∀ zs H, Pv xs.length zs H → Qd zs H) :
    ∃ W : List V → Nat → Nat → Hp → Prop, (∃ m, W [] 0 m H4) ∧ ∀ ys i m H, W ys i m H →
      ((Itt K a).stop i H ∧ Qd ys H) ∨ ((Itt K a).go i H ∧ ∃ Nx : List V → Hp → Prop, (∀ zs H', Nx zs H' → ∃ m', m' < m ∧ W zs (i + 1) m' H') ∧ ∀ x H', (Itt K a).yld i H x H' → g x (wipe σ vs) H' fun σ2 H2 => wipe σ2 vs = wipe σ vs ∧ tt σ2 H2 fun b H3 =>
        if b = true then te σ2 H3 fun y H5 => ys.length < sizeLine ∧ Nx (ys ++ [y]) H5 else Nx ys H3) := by
  refine ⟨fun ys i m H => m = xs.length - i ∧ i ≤ xs.length ∧ Pv i ys H, ⟨xs.length, by simp, Nat.zero_le _, h0⟩, ?_⟩
  rintro ys i m H ⟨rfl, hi, p⟩
  have q := hl i ys H hi p
  by_cases hlt : i < xs.length
  · refine .inr ⟨⟨xs, xs[i], q, by simp [hlt]⟩, Pv (i + 1), fun zs H' h' => ⟨xs.length - (i + 1), by omega, rfl, hlt, h'⟩, fun x H' y => ?_⟩
    obtain ⟨e, y⟩ := y
    subst e
    exact hs i x ys _ (y xs q) p
  · have e : i = xs.length := by omega
    subst e
    exact .inl ⟨⟨xs, q, Nat.le_refl _⟩, hd ys H p⟩
end
/-- over two tuples side by side, the pairs being new -/
theorem lc_zipT {K : PySem.W.Frag} {a b : Addr} {xs ys : List V} {g : TG} {tt : TT} {te : TE} {vs : List Nat} {σ : L2.St} {H1 : Hp} {D : Addr} {Qd : Hp → Prop} (hn : xs.length = ys.length) (Pv : Nat → Hp → Prop) (h0 : Pv 0 (upd H1 D (.lst []))) (hl : ∀ i H, i ≤ xs.length → Pv i H → SqT K H a xs ∧ SqT K H b ys)
    (hs : ∀ i x y T H, xs[i]? = some x → ys[i]? = some y → Pv i H → H T = none → g (.ref T) (wipe σ vs) (upd H T (.tup [x, y])) fun σ2 H2 => wipe σ2 vs = wipe σ vs ∧ tt σ2 H2 fun b H3 =>
      if b = true then te σ2 H3 fun y H4 => ∃ acc, H4 D = some (.lst acc) ∧ acc.length < sizeLine ∧ Pv (i + 1) (upd H4 D (.lst (acc ++ [y]))) else Pv (i + 1) H3) (hd : ∀ H, Pv xs.length H → Qd H) :
    ∃ W : Nat → Nat → Hp → Prop, (∃ m, W 0 m (upd H1 D (.lst []))) ∧ ∀ i m H, W i m H →
      ((ItzT K a b).stop i H ∧ Qd H) ∨ ((ItzT K a b).go i H ∧ ∃ Nx : Hp → Prop, (∀ H', Nx H' → ∃ m', m' < m ∧ W (i + 1) m' H') ∧ ∀ x H', (ItzT K a b).yld i H x H' → g x (wipe σ vs) H' fun σ2 H2 => wipe σ2 vs = wipe σ vs ∧ tt σ2 H2 fun b H3 =>
        if b = true then te σ2 H3 fun y H4 => ∃ acc, H4 D = some (.lst acc) ∧ acc.length < sizeLine ∧ Nx (upd H4 D (.lst (acc ++ [y]))) else Nx H3) := by
  refine ⟨fun i m H => m = xs.length - i ∧ i ≤ xs.length ∧ Pv i H, ⟨xs.length, by simp, Nat.zero_le _, h0⟩, ?_⟩
  rintro i m H ⟨rfl, hi, p⟩
  obtain ⟨q1, q2⟩ := hl i H hi p
  by_cases hlt : i < xs.length
  · refine .inr ⟨⟨xs, ys, xs[i], ys[i]'(by omega), q1, q2, by simp [hlt], List.getElem?_eq_getElem _⟩, Pv (i + 1), fun H' h' => ⟨xs.length - (i + 1), by omega, rfl, hlt, h'⟩, fun x H' y => ?_⟩
    obtain ⟨T, u, v, rfl, hT, rfl, e1, e2⟩ := y
    exact hs i u v T H (e1 xs q1) (e2 ys q2) p hT
  · have e : i = xs.length := by omega
    subst e
    exact .inl ⟨⟨xs, ys, q1, q2, .inl (Nat.le_refl _)⟩, hd H p⟩
/-- over a tuple with its places, the pairs being new -/
theorem lc_enumT {K : PySem.W.Frag} {a : Addr} {xs : List V} {g : TG} {tt : TT} {te : TE} {vs : List Nat} {σ : L2.St} {H1 : Hp} {D : Addr} {Qd : Hp → Prop} (Pv : Nat → Hp → Prop) (h0 : Pv 0 (upd H1 D (.lst []))) (hl : ∀ i H, i ≤ xs.length → Pv i H → SqT K H a xs)
    (hs : ∀ i x T H, xs[i]? = some x → Pv i H → H T = none → g (.ref T) (wipe σ vs) (upd H T (.tup [.int (i : Nat), x])) fun σ2 H2 => wipe σ2 vs = wipe σ vs ∧ tt σ2 H2 fun b H3 =>
      if b = true then te σ2 H3 fun y H4 => ∃ acc, H4 D = some (.lst acc) ∧ acc.length < sizeLine ∧ Pv (i + 1) (upd H4 D (.lst (acc ++ [y]))) else Pv (i + 1) H3) (hd : ∀ H, Pv xs.length H → Qd H) :
    ∃ W : Nat → Nat → Hp → Prop, (∃ m, W 0 m (upd H1 D (.lst []))) ∧ ∀ i m H, W i m H →
      ((IteT K a).stop i H ∧ Qd H) ∨ ((IteT K a).go i H ∧ ∃ Nx : Hp → Prop, (∀ H', Nx H' → ∃ m', m' < m ∧ W (i + 1) m' H') ∧ ∀ x H', (IteT K a).yld i H x H' → g x (wipe σ vs) H' fun σ2 H2 => wipe σ2 vs = wipe σ vs ∧ tt σ2 H2 fun b H3 =>
        if b = true then te σ2 H3 fun y H4 => ∃ acc, H4 D = some (.lst acc) ∧ acc.length < sizeLine ∧ Nx (upd H4 D (.lst (acc ++ [y]))) else Nx H3) := by
  refine ⟨fun i m H => m = xs.length - i ∧ i ≤ xs.length ∧ Pv i H, ⟨xs.length, by simp, Nat.zero_le _, h0⟩, ?_⟩
  rintro i m H ⟨rfl, hi, p⟩
  have q := hl i H hi p
  by_cases hlt : i < xs.length
  · refine .inr ⟨⟨xs, xs[i], q, by simp [hlt]⟩, Pv (i + 1), fun H' h' => ⟨xs.length - (i + 1), by omega, rfl, hlt, h'⟩, fun x H' y => ?_⟩
    obtain ⟨T, u, rfl, hT, rfl, e1⟩ := y
    exact hs i u T H (e1 xs q) p hT
  · have e : i = xs.length := by omega
    subst e
    exact .inl ⟨⟨xs, q, rfl⟩, hd H p⟩
theorem for_enumT {K : PySem.W.Frag} {a : Addr} {xs : List V} {g : TG} {tb : TS} {D : Ends} {σ : L2.St} {H : Hp} (Pv : Nat → L2.St → Hp → Prop) (h0 : Pv 0 σ H) (hl : ∀ i σ H, i ≤ xs.length → Pv i σ H → SqT K H a xs)
    (hs : ∀ i x T σ H, xs[i]? = some x → Pv i σ H → H T = none → g (.ref T) σ (upd H T (.tup [.int (i : Nat), x])) fun σ2 H2 => tb { D with nx := Pv (i + 1), ct := Pv (i + 1), bk := D.nx } σ2 H2) (hd : ∀ σ H, Pv xs.length σ H → D.nx σ H) :
    ∃ W : Nat → Nat → L2.St → Hp → Prop, (∃ m, W 0 m σ H) ∧ ∀ i m σ H, W i m σ H →
      ((IteT K a).stop i H ∧ D.nx σ H) ∨ ((IteT K a).go i H ∧ ∃ N : L2.St → Hp → Prop, (∀ σ' H', N σ' H' → ∃ m', m' < m ∧ W (i + 1) m' σ' H') ∧ ∀ x H', (IteT K a).yld i H x H' → g x σ H' fun σ2 H2 => tb { D with nx := N, ct := N, bk := D.nx } σ2 H2) := by
  refine ⟨fun i m σ H => m = xs.length - i ∧ i ≤ xs.length ∧ Pv i σ H, ⟨xs.length, by simp, Nat.zero_le _, h0⟩, ?_⟩
  rintro i m σ H ⟨rfl, hi, p⟩
  have q := hl i σ H hi p
  by_cases hlt : i < xs.length
  · refine .inr ⟨⟨xs, xs[i], q, by simp [hlt]⟩, Pv (i + 1), fun σ' H' p' => ⟨xs.length - (i + 1), by omega, rfl, hlt, p'⟩, fun x H' y => ?_⟩
    obtain ⟨T, u, rfl, hT, rfl, e1⟩ := y
    exact hs i u T σ H (e1 xs q) p hT
  · have e : i = xs.length := by omega
    subst e
    exact .inl ⟨⟨xs, q, rfl⟩, hd σ H p⟩

theorem pg_tupK {X : Cx} {K : PySem.W.Frag} {es : List Expr} {k : Nat} {t : TGs} {n : Nat} {pos : Pos} (hq : X.K = K) (hc : X.calm = true) (h : PGs X es t)
    (hn : (assignEach es X.env).length = n) (hst : (assignEach es X.env).findIdx? (·.1) = none) : PG X (.Tuple es k pos) (gTup K n t) := hq ▸ pg_tup hc h hn hst
theorem sl_take {K : PySem.W.Frag} {H : Hp} {t : Addr} {ns : List Int} {k : Nat} {Q : VK} (h : H t = some (.tup (ns.map V.int))) (hk : k < ns.length) (q : ∀ p, H p = none → Q (.ref p) (upd H p (.tup ((ns.take k).map V.int)))) : rSlA K (.ref t) none (some (k : Int)) H Q := by
  refine ⟨t, _, rfl, SqT.of h, fun z => ?_, fun _ p hp => ?_⟩
  · exfalso
    rw [HT.sIx_nat, List.length_map] at z
    omega
  · have e : cutV (ns.map V.int) none (some (k : Int)) = (ns.take k).map V.int := by
      unfold cutV
      rw [HT.sIx_nat, HT.sIx_none, List.length_map, List.drop_zero, List.map_take, Nat.sub_zero, Nat.min_eq_left (by omega)]
    rw [e]
    exact q p hp
theorem sl_drop {K : PySem.W.Frag} {H : Hp} {t : Addr} {ns : List Int} {k : Nat} {Q : VK} (h : H t = some (.tup (ns.map V.int))) (h0 : 0 < k) (hk : k ≤ ns.length) (q : ∀ p, H p = none → Q (.ref p) (upd H p (.tup ((ns.drop k).map V.int)))) : rSlA K (.ref t) (some (k : Int)) none H Q := by
  refine ⟨t, _, rfl, SqT.of h, fun z => ?_, fun _ p hp => ?_⟩
  · exfalso
    rw [HT.sIx_nat, List.length_map] at z
    omega
  · have e : cutV (ns.map V.int) (some (k : Int)) none = (ns.drop k).map V.int := by
      unfold cutV
      rw [HT.sIx_nat, HT.sIx_none, List.length_map, Nat.min_eq_left hk, List.map_drop, List.take_of_length_le (by rw [List.length_drop, List.length_map]; exact Nat.le_refl _)]
    rw [e]
    exact q p hp
/-! clocks -/
structure Clk where
  per : Int
  eds : List Int
  tch : List (List Int)
  gps : List (List Int)
  bok : List (List Int)
/-- a tuple's items are tuples of whole numbers -/
def Rows (H : Hp) (rs : List V) (xss : List (List Int)) : Prop := rs.length = xss.length ∧ ∀ (i : Nat) (ns : List Int), xss[i]? = some ns → ∃ b : Addr, rs[i]? = some (V.ref b) ∧ H b = some (.tup (ns.map V.int))
theorem Rows.x {S : Addr → Prop} {H H1 : Hp} {rs : List V} {xss : List (List Int)} (h : Rows H rs xss) (x : Xt S H H1) : Rows H1 rs xss := ⟨h.1, fun i ns e => by
  obtain ⟨b, e1, e2⟩ := h.2 i ns e
  exact ⟨b, e1, x.tups _ _ e2⟩⟩
theorem Rows.get {H : Hp} {rs : List V} {xss : List (List Int)} (h : Rows H rs xss) {i : Nat} {v : V} (e : rs[i]? = some v) : ∃ (b : Addr) (ns : List Int), v = .ref b ∧ xss[i]? = some ns ∧ H b = some (.tup (ns.map V.int)) := by
  have hl : i < xss.length := by rw [← h.1]; exact (List.getElem?_eq_some_iff.mp e).1
  obtain ⟨b, e1, e2⟩ := h.2 i _ (List.getElem?_eq_getElem hl)
  rw [e] at e1; cases e1
  exact ⟨b, _, rfl, List.getElem?_eq_getElem hl, e2⟩
/-- no tuple changes -/
abbrev Tk (H H1 : Hp) : Prop := ∀ a xs, H a = some (HO.tup xs) → H1 a = some (.tup xs)
theorem Tk.new {H H1 : Hp} {p : Addr} {o : HO} (t : Tk H H1) (h : H1 p = none) : Tk H (upd H1 p o) := fun a xs e => by
  rw [upd_ne (fun z => by rw [z] at e; have := t _ _ e; rw [h] at this; cases this)]; exact t _ _ e
theorem Tk.lst {H H1 : Hp} {p : Addr} {o : HO} {ys : List V} (t : Tk H H1) (h : H1 p = some (.lst ys)) : Tk H (upd H1 p o) := fun a xs e => by
  rw [upd_ne (fun z => by rw [z] at e; have := t _ _ e; rw [h] at this; cases this)]; exact t _ _ e
theorem Tk.refl {H : Hp} : Tk H H := fun _ _ e => e
theorem Rows.mono {H H1 : Hp} {rs : List V} {xss : List (List Int)} (h : Rows H rs xss) (x : Tk H H1) : Rows H1 rs xss := ⟨h.1, fun i ns e => by
  obtain ⟨b, e1, e2⟩ := h.2 i ns e
  exact ⟨b, e1, x _ _ e2⟩⟩
theorem Rows.snoc {H : Hp} {rs : List V} {xss : List (List Int)} {b : Addr} {ns : List Int} (h : Rows H rs xss) (e : H b = some (.tup (ns.map V.int))) : Rows H (rs ++ [.ref b]) (xss ++ [ns]) := ⟨by rw [List.length_append, List.length_append, h.1]; rfl, fun i ms e1 => by
  by_cases hi : i < xss.length
  · rw [List.getElem?_append_left hi] at e1
    obtain ⟨d, e2, e3⟩ := h.2 i ms e1
    exact ⟨d, by rw [List.getElem?_append_left (by rw [h.1]; exact hi)]; exact e2, e3⟩
  · rw [List.getElem?_append_right (by omega)] at e1
    have z : i - xss.length = 0 := by
      have := (List.getElem?_eq_some_iff.mp e1).1
      simp at this; omega
    rw [z] at e1
    cases e1
    exact ⟨b, by rw [List.getElem?_append_right (by rw [h.1]; omega), h.1, z]; rfl, e⟩⟩
theorem Rows.nil {H : Hp} : Rows H [] [] := ⟨rfl, fun i ns e => by simp at e⟩
theorem take_snocE {α : Type} {xs : List α} {i : Nat} {x : α} (e : xs[i]? = some x) : xs.take (i + 1) = xs.take i ++ [x] := by
  rw [List.take_add_one, e]; rfl
structure ClkAt (H : Hp) (v : V) (c : Clk) : Prop where
  ex : ∃ (a e t g b : Addr) (rt rg rb : List V), v = .ref a ∧ H a = some (.tup [.int c.per, .ref e, .ref t, .ref g, .ref b]) ∧ H e = some (.tup (c.eds.map V.int)) ∧ H t = some (.tup rt) ∧ Rows H rt c.tch ∧ H g = some (.tup rg) ∧ Rows H rg c.gps ∧ H b = some (.tup rb) ∧ Rows H rb c.bok
theorem ClkAt.x {S : Addr → Prop} {H H1 : Hp} {v : V} {c : Clk} (h : ClkAt H v c) (x : Xt S H H1) : ClkAt H1 v c := by
  obtain ⟨a, e, t, g, b, rt, rg, rb, h0, h1, h2, h3, h4, h5, h6, h7, h8⟩ := h.ex
  exact ⟨a, e, t, g, b, rt, rg, rb, h0, x.tups _ _ h1, x.tups _ _ h2, x.tups _ _ h3, h4.x x, x.tups _ _ h5, h6.x x, x.tups _ _ h7, h8.x x⟩
/-- ascending, no two alike -/
def TchOk (per : Int) (eds : List Int) (t : List Int) : Prop := ∃ p i j : Int, t = [p, i, j] ∧ 0 ≤ p ∧ p < per ∧ 0 ≤ i ∧ i < j ∧ j < eds.length
def BokOk (eds : List Int) (t : List Int) : Prop := ∃ i a j b : Int, t = [i, a, j, b] ∧ 0 ≤ i ∧ i < eds.length ∧ 0 ≤ j ∧ j < eds.length ∧ i ≠ j ∧ 1 ≤ a ∧ a ≤ eds[i.toNat]?.getD 0 ∧ 1 ≤ b ∧ b ≤ eds[j.toNat]?.getD 0
def GpsOk (per ed : Int) (g : List Int) : Prop := (0 < ed → g ≠ []) ∧ (∀ x ∈ g, 0 ≤ x ∧ x < per) ∧ rising (g.map fun x => [x]) = true ∧ g.length ≤ 1000
structure Clk.Ok (c : Clk) : Prop where
  per : 1 ≤ c.per ∧ c.per ≤ 12
  len : 1 ≤ c.eds.length ∧ c.eds.length ≤ 12
  eds : ∀ e ∈ c.eds, 0 ≤ e ∧ e ≤ 4
  sum : c.eds.sum ≤ 24
  tch : ∀ t ∈ c.tch, TchOk c.per c.eds t
  tchR : rising c.tch = true
  tchL : c.tch.length ≤ 1000
  gpsN : c.gps.length = c.eds.length
  gps : ∀ (i : Nat) (e : Int) (g : List Int), c.eds[i]? = some e → c.gps[i]? = some g → GpsOk c.per e g
  bok : ∀ t ∈ c.bok, BokOk c.eds t
  bokR : rising (c.bok.map (·.take 3)) = true
  bokL : c.bok.length ≤ 1000
end LC
-- L4
namespace LC
variable [Tbl]
open PySem PySem.Spec PyProof.Rows L2 GenW RZ
/-! turns of a walk, whatever the turn does -/
section
variable {K : PySem.W.Frag} {a : Addr} {xs : List V} {H0 : Hp} {Qd : Hp → Prop} {B : (Hp → Prop) → V → Hp → Prop}
theorem drvE (Pv : Nat → Hp → Prop) (h0 : Pv 0 H0) (hl : ∀ i H, i ≤ xs.length → Pv i H → SqT K H a xs)
    (hs : ∀ i x T H, xs[i]? = some x → Pv i H → H T = none → B (Pv (i + 1)) (.ref T) (upd H T (.tup [.int (i : Nat), x]))) (hd : ∀ H, Pv xs.length H → Qd H) :
    ∃ W : Nat → Nat → Hp → Prop, (∃ m, W 0 m H0) ∧ ∀ i m H, W i m H →
      ((IteT K a).stop i H ∧ Qd H) ∨ ((IteT K a).go i H ∧ ∃ Nx : Hp → Prop, (∀ H', Nx H' → ∃ m', m' < m ∧ W (i + 1) m' H') ∧ ∀ x H', (IteT K a).yld i H x H' → B Nx x H') := by
  refine ⟨fun i m H => m = xs.length - i ∧ i ≤ xs.length ∧ Pv i H, ⟨xs.length, by simp, Nat.zero_le _, h0⟩, ?_⟩
  rintro i m H ⟨rfl, hi, p⟩
  have q := hl i H hi p
  by_cases hlt : i < xs.length
  · refine .inr ⟨⟨xs, xs[i], q, by simp [hlt]⟩, Pv (i + 1), fun H' h' => ⟨xs.length - (i + 1), by omega, rfl, hlt, h'⟩, fun x H' y => ?_⟩
    obtain ⟨T, u, rfl, hT, rfl, e1⟩ := y
    exact hs i u T H (e1 xs q) p hT
  · have e : i = xs.length := by omega
    subst e
    exact .inl ⟨⟨xs, q, rfl⟩, hd H p⟩
theorem drvT (Pv : Nat → Hp → Prop) (h0 : Pv 0 H0) (hl : ∀ i H, i ≤ xs.length → Pv i H → SqT K H a xs)
    (hs : ∀ i x H, xs[i]? = some x → Pv i H → B (Pv (i + 1)) x H) (hd : ∀ H, Pv xs.length H → Qd H) :
    ∃ W : Nat → Nat → Hp → Prop, (∃ m, W 0 m H0) ∧ ∀ i m H, W i m H →
      ((Itt K a).stop i H ∧ Qd H) ∨ ((Itt K a).go i H ∧ ∃ Nx : Hp → Prop, (∀ H', Nx H' → ∃ m', m' < m ∧ W (i + 1) m' H') ∧ ∀ x H', (Itt K a).yld i H x H' → B Nx x H') := by
  refine ⟨fun i m H => m = xs.length - i ∧ i ≤ xs.length ∧ Pv i H, ⟨xs.length, by simp, Nat.zero_le _, h0⟩, ?_⟩
  rintro i m H ⟨rfl, hi, p⟩
  have q := hl i H hi p
  by_cases hlt : i < xs.length
  · refine .inr ⟨⟨xs, xs[i], q, by simp [hlt]⟩, Pv (i + 1), fun H' h' => ⟨xs.length - (i + 1), by omega, rfl, hlt, h'⟩, fun x H' y => ?_⟩
    obtain ⟨e, y⟩ := y
    subst e
    exact hs i x _ (y xs q) p
  · have e : i = xs.length := by omega
    subst e
    exact .inl ⟨⟨xs, q, Nat.le_refl _⟩, hd H p⟩
theorem drvR {lo : Int} {n : Nat} (Pv : Nat → Hp → Prop) (h0 : Pv 0 H0) (hs : ∀ i H, i < n → Pv i H → B (Pv (i + 1)) (.int (lo + i)) H) (hd : ∀ H, Pv n H → Qd H) :
    ∃ W : Nat → Nat → Hp → Prop, (∃ m, W 0 m H0) ∧ ∀ i m H, W i m H →
      ((Itr lo n).stop i H ∧ Qd H) ∨ ((Itr lo n).go i H ∧ ∃ Nx : Hp → Prop, (∀ H', Nx H' → ∃ m', m' < m ∧ W (i + 1) m' H') ∧ ∀ x H', (Itr lo n).yld i H x H' → B Nx x H') := by
  refine ⟨fun i m H => m = n - i ∧ i ≤ n ∧ Pv i H, ⟨n, by simp, Nat.zero_le _, h0⟩, ?_⟩
  rintro i m H ⟨rfl, hi, p⟩
  by_cases hlt : i < n
  · refine .inr ⟨hlt, Pv (i + 1), fun H' p' => ⟨n - (i + 1), by omega, rfl, hlt, p'⟩, fun x H' y => ?_⟩
    obtain ⟨e, y⟩ := y
    subst e y
    exact hs i _ hlt p
  · have e : i = n := by omega
    subst e
    exact .inl ⟨Nat.le_refl _, hd H p⟩
end
theorem bl_of {Q : VK} {b : Bool} {H : Hp} (e : b = true) (q : Q (.bl true) H) : Q (.bl b) H := by rw [e]; exact q
/-! all exchanges of a clock -/
def dueW (i : Nat) (j : Nat) : List (List Int) := (List.range j).map fun (k : Nat) => [(i : Int), 1 + (k : Int)]
def due (eds : List Int) (n : Nat) : List (List Int) := (List.range n).flatMap fun i => dueW i (eds[i]?.getD 0).toNat
theorem due_succ (eds : List Int) (n : Nat) : due eds (n + 1) = due eds n ++ dueW n (eds[n]?.getD 0).toNat := by
  unfold due; rw [List.range_succ, List.flatMap_append, List.flatMap_singleton]
theorem dueW_succ (i j : Nat) : dueW i (j + 1) = dueW i j ++ [[(i : Int), 1 + (j : Int)]] := by
  unfold dueW; rw [List.range_succ, List.map_append]; rfl
theorem dueW_len (i j : Nat) : (dueW i j).length = j := by unfold dueW; simp
theorem due_len (eds : List Int) (h : ∀ e ∈ eds, 0 ≤ e ∧ e ≤ 4) : ∀ n, (due eds n).length ≤ 4 * n
  | 0 => by simp [due]
  | n + 1 => by
    rw [due_succ, List.length_append, dueW_len]
    have := due_len eds h n
    have h2 : (eds[n]?.getD 0).toNat ≤ 4 := by
      cases z : eds[n]? with
      | none => simp
      | some e => have := h e (List.mem_of_getElem? z); simp; omega
    omega
end LC
namespace LC
variable [Tbl]
open PySem PySem.Spec PyProof.Rows L2
theorem filt_yes {α : Type} {p : α → Bool} {xs : List α} {i : Nat} {x : α} (e : xs[i]? = some x) (h : p x = true) : (xs.take (i + 1)).filter p = (xs.take i).filter p ++ [x] := by
  rw [take_snocE e, List.filter_append, List.filter_cons_of_pos h, List.filter_nil]
theorem filt_no {α : Type} {p : α → Bool} {xs : List α} {i : Nat} {x : α} (e : xs[i]? = some x) (h : p x = false) : (xs.take (i + 1)).filter p = (xs.take i).filter p := by
  rw [take_snocE e, List.filter_append, List.filter_cons_of_neg (by rw [h]; exact Bool.false_ne_true), List.filter_nil, List.append_nil]
theorem deceq {i j : Int} : decide (V.int i = V.int j) = decide (i = j) := by rw [dec_int]; exact (Bool.beq_eq_decide_eq _ _)
/-- a place of a tuple of whole numbers -/
theorem rixI {K : PySem.W.Frag} {H : Hp} {a : Addr} {ns : List Int} {i : Int} {n : Int} {Q : VK} (j : Nat) (hs : H a = some (.tup (ns.map V.int))) (e : i = (j : Int)) (hx : ns[j]? = some n) (q : Q (.int n) H) : rIxT K (.ref a) (.int i) H Q :=
  rixT_of hs e (by rw [List.getElem?_map, hx]; rfl) q
/-- the same where the place is written -/
theorem rixC {K : PySem.W.Frag} {H : Hp} {σ : L2.St} {a : Addr} {ns : List Int} {i : Int} {n : Int} {Q : VK} (j : Nat) (hs : H a = some (.tup (ns.map V.int))) (e : i = (j : Int)) (hx : ns[j]? = some n) (q : Q (.int n) H) : tC (.int i) σ H (fun y H2 => rIxT K (.ref a) y H2 Q) :=
  rixT_of hs e (by rw [List.getElem?_map, hx]; rfl) q
theorem rixV {K : PySem.W.Frag} {H : Hp} {σ : L2.St} {a : Addr} {xs : List V} {i : Int} {v : V} {Q : VK} (j : Nat) (hs : H a = some (.tup xs)) (e : i = (j : Int)) (hx : xs[j]? = some v) (q : Q v H) : tC (.int i) σ H (fun y H2 => rIxT K (.ref a) y H2 Q) :=
  rixT_of hs e hx q
end LC
namespace LC
variable [Tbl]
open PySem L2
/-- an entry of the book speaks of these wheels and of an edition up to this one -/
def entOk (i a j : Int) (t : List Int) : Bool := decide (t[0]?.getD 0 = i) && decide (t[2]?.getD 0 = j) && decide (t[1]?.getD 0 ≤ a)
def LN (bok : List (List Int)) (i a j m : Int) : Prop := (∀ t ∈ bok, entOk i a j t = true → t[3]?.getD 0 ≤ m) ∧ (m = 0 ∨ ∃ t ∈ bok, entOk i a j t = true ∧ t[3]?.getD 0 = m)
theorem bok_pos {eds t : List Int} (h : BokOk eds t) : (1 : Int) ≤ t[3]?.getD 0 := by
  obtain ⟨i, a, j, b, rfl, _, _, _, _, _, _, _, h8, _⟩ := h
  exact h8
theorem LN.uniq {bok : List (List Int)} {eds : List Int} {i a j m1 m2 : Int} (hb : ∀ t ∈ bok, BokOk eds t) (h1 : LN bok i a j m1) (h2 : LN bok i a j m2) : m1 = m2 := by
  obtain ⟨u1, l1⟩ := h1
  obtain ⟨u2, l2⟩ := h2
  rcases l1 with l1 | ⟨t1, a1, b1, c1⟩
  · rcases l2 with l2 | ⟨t2, a2, b2, c2⟩
    · omega
    · have := u1 t2 a2 b2; have := bok_pos (hb t2 a2); omega
  · rcases l2 with l2 | ⟨t2, a2, b2, c2⟩
    · have := u2 t1 a1 b1; have := bok_pos (hb t1 a1); omega
    · have := u1 t2 a2 b2; have := u2 t1 a1 b1; omega
end LC
namespace LC
variable [Tbl]
open PySem L2
theorem sl_dropN {K : PySem.W.Frag} {H : Hp} {σ : L2.St} {t : Addr} {ns : List Int} {k : Nat} {i : Int} {Q : VK} (h : H t = some (.tup (ns.map V.int))) (e : i = (k : Int)) (h0 : 0 < k) (hk : k ≤ ns.length) (q : ∀ p, H p = none → Q (.ref p) (upd H p (.tup ((ns.drop k).map V.int)))) : tNoPart σ H (fun u H3 => rSlA K (.ref t) (some i) u H3 Q) := e ▸ sl_drop h h0 hk q
end LC
-- K02_d2
namespace K02
open PySem PySem.Spec PyProof.Rows L2 LC
variable [Tbl]
variable {P : Program} {w : World} {K : PySem.W.Frag} {mg : Str → Option Value} {base : Heap} {f c : Addr} {fd : FuncData} {Ts : List Addr} {TP : Addr}

/-! the same promises where the answer is known -/
def sb_whole : Sp := fun vs H Q _ => ∃ i, vs = [.int i] ∧ Q (.bl true) H
def sb_between : Sp := fun vs H Q _ => ∃ i lo hi, vs = [.int i, .int lo, .int hi] ∧ lo ≤ i ∧ i ≤ hi ∧ Q (.bl true) H
theorem between1 (C : Callee P w K mg base "is_between" 2 ["value", "low", "high"] (sp_is_between K)) : Callee P w K mg base "is_between" 2 ["value", "low", "high"] sb_between := C.imp fun vs H Q E h => by
  obtain ⟨i, lo, hi, rfl, h1, h2, q⟩ := h
  refine ⟨_, _, _, rfl, kd_int, ?_⟩
  rw [btw_int h1 h2]
  exact q

def sb_tuple_of : Sp := fun vs H Q _ => ∃ a xs n, vs = [.ref a, .int n] ∧ H a = some (.tup xs) ∧ (xs.length : Int) = n ∧ Q (.bl true) H
theorem tuple_of1 (C : Callee P w K mg base "is_tuple_of" 1 ["value", "many"] (sp_is_tuple_of K)) : Callee P w K mg base "is_tuple_of" 1 ["value", "many"] sb_tuple_of := C.imp fun vs H Q E h => by
  obtain ⟨a, xs, n, rfl, h1, h2, q⟩ := h
  refine ⟨_, _, rfl, kt_tup h1, ?_⟩
  rw [tupOf_ref h1]
  show Q (.bl (decide ((xs.length : Int) = n))) H
  rw [decide_eq_true h2]
  exact q

def sp_check_tick : Sp := fun vs H Q _ => ∃ i lo, vs = [.int i, .int lo] ∧ lo ≤ i ∧ i ≤ 1000000000000000000000000000000 ∧ Q .non H
theorem ok_check_tick (T : Txt mg) (C_is_between : Callee P w K mg base "is_between" 2 ["value", "low", "high"] sb_between) (F : FunC K "check_tick" s_check_tick f fd c) : FnOk P w K mg base CX0 3 f fd ["tick", "least"] sp_check_tick := by
  refine F.ok sc_check_tick (fun vs H Q E h => ?_) (fun A outer s H vs Q E hr h => ⟨_, (pss_one (ps_if (pt_not (pt_val (pe_callC C_is_between hr (by rfl) (pa_cons (pv 0) (pa_cons (pv 1) (pa_cons (pe_gI rfl T.m_MOST) pa_nil)))))) (pss_one ps_never) pss_nil)), ?_⟩)
  · obtain ⟨i, lo, rfl, _⟩ := h; rfl
  · obtain ⟨i, lo, rfl, h1, h2, q⟩ := h
    refine ⟨_, rfl, _, rfl, i, lo, _, rfl, h1, h2, true, rfl, ?_⟩
    exact iteF q

def sp_is_touch : Sp := fun vs H Q _ => ∃ per e t eds ns, vs = [.int per, .ref e, .ref t] ∧ H e = some (.tup (eds.map V.int)) ∧ H t = some (.tup (ns.map V.int)) ∧ TchOk per eds ns ∧ Q (.bl true) H
theorem ok_is_touch (T : Txt mg) (C_is_between : Callee P w K mg base "is_between" 2 ["value", "low", "high"] sb_between) (C_is_tuple_of : Callee P w K mg base "is_tuple_of" 1 ["value", "many"] sb_tuple_of) (F : FunC K "is_touch" s_is_touch f fd c) : FnOk P w K mg base CX0 3 f fd ["period", "editions", "value"] sp_is_touch := by
  refine F.ok sc_is_touch (fun vs H Q E h => ?_) (fun A outer s H vs Q E hr h => ⟨_, (pss_cons (ps_if (pt_not (pt_val (pe_callC C_is_tuple_of hr (by rfl) (pa_cons (pv 2) (pa_cons pe_int pa_nil))))) (pss_one (ps_ret pe_bl)) pss_nil)
    (pss_cons (ps_asg (pv 2) (pg_tup rfl (pgs_cons (pg_name (i := 4) sc_is_touch.nd rfl (Or.inl rfl)) (pgs_cons (pg_name (i := 5) sc_is_touch.nd rfl (Or.inl rfl)) (pgs_cons (pg_name (i := 6) sc_is_touch.nd rfl (Or.inl rfl)) pgs_nil)))))
    (pss_cons (ps_set (i := 3) sc_is_touch.nd rfl (Or.inl rfl) (pe_op op_sub (pe_callB (crK (K := K) rLenQ cr_len rfl) (by rfl) T.g_len (by decide +kernel) (pa_cons (pv 1) pa_nil)) pe_int))
    (pss_one (ps_ret (pe_and (pe_callC C_is_between hr (by rfl) (pa_cons (pv 4) (pa_cons pe_int (pa_cons (pe_op op_sub (pv 0) pe_int) pa_nil)))) (pe_and (pe_callC C_is_between hr (by rfl) (pa_cons (pv 5) (pa_cons pe_int (pa_cons (pv 3) pa_nil)))) (pe_one (pe_callC C_is_between hr (by rfl) (pa_cons (pv 6) (pa_cons (pe_op op_add (pv 5) pe_int) (pa_cons (pv 3) pa_nil)))))))))))), ?_⟩)
  · obtain ⟨per, e, t, eds, ns, rfl, _⟩ := h; rfl
  · obtain ⟨per, e, t, eds, ns, rfl, he, ht, ⟨p, i, j, rfl, h1, h2, h3, h4, h5⟩, q⟩ := h
    refine ⟨_, rfl, t, _, 3, rfl, ht, rfl, true, rfl, ?_⟩
    refine iteF ?_
    refine ⟨_, rfl, t, _, rfl, SqT.of ht, rfl, _, _, rfl, _, _, rfl, _, _, rfl, rfl, ?_⟩
    refine ⟨_, rfl, e, _, rfl, .inr (SqT.of he), _, _, rfl, rfl, ?_⟩
    rw [List.length_map]
    refine ⟨_, rfl, _, rfl, _, _, rfl, rfl, p, 0, per - 1, rfl, h1, by omega, true, rfl, ?_⟩
    refine iteT ⟨_, rfl, _, rfl, i, 0, (eds.length : Int) - 1, rfl, h3, by omega, true, rfl, ?_⟩
    refine iteT ⟨_, rfl, _, rfl, _, _, rfl, rfl, _, rfl, j, i + 1, (eds.length : Int) - 1, rfl, by omega, by omega, ?_⟩
    exact q


theorem kys_rows {H : Hp} {rs : List V} {xss : List (List Int)} (h : Rows H rs xss) : Kys K H rs xss := ⟨h.1, .inr fun i x e => by
  obtain ⟨b, ns, e1, e2, e3⟩ := h.get e
  exact ⟨b, ns, e1, e3, e2⟩⟩
theorem kys_ints {H : Hp} {ns : List Int} : Kys K H (ns.map V.int) (ns.map fun n => [n]) := ⟨by rw [List.length_map, List.length_map], .inl fun i x e => by
  rw [List.getElem?_map] at e
  cases z : ns[i]? with
  | none => rw [z] at e; cases e
  | some n => rw [z] at e; cases e; exact ⟨n, rfl, by rw [List.getElem?_map, z]; rfl⟩⟩
def sb_rising (K : PySem.W.Frag) : Sp := fun vs H Q _ => ∃ (a : Addr) (xs : List V) (ks : List (List Int)), vs = [.ref a] ∧ (SqL K H a xs ∨ SqT K H a xs) ∧ Kys K H xs ks ∧ xs.length ≤ 1000 ∧ rising ks = true ∧ ∀ H', Xn H H' → Q (.bl true) H'
theorem rising1 (C : Callee P w K mg base "is_rising" 1 ["things"] (sp_is_rising K)) : Callee P w K mg base "is_rising" 1 ["things"] (sb_rising K) := C.imp fun vs H Q E h => by
  obtain ⟨a, xs, ks, rfl, h1, h2, h3, h4, q⟩ := h
  refine ⟨a, xs, ks, rfl, h1, h2, h3, fun H' x => ?_⟩
  rw [h4]
  exact q H' x

def sp_are_editions (Ts : List Addr) : Sp := fun vs H Q _ => ∃ (e : Addr) (eds : List Int), vs = [.ref e] ∧ H e = some (.tup (eds.map V.int)) ∧ 1 ≤ eds.length ∧ eds.length ≤ 12 ∧ (∀ e ∈ eds, 0 ≤ e ∧ e ≤ 4) ∧ eds.sum ≤ 24 ∧ Tabs Ts H ∧ ∀ H', Xn H H' → Q (.bl true) H'
theorem ok_are_editions (T : Txt mg) (TB : GxR.TabB base mg c TP) (hT : TP ∈ Ts) (C_is_between : Callee P w K mg base "is_between" 2 ["value", "low", "high"] sb_between) (F : FunC K "are_editions" s_are_editions f fd c) : FnOk P w K mg base CX0 5 f fd ["value"] (sp_are_editions Ts) := by
  refine F.ok sc_are_editions (fun vs H Q E h => ?_) (fun A outer s H vs Q E hr h => ⟨_, (pss_cons (ps_if (PW.pt (pw_or (pt_not (pt_val (pe_callB (crK (K := K) rIsi call_isi rfl) (by rfl) T.g_isinstance (by decide +kernel) (pa_cons (pv 0) (pa_cons (pe_bltn (v := .ty "tuple") (by rfl) T.g_tuple boot_tuple rfl) pa_nil))))) (pw_or1 (pt_not (pt_chain op_le op_le pe_int (pe_callB (crK (K := K) rLenQ cr_len rfl) (by rfl) T.g_len (by decide +kernel) (pa_cons (pv 0) pa_nil)) (pe_gI rfl T.m_MOST_WHEELS)))))) (pss_one (ps_ret pe_bl)) pss_nil)
    (pss_one (ps_ret (pe_and (pe_allG (own := [("last", 1)]) hr rfl sc_are_editions.nd (by rfl) T.g_all (by decide +kernel) TB rfl (piK (K := K) iTup (pi_tup (pv 0)) rfl) (gscp_by (N := N_are_editions) (sc := defScope s_are_editions) (own := [("last", 1)]) (by decide +kernel)) (fun _ _ _ _ _ _ => (pg_name (i := 1) sc_are_editions.nd rfl (Or.inl rfl))) (fun _ _ _ _ _ _ hr9 => pts_nil) (fun _ _ _ _ _ _ hr9 => (pe_callC C_is_between hr9 (by rfl) (pa_cons (pv 1) (pa_cons pe_int (pa_cons (pe_gI rfl T.m_MOST_EDITION) pa_nil)))))) (pe_one (pe_cmpR op_le (pe_callB (crK (K := K) rSumT (cr_sumT rfl) rfl) (by rfl) T.g_sum (by decide +kernel) (pa_cons (pv 0) pa_nil)) (pe_gI rfl T.m_MOST_EXCHANGES) (nomark _))))))), ?_⟩)
  · obtain ⟨e, eds, rfl, _⟩ := h; rfl
  · obtain ⟨e, eds, rfl, he, h1, h2, h3, h4, hTs, q⟩ := h
    refine ⟨_, rfl, .ref _, .ty "tuple", .type "tuple", .type "tuple", true, rfl, .ty _, .base (.tup he), kit_ty (by decide +kernel), true, rfl, ?_⟩
    refine iteF ⟨_, rfl, e, _, rfl, .inr (SqT.of he), _, _, rfl, rfl, _, rfl, ?_⟩
    rw [List.length_map, decide_eq_true (by omega : (1 : Int) ≤ (eds.length : Int))]
    refine iteT ⟨_, _, rfl, rfl, _, rfl, ?_⟩
    rw [decide_eq_true (by omega : (eds.length : Int) ≤ 12)]
    refine iteF ?_
    refine ⟨_, rfl, e, rfl, ⟨_, SqT.of he⟩, hTs _ hT, fun H4 ht => ?_⟩
    have x4 := Xt.tabbed (S := No) (hTs _ hT) ht
    refine allG_tup (fun _ H' => Xn H H') x4 (fun i H' _ x => SqT.of (x.tups _ _ he)) (fun i v H' ev x => ?_) (fun H' x => ?_)
    · obtain ⟨n, hn, rfl⟩ : ∃ n, n ∈ eds ∧ V.int n = v := by
        have := List.mem_of_getElem? ev
        rw [List.mem_map] at this
        exact this
      obtain ⟨n1, n2⟩ := h3 n hn
      exact ⟨rfl, yes_of ⟨_, rfl, n, 0, 4, rfl, n1, n2, true, rfl, iteT x⟩⟩
    · refine ⟨true, rfl, iteT ⟨_, rfl, e, eds, rfl, .inl (SqT.of (x.tups _ _ he)), _, _, rfl, rfl, ?_⟩⟩
      exact bl_of (Q := Q) (decide_eq_true h4) (q H' x)

end K02
-- K02_d3
namespace K02
open PySem PySem.Spec PyProof.Rows L2 LC
variable [Tbl]
variable {P : Program} {w : World} {K : PySem.W.Frag} {mg : Str → Option Value} {base : Heap} {f c : Addr} {fd : FuncData} {Ts : List Addr} {TP : Addr}

def sp_are_touches (Ts : List Addr) : Sp := fun vs H Q _ => ∃ (per : Int) (e t : Addr) (eds : List Int) (rt : List V) (tch : List (List Int)), vs = [.int per, .ref e, .ref t] ∧ H e = some (.tup (eds.map V.int)) ∧ H t = some (.tup rt) ∧ Rows H rt tch ∧ (∀ t ∈ tch, TchOk per eds t) ∧ rising tch = true ∧ tch.length ≤ 1000 ∧ Tabs Ts H ∧ ∀ H', Xn H H' → Q (.bl true) H'
theorem ok_are_touches (T : Txt mg) (TB : GxR.TabB base mg c TP) (hT : TP ∈ Ts) (C_is_touch : Callee P w K mg base "is_touch" 3 ["period", "editions", "value"] sp_is_touch) (C_is_rising : Callee P w K mg base "is_rising" 1 ["things"] (sb_rising K)) (F : FunC K "are_touches" s_are_touches f fd c) : FnOk P w K mg base CX0 6 f fd ["period", "editions", "value"] (sp_are_touches Ts) := by
  refine F.ok sc_are_touches (fun vs H Q E h => ?_) (fun A outer s H vs Q E hr h => ⟨_, (pss_cons (ps_if (pt_not (pt_val (pe_callB (crK (K := K) rIsi call_isi rfl) (by rfl) T.g_isinstance (by decide +kernel) (pa_cons (pv 2) (pa_cons (pe_bltn (v := .ty "tuple") (by rfl) T.g_tuple boot_tuple rfl) pa_nil))))) (pss_one (ps_ret pe_bl)) pss_nil)
    (pss_one (ps_ret (pe_and (pe_allG (own := [("touch", 3)]) hr rfl sc_are_touches.nd (by rfl) T.g_all (by decide +kernel) TB rfl (piK (K := K) iTup (pi_tup (pv 2)) rfl) (gscp_by (N := N_are_touches) (sc := defScope s_are_touches) (own := [("touch", 3)]) (by decide +kernel)) (fun _ _ _ _ _ _ => (pg_name (i := 3) sc_are_touches.nd rfl (Or.inl rfl))) (fun _ _ _ _ _ _ hr9 => pts_nil) (fun _ _ _ _ _ _ hr9 => (pe_callC C_is_touch hr9 (by rfl) (pa_cons (pv 0) (pa_cons (pv 1) (pa_cons (pv 3) pa_nil)))))) (pe_one (pe_callC C_is_rising hr (by rfl) (pa_cons (pv 2) pa_nil))))))), ?_⟩)
  · obtain ⟨per, e, t, eds, rt, tch, rfl, _⟩ := h; rfl
  · obtain ⟨per, e, t, eds, rt, tch, rfl, he, ht, hrt, hok, hri, hlen, hTs, q⟩ := h
    refine ⟨_, rfl, .ref _, .ty "tuple", .type "tuple", .type "tuple", true, rfl, .ty _, .base (.tup ht), kit_ty (by decide +kernel), true, rfl, ?_⟩
    refine iteF ?_
    refine ⟨_, rfl, t, rfl, ⟨_, SqT.of ht⟩, hTs _ hT, fun H4 htb => ?_⟩
    have x4 := Xt.tabbed (S := No) (hTs _ hT) htb
    refine allG_tup (fun _ H' => Xn H H') x4 (fun i H' _ x => SqT.of (x.tups _ _ ht)) (fun i v H' ev x => ?_) (fun H' x => ?_)
    · obtain ⟨b, ns, rfl, e1, e2⟩ := hrt.get ev
      exact ⟨rfl, yes_of ⟨_, rfl, _, rfl, _, rfl, per, e, b, eds, ns, rfl, x.tups _ _ he, x.tups _ _ e2, hok ns (List.mem_of_getElem? e1), true, rfl, iteT x⟩⟩
    · exact ⟨true, rfl, iteT ⟨_, rfl, t, rt, tch, rfl, .inr (SqT.of (x.tups _ _ ht)), kys_rows (hrt.x x), by rw [hrt.1]; exact hlen, hri, fun H'' x2 => q H'' (x.trans x2)⟩⟩

def sp_are_wheel_gaps (Ts : List Addr) : Sp := fun vs H Q _ => ∃ (per last : Int) (g : Addr) (ns : List Int), vs = [.int per, .int last, .ref g] ∧ H g = some (.tup (ns.map V.int)) ∧ GpsOk per last ns ∧ Tabs Ts H ∧ ∀ H', Xn H H' → Q (.bl true) H'
theorem ok_are_wheel_gaps (T : Txt mg) (TB : GxR.TabB base mg c TP) (hT : TP ∈ Ts) (C_is_between : Callee P w K mg base "is_between" 2 ["value", "low", "high"] sb_between) (C_is_rising : Callee P w K mg base "is_rising" 1 ["things"] (sb_rising K)) (F : FunC K "are_wheel_gaps" s_are_wheel_gaps f fd c) : FnOk P w K mg base CX0 5 f fd ["period", "last", "value"] (sp_are_wheel_gaps Ts) := by
  refine F.ok sc_are_wheel_gaps (fun vs H Q E h => ?_) (fun A outer s H vs Q E hr h => ⟨_, (pss_cons (ps_if (PW.pt (pw_or (pt_not (pt_val (pe_callB (crK (K := K) rIsi call_isi rfl) (by rfl) T.g_isinstance (by decide +kernel) (pa_cons (pv 2) (pa_cons (pe_bltn (v := .ty "tuple") (by rfl) T.g_tuple boot_tuple rfl) pa_nil))))) (pw_or1 (PW.pt (pw_and (pt_cmpR op_gt (pv 1) pe_int (nomark _)) (pw_and1 (pt_not (pt_truth (pv 2) (by intro _; rfl))))))))) (pss_one (ps_ret pe_bl)) pss_nil)
    (pss_one (ps_ret (pe_and (pe_allG (own := [("phase", 3)]) hr rfl sc_are_wheel_gaps.nd (by rfl) T.g_all (by decide +kernel) TB rfl (piK (K := K) iTup (pi_tup (pv 2)) rfl) (gscp_by (N := N_are_wheel_gaps) (sc := defScope s_are_wheel_gaps) (own := [("phase", 3)]) (by decide +kernel)) (fun _ _ _ _ _ _ => (pg_name (i := 3) sc_are_wheel_gaps.nd rfl (Or.inl rfl))) (fun _ _ _ _ _ _ hr9 => pts_nil) (fun _ _ _ _ _ _ hr9 => (pe_callC C_is_between hr9 (by rfl) (pa_cons (pv 3) (pa_cons pe_int (pa_cons (pe_op op_sub (pv 0) pe_int) pa_nil)))))) (pe_one (pe_callC C_is_rising hr (by rfl) (pa_cons (pv 2) pa_nil))))))), ?_⟩)
  · obtain ⟨per, last, g, ns, rfl, _⟩ := h; rfl
  · obtain ⟨per, last, g, ns, rfl, hg, ⟨g1, g2, g3, g4⟩, hTs, q⟩ := h
    refine ⟨_, rfl, .ref _, .ty "tuple", .type "tuple", .type "tuple", true, rfl, .ty _, .base (.tup hg), kit_ty (by decide +kernel), true, rfl, ?_⟩
    refine iteF ⟨_, rfl, _, _, rfl, rfl, _, rfl, ?_⟩
    by_cases h0 : last > 0
    rw [decide_eq_true h0]
    refine iteT ⟨_, rfl, true, .inr (.inl ⟨_, SqT.of hg, ?_⟩), iteF ?_⟩
    · cases ns with
      | nil => exact absurd rfl (g1 h0)
      | cons x xs => rfl
    rotate_left
    rw [decide_eq_false h0]
    refine iteF (iteF ?_)
    all_goals
      refine ⟨_, rfl, g, rfl, ⟨_, SqT.of hg⟩, hTs _ hT, fun H4 htb => ?_⟩
      have x4 := Xt.tabbed (S := No) (hTs _ hT) htb
      refine allG_tup (fun _ H' => Xn H H') x4 (fun i H' _ x => SqT.of (x.tups _ _ hg)) (fun i v H' ev x => ?_) (fun H' x => ?_)
      · obtain ⟨n, hn, rfl⟩ : ∃ n, n ∈ ns ∧ V.int n = v := by
          have := List.mem_of_getElem? ev
          rw [List.mem_map] at this
          exact this
        obtain ⟨n1, n2⟩ := g2 n hn
        exact ⟨rfl, yes_of ⟨_, rfl, _, rfl, _, _, rfl, rfl, n, 0, per - 1, rfl, n1, by omega, true, rfl, iteT x⟩⟩
      · exact ⟨true, rfl, iteT ⟨_, rfl, g, _, _, rfl, .inr (SqT.of (x.tups _ _ hg)), kys_ints, by rw [List.length_map]; exact g4, g3, fun H'' x2 => q H'' (x.trans x2)⟩⟩

def sp_are_gaps (Ts : List Addr) : Sp := fun vs H Q _ => ∃ (per : Int) (e g : Addr) (eds : List Int) (rg : List V) (gps : List (List Int)), vs = [.int per, .ref e, .ref g] ∧ H e = some (.tup (eds.map V.int)) ∧ H g = some (.tup rg) ∧ Rows H rg gps ∧ gps.length = eds.length ∧ eds.length ≤ 12 ∧ (∀ (i : Nat) (e : Int) (g : List Int), eds[i]? = some e → gps[i]? = some g → GpsOk per e g) ∧ Tabs Ts H ∧ ∀ H', Xn H H' → Q (.bl true) H'
theorem ok_are_gaps (T : Txt mg) (C_are_wheel_gaps : Callee P w K mg base "are_wheel_gaps" 5 ["period", "last", "value"] (sp_are_wheel_gaps Ts)) (C_is_tuple_of : Callee P w K mg base "is_tuple_of" 1 ["value", "many"] sb_tuple_of) (F : FunC K "are_gaps" s_are_gaps f fd c) : FnOk P w K mg base CX0 6 f fd ["period", "editions", "value"] (sp_are_gaps Ts) := by
  refine F.ok sc_are_gaps (fun vs H Q E h => ?_) (fun A outer s H vs Q E hr h => ⟨_, (pss_cons (ps_if (pt_not (pt_val (pe_callC C_is_tuple_of hr (by rfl) (pa_cons (pv 2) (pa_cons (pe_callB (crK (K := K) rLenQ cr_len rfl) (by rfl) T.g_len (by decide +kernel) (pa_cons (pv 1) pa_nil)) pa_nil))))) (pss_one (ps_ret pe_bl)) pss_nil)
    (pss_one (ps_ret (pe_callB (crK (K := K) rAll (cr_all rfl) rfl) (by rfl) T.g_all (by decide +kernel) (pa_cons (pe_lc (own := [("last", 3), ("phases", 4)]) rfl sc_are_gaps.nd (piA (K := K) RZ.iZipA (RZ.pi_zipA (by rfl) T.g_zip (pa_cons (pv 1) (pa_cons (pv 2) pa_nil))) rfl) (blkOk_by (N := N_are_gaps) (sc := defScope s_are_gaps) (own := [("last", 3), ("phases", 4)]) (by decide +kernel)) (fun _ _ _ _ _ => (pg_tupK (K := K) (n := 2) rfl rfl (pgs_cons (pg_name (i := 3) sc_are_gaps.nd rfl (Or.inl rfl) (hf := Or.inr rfl)) (pgs_cons (pg_name (i := 4) sc_are_gaps.nd rfl (Or.inl rfl) (hf := Or.inr rfl)) pgs_nil)) rfl rfl)) (fun _ _ _ _ _ => pts_nil) (fun _ _ _ _ _ => (pe_callC C_are_wheel_gaps hr (by rfl) (pa_cons (pv 0) (pa_cons (pv 3) (pa_cons (pv 4) pa_nil)))))) pa_nil))))), ?_⟩)
  · obtain ⟨per, e, g, eds, rg, gps, rfl, _⟩ := h; rfl
  · obtain ⟨per, e, g, eds, rg, gps, rfl, he, hg, hrg, hn, h12, hok, hTs, q⟩ := h
    refine ⟨_, rfl, _, rfl, e, _, rfl, .inr (SqT.of he), g, rg, _, rfl, hg, by rw [List.length_map, hrg.1, hn], true, rfl, ?_⟩
    refine iteF ?_
    refine ⟨_, rfl, _, rfl, e, g, _, _, rfl, .inr ⟨SqT.of he, SqT.of hg, fun D hD => ?_⟩⟩
    refine lc_zipT (xs := eds.map V.int) (ys := rg) (by rw [List.length_map, hrg.1, hn]) (fun i H' => Xn H H' ∧ H' D = some (.lst ((List.replicate i true).map V.bl))) ⟨Xt.new hD, upd_same⟩ (fun i H' _ hp => ⟨SqT.of (hp.1.tups _ _ he), SqT.of (hp.1.tups _ _ hg)⟩) (fun i x y TT H' ex ey hp hTT => ?_) (fun H' hp => ?_)
    · obtain ⟨hx, hD'⟩ := hp
      obtain ⟨b, ns, rfl, e1, e2⟩ := hrg.get ey
      obtain ⟨last, el, rfl⟩ : ∃ n, eds[i]? = some n ∧ V.int n = x := by
        rw [List.getElem?_map] at ex
        cases z : eds[i]? with
        | none => rw [z] at ex; cases ex
        | some n => rw [z] at ex; cases ex; exact ⟨n, rfl, rfl⟩
      have hi : i < eds.length := (List.getElem?_eq_some_iff.mp el).1
      have x1 : Xn H (upd H' TT (.tup [V.int last, V.ref b])) := hx.trans (Xt.new hTT)
      have hDT : D ≠ TT := fun z => by rw [z, hTT] at hD'; cases hD'
      refine ⟨TT, _, rfl, SqT.of upd_same, rfl, _, _, rfl, _, _, rfl, rfl, rfl, yes_of ⟨_, rfl, _, rfl, _, rfl, per, last, b, ns, rfl, x1.tups _ _ e2, hok i last ns el e1, hTs.x x1, fun H2 x2 => ?_⟩⟩
      have hD2 : H2 D = some (.lst ((List.replicate i true).map V.bl)) := x2.keep D _ (fun z => z) (fun _ z => by cases z) (by rw [upd_ne hDT]; exact hD')
      refine ⟨_, hD2, sz_lt (by rw [List.length_map, List.length_replicate]; omega), (x1.trans x2).young hD, ?_⟩
      rw [upd_same, List.replicate_succ', List.map_append]; rfl
    · obtain ⟨hx, hD'⟩ := hp
      refine ⟨D, _, rfl, SqL.of hD', ?_⟩
      exact bl_of (Q := Q) (by rw [List.all_eq_true]; intro b hb; rw [List.eq_of_mem_replicate hb]; rfl) (q H' hx)

def sp_is_entry : Sp := fun vs H Q _ => ∃ (e t : Addr) (eds ns : List Int), vs = [.ref e, .ref t] ∧ H e = some (.tup (eds.map V.int)) ∧ H t = some (.tup (ns.map V.int)) ∧ BokOk eds ns ∧ Q (.bl true) H
theorem ok_is_entry (T : Txt mg) (C_is_between : Callee P w K mg base "is_between" 2 ["value", "low", "high"] sb_between) (C_is_tuple_of : Callee P w K mg base "is_tuple_of" 1 ["value", "many"] sb_tuple_of) (F : FunC K "is_entry" s_is_entry f fd c) : FnOk P w K mg base CX0 3 f fd ["editions", "value"] sp_is_entry := by
  refine F.ok sc_is_entry (fun vs H Q E h => ?_) (fun A outer s H vs Q E hr h => ⟨_, (pss_cons (ps_if (pt_not (pt_val (pe_callC C_is_tuple_of hr (by rfl) (pa_cons (pv 1) (pa_cons pe_int pa_nil))))) (pss_one (ps_ret pe_bl)) pss_nil)
    (pss_cons (ps_asg (pv 1) (pg_tup rfl (pgs_cons (pg_name (i := 3) sc_is_entry.nd rfl (Or.inl rfl)) (pgs_cons (pg_name (i := 4) sc_is_entry.nd rfl (Or.inl rfl)) (pgs_cons (pg_name (i := 5) sc_is_entry.nd rfl (Or.inl rfl)) (pgs_cons (pg_name (i := 6) sc_is_entry.nd rfl (Or.inl rfl)) pgs_nil))))))
    (pss_cons (ps_set (i := 2) sc_is_entry.nd rfl (Or.inl rfl) (pe_op op_sub (pe_callB (crK (K := K) rLenQ cr_len rfl) (by rfl) T.g_len (by decide +kernel) (pa_cons (pv 0) pa_nil)) pe_int))
    (pss_cons (ps_if (PW.pt (pw_or (pt_not (pt_val (pe_callC C_is_between hr (by rfl) (pa_cons (pv 3) (pa_cons pe_int (pa_cons (pv 2) pa_nil)))))) (pw_or (pt_not (pt_val (pe_callC C_is_between hr (by rfl) (pa_cons (pv 5) (pa_cons pe_int (pa_cons (pv 2) pa_nil)))))) (pw_or1 (pt_cmpR op_eq (pv 3) (pv 5) (nomark _)))))) (pss_one (ps_ret pe_bl)) pss_nil)
    (pss_one (ps_ret (pe_and (pe_callC C_is_between hr (by rfl) (pa_cons (pv 4) (pa_cons pe_int (pa_cons (pe_ix (ixK (K := K) rIxT ix_tup rfl) (pv 0) (pv 3) (fun _ _ => rfl)) pa_nil)))) (pe_one (pe_callC C_is_between hr (by rfl) (pa_cons (pv 6) (pa_cons pe_int (pa_cons (pe_ix (ixK (K := K) rIxT ix_tup rfl) (pv 0) (pv 5) (fun _ _ => rfl)) pa_nil)))))))))))), ?_⟩)
  · obtain ⟨e, t, eds, ns, rfl, _⟩ := h; rfl
  · obtain ⟨e, t, eds, ns, rfl, he, ht, ⟨i, a, j, b, rfl, h1, h2, h3, h4, h5, h6, h7, h8, h9⟩, q⟩ := h
    refine ⟨_, rfl, t, _, 4, rfl, ht, rfl, true, rfl, ?_⟩
    refine iteF ?_
    refine ⟨_, rfl, t, _, rfl, SqT.of ht, rfl, _, _, rfl, _, _, rfl, _, _, rfl, _, _, rfl, rfl, ?_⟩
    refine ⟨_, rfl, e, _, rfl, .inr (SqT.of he), _, _, rfl, rfl, ?_⟩
    rw [List.length_map]
    refine ⟨_, rfl, _, rfl, i, 0, (eds.length : Int) - 1, rfl, h1, by omega, true, rfl, ?_⟩
    refine iteF ⟨_, rfl, _, rfl, j, 0, (eds.length : Int) - 1, rfl, h3, by omega, true, rfl, ?_⟩
    refine iteF ⟨_, rfl, _, rfl, rfl, ?_⟩
    rw [show decide (V.int i = V.int j) = false by rw [dec_int]; exact (beq_eq_false_iff_ne.mpr h5)]
    refine ⟨_, rfl, ?_⟩
    have ei : (eds.map V.int)[i.toNat]? = some (.int (eds[i.toNat]?.getD 0)) := by
      rw [List.getElem?_map, List.getElem?_eq_getElem (by omega : i.toNat < eds.length)]; rfl
    have ej : (eds.map V.int)[j.toNat]? = some (.int (eds[j.toNat]?.getD 0)) := by
      rw [List.getElem?_map, List.getElem?_eq_getElem (by omega : j.toNat < eds.length)]; rfl
    refine iteF ⟨_, rfl, _, rfl, _, rfl, rixT_of he (by omega : i = ((i.toNat : Nat) : Int)) ei ⟨a, 1, _, rfl, h6, h7, true, rfl, ?_⟩⟩
    exact iteT ⟨_, rfl, _, rfl, _, rfl, rixT_of he (by omega : j = ((j.toNat : Nat) : Int)) ej ⟨b, 1, _, rfl, h8, h9, q⟩⟩

def sp_is_book (Ts : List Addr) : Sp := fun vs H Q _ => ∃ (e b : Addr) (eds : List Int) (rb : List V) (bok : List (List Int)), vs = [.ref e, .ref b] ∧ H e = some (.tup (eds.map V.int)) ∧ H b = some (.tup rb) ∧ Rows H rb bok ∧ (∀ t ∈ bok, BokOk eds t) ∧ rising (bok.map (·.take 3)) = true ∧ bok.length ≤ 1000 ∧ Tabs Ts H ∧ ∀ H', Xn H H' → Q (.bl true) H'
theorem ok_is_book (T : Txt mg) (TB : GxR.TabB base mg c TP) (hT : TP ∈ Ts) (C_is_entry : Callee P w K mg base "is_entry" 3 ["editions", "value"] sp_is_entry) (C_is_rising : Callee P w K mg base "is_rising" 1 ["things"] (sb_rising K)) (F : FunC K "is_book" s_is_book f fd c) : FnOk P w K mg base CX0 6 f fd ["editions", "value"] (sp_is_book Ts) := by
  refine F.ok sc_is_book (fun vs H Q E h => ?_) (fun A outer s H vs Q E hr h => ⟨_, (pss_cons (ps_if (PW.pt (pw_or (pt_not (pt_val (pe_callB (crK (K := K) rIsi call_isi rfl) (by rfl) T.g_isinstance (by decide +kernel) (pa_cons (pv 1) (pa_cons (pe_bltn (v := .ty "tuple") (by rfl) T.g_tuple boot_tuple rfl) pa_nil))))) (pw_or1 (pt_not (pt_val (pe_allG (own := [("entry", 2)]) hr rfl sc_is_book.nd (by rfl) T.g_all (by decide +kernel) TB rfl (piK (K := K) iTup (pi_tup (pv 1)) rfl) (gscp_by (N := N_is_book) (sc := defScope s_is_book) (own := [("entry", 2)]) (by decide +kernel)) (fun _ _ _ _ _ _ => (pg_name (i := 2) sc_is_book.nd rfl (Or.inl rfl))) (fun _ _ _ _ _ _ hr9 => pts_nil) (fun _ _ _ _ _ _ hr9 => (pe_callC C_is_entry hr9 (by rfl) (pa_cons (pv 0) (pa_cons (pv 2) pa_nil)))))))))) (pss_one (ps_ret pe_bl)) pss_nil)
    (pss_one (ps_ret (pe_callC C_is_rising hr (by rfl) (pa_cons (pe_lc (own := [("entry", 2)]) rfl sc_is_book.nd (piK (K := K) iTup (pi_tup (pv 1)) rfl) (blkOk_by (N := N_is_book) (sc := defScope s_is_book) (own := [("entry", 2)]) (by decide +kernel)) (fun _ _ _ _ _ => (pg_name (i := 2) sc_is_book.nd rfl (Or.inl rfl))) (fun _ _ _ _ _ => pts_nil) (fun _ _ _ _ _ => (pe_slice (slK (K := K) rSlA sl_tupA rfl) (pv 2) po_none (po_some pe_int)))) pa_nil))))), ?_⟩)
  · obtain ⟨e, b, eds, rb, bok, rfl, _⟩ := h; rfl
  · obtain ⟨e, b, eds, rb, bok, rfl, he, hb, hrb, hok, hri, hlen, hTs, q⟩ := h
    refine ⟨_, rfl, .ref _, .ty "tuple", .type "tuple", .type "tuple", true, rfl, .ty _, .base (.tup hb), kit_ty (by decide +kernel), true, rfl, ?_⟩
    refine iteF ⟨_, rfl, b, rfl, ⟨_, SqT.of hb⟩, hTs _ hT, fun H4 htb => ?_⟩
    have x4 := Xt.tabbed (S := No) (hTs _ hT) htb
    refine allG_tup (fun _ H' => Xn H H') x4 (fun i H' _ x => SqT.of (x.tups _ _ hb)) (fun i v H' ev x => ?_) (fun H' x => ?_)
    · obtain ⟨r, ns, rfl, e1, e2⟩ := hrb.get ev
      exact ⟨rfl, yes_of ⟨_, rfl, _, rfl, e, r, eds, ns, rfl, x.tups _ _ he, x.tups _ _ e2, hok ns (List.mem_of_getElem? e1), true, rfl, iteT x⟩⟩
    · refine ⟨true, rfl, iteF ?_⟩
      refine ⟨_, rfl, b, rfl, ⟨_, SqT.of (x.tups _ _ hb)⟩, fun D hD => ?_⟩
      refine lc_tup (xs := rb) (fun i H2 => Xn H' H2 ∧ ∃ acc, H2 D = some (.lst acc) ∧ Rows H2 acc ((bok.take i).map (·.take 3))) ⟨Xt.new hD, [], upd_same, ?_⟩ (fun i H2 _ hp => SqT.of ((x.trans hp.1).tups _ _ hb)) (fun i v H2 ev hp => ?_) (fun H2 hp => ?_)
      · exact Rows.nil
      · obtain ⟨hx, acc, hD', hr2⟩ := hp
        obtain ⟨r, ns, rfl, e1, e2⟩ := hrb.get ev
        have hi : i < bok.length := (List.getElem?_eq_some_iff.mp e1).1
        have hl4 : ns.length = 4 := by
          obtain ⟨i1, a, j, b, rfl, _⟩ := hok ns (List.mem_of_getElem? e1)
          rfl
        refine ⟨rfl, yes_of ⟨_, rfl, 3, rfl, sl_take (k := 3) ((x.trans hx).tups _ _ e2) (by omega) fun p hp => ?_⟩⟩
        have hDp : D ≠ p := fun z => by rw [z, hp] at hD'; cases hD'
        have hD2 : upd H2 p (.tup ((ns.take 3).map V.int)) D = some (.lst acc) := by rw [upd_ne hDp]; exact hD'
        refine ⟨acc, hD2, sz_lt (by rw [hr2.1, List.length_map, List.length_take]; omega), (hx.trans (Xt.new hp)).young hD, _, upd_same, ?_⟩
        rw [take_snocE e1, List.map_append]
        exact (hr2.mono ((Tk.refl.new hp).lst hD2)).snoc (by rw [upd_ne (Ne.symm hDp), upd_same])
      · obtain ⟨hx, acc, hD', hr2⟩ := hp
        have el : rb.length = bok.length := hrb.1
        rw [el, List.take_length] at hr2
        exact ⟨D, acc, _, rfl, .inl (SqL.of hD'), kys_rows hr2, by rw [hr2.1, List.length_map]; exact hlen, hri, fun H3 x3 => q H3 (x.trans (hx.trans x3))⟩

/-! a clock that is one -/
def sp_wrong_part (Ts : List Addr) : Sp := fun vs H Q _ => ∃ (v : V) (k : Clk), vs = [v] ∧ ClkAt H v k ∧ k.Ok ∧ Tabs Ts H ∧ ∀ H', Xn H H' → Q .non H'
theorem ok_wrong_part (T : Txt mg) (C_is_tuple_of : Callee P w K mg base "is_tuple_of" 1 ["value", "many"] sb_tuple_of) (C_is_between : Callee P w K mg base "is_between" 2 ["value", "low", "high"] sb_between) (C_are_editions : Callee P w K mg base "are_editions" 5 ["value"] (sp_are_editions Ts)) (C_are_touches : Callee P w K mg base "are_touches" 6 ["period", "editions", "value"] (sp_are_touches Ts)) (C_are_gaps : Callee P w K mg base "are_gaps" 6 ["period", "editions", "value"] (sp_are_gaps Ts)) (C_is_book : Callee P w K mg base "is_book" 6 ["editions", "value"] (sp_is_book Ts)) (F : FunC K "wrong_part" s_wrong_part f fd c) : FnOk P w K mg base CX0 7 f fd ["clock"] (sp_wrong_part Ts) := by
  refine F.ok sc_wrong_part (fun vs H Q E h => ?_) (fun A outer s H vs Q E hr h => ⟨_, (pss_cons (ps_if (pt_not (pt_val (pe_callC C_is_tuple_of hr (by rfl) (pa_cons (pv 0) (pa_cons pe_int pa_nil))))) (pss_one (ps_ret pe_str)) pss_nil)
    (pss_cons (ps_asg (pv 0) (pg_tup rfl (pgs_cons (pg_name (i := 1) sc_wrong_part.nd rfl (Or.inl rfl)) (pgs_cons (pg_name (i := 2) sc_wrong_part.nd rfl (Or.inl rfl)) (pgs_cons (pg_name (i := 3) sc_wrong_part.nd rfl (Or.inl rfl)) (pgs_cons (pg_name (i := 4) sc_wrong_part.nd rfl (Or.inl rfl)) (pgs_cons (pg_name (i := 5) sc_wrong_part.nd rfl (Or.inl rfl)) pgs_nil)))))))
    (pss_cons (ps_if (pt_not (pt_val (pe_callC C_is_between hr (by rfl) (pa_cons (pv 1) (pa_cons pe_int (pa_cons (pe_gI rfl T.m_MOST_PERIOD) pa_nil)))))) (pss_one (ps_ret pe_str)) pss_nil)
    (pss_cons (ps_if (pt_not (pt_val (pe_callC C_are_editions hr (by rfl) (pa_cons (pv 2) pa_nil)))) (pss_one (ps_ret pe_str)) pss_nil)
    (pss_cons (ps_if (pt_not (pt_val (pe_callC C_are_touches hr (by rfl) (pa_cons (pv 1) (pa_cons (pv 2) (pa_cons (pv 3) pa_nil)))))) (pss_one (ps_ret pe_str)) pss_nil)
    (pss_cons (ps_if (pt_not (pt_val (pe_callC C_are_gaps hr (by rfl) (pa_cons (pv 1) (pa_cons (pv 2) (pa_cons (pv 4) pa_nil)))))) (pss_one (ps_ret pe_str)) pss_nil)
    (pss_cons (ps_if (pt_not (pt_val (pe_callC C_is_book hr (by rfl) (pa_cons (pv 2) (pa_cons (pv 5) pa_nil))))) (pss_one (ps_ret pe_str)) pss_nil)
    (pss_one (ps_ret pe_non))))))))), ?_⟩)
  · obtain ⟨v, k, rfl, _⟩ := h; rfl
  · obtain ⟨v, k, rfl, ⟨⟨a, e, t, g, b, rt, rg, rb, rfl, h1, h2, h3, h4, h5, h6, h7, h8⟩⟩, ok, hTs, q⟩ := h
    refine ⟨_, rfl, a, _, 5, rfl, h1, rfl, true, rfl, ?_⟩
    refine iteF ?_
    refine ⟨_, rfl, a, _, rfl, SqT.of h1, rfl, _, _, rfl, _, _, rfl, _, _, rfl, _, _, rfl, _, _, rfl, rfl, ?_⟩
    refine ⟨_, rfl, k.per, 1, 12, rfl, ok.per.1, ok.per.2, true, rfl, ?_⟩
    refine iteF ⟨_, rfl, e, k.eds, rfl, h2, ok.len.1, ok.len.2, ok.eds, ok.sum, hTs, fun H1 x1 => ⟨true, rfl, iteF ?_⟩⟩
    refine ⟨_, rfl, _, rfl, _, rfl, k.per, e, t, k.eds, rt, k.tch, rfl, x1.tups _ _ h2, x1.tups _ _ h3, h4.x x1, ok.tch, ok.tchR, ok.tchL, hTs.x x1, fun H2 x2 => ⟨true, rfl, iteF ?_⟩⟩
    have x2 := x1.trans x2
    refine ⟨_, rfl, _, rfl, _, rfl, k.per, e, g, k.eds, rg, k.gps, rfl, x2.tups _ _ h2, x2.tups _ _ h5, h6.x x2, ok.gpsN, ok.len.2, ok.gps, hTs.x x2, fun H3 x3 => ⟨true, rfl, iteF ?_⟩⟩
    have x3 := x2.trans x3
    refine ⟨_, rfl, _, rfl, e, b, k.eds, rb, k.bok, rfl, x3.tups _ _ h2, x3.tups _ _ h7, h8.x x3, ok.bok, ok.bokR, ok.bokL, hTs.x x3, fun H4 x4 => ⟨true, rfl, iteF ?_⟩⟩
    exact q H4 (x3.trans x4)

def sp_check_clock (Ts : List Addr) : Sp := fun vs H Q _ => ∃ (v : V) (k : Clk), vs = [v] ∧ ClkAt H v k ∧ k.Ok ∧ Tabs Ts H ∧ ∀ H', Xn H H' → Q .non H'
theorem ok_check_clock (T : Txt mg) (C_wrong_part : Callee P w K mg base "wrong_part" 7 ["clock"] (sp_wrong_part Ts)) (F : FunC K "check_clock" s_check_clock f fd c) : FnOk P w K mg base CX0 8 f fd ["clock"] (sp_check_clock Ts) := by
  refine F.ok sc_check_clock (fun vs H Q E h => ?_) (fun A outer s H vs Q E hr h => ⟨_, (pss_cons (ps_set (i := 1) sc_check_clock.nd rfl (Or.inl rfl) (pe_callC C_wrong_part hr (by rfl) (pa_cons (pv 0) pa_nil)))
    (pss_one (ps_if (pt_cmpR op_notN (pv 1) pe_non (nomark _)) (pss_one ps_never) pss_nil))), ?_⟩)
  · obtain ⟨v, k, rfl, _⟩ := h; rfl
  · obtain ⟨v, k, rfl, h1, ok, hTs, q⟩ := h
    refine ⟨_, rfl, v, k, rfl, h1, ok, hTs, fun H' x => ?_⟩
    exact ⟨_, rfl, rfl, false, rfl, iteF (q H' x)⟩

end K02
-- X1
/-! functions without parameters that outlive their maker: what they captured stands in the heap -/
namespace LX
open PySem PySem.Spec PyProof.Rows L2 LamX NdefX

/-- at f: a function without parameters whose body is e -/
def LamO (f : Addr) (F : NF) (e : Expr) : HO := .ext fun hp => ∃ pm ctv : Value, hp.get? f = some (PySem.W.kla_obj "<lambda>" F.qual F.params e F.scope F.cl pm F.c ctv)
/-- at c: a cell that holds v -/
def CelO (c : Addr) (v : V) : HO := .ext fun hp => ∃ z, RelV v z ∧ hp.IsCell c (some z)
theorem lamO_ok {P : Program} {w : World} {H : Hp} {hp : Heap} {f : Addr} {F : NF} {e : Expr} {pm ctv : Value} (g : hp.get? f = some (PySem.W.kla_obj "<lambda>" F.qual F.params e F.scope F.cl pm F.c ctv)) : ObjOk P w H hp f (LamO f F e) :=
  ⟨⟨pm, ctv, g⟩, ⟨_, g⟩, fun _ _ ⟨p1, c1, g1⟩ kk => ⟨p1, c1, kk _ g1⟩⟩
theorem lamO_at {P : Program} {w : World} {H : Hp} {hp : Heap} {f : Addr} {F : NF} {e : Expr} (ok : HOk P w H hp) (g : H f = some (LamO f F e)) : ∃ pm ctv : Value, hp.get? f = some (PySem.W.kla_obj "<lambda>" F.qual F.params e F.scope F.cl pm F.c ctv) := (ok f _ g).1
theorem celO_ok {P : Program} {w : World} {H : Hp} {hp : Heap} {c : Addr} {v : V} {z : Value} (r : RelV v z) (g : hp.IsCell c (some z)) : ObjOk P w H hp c (CelO c v) := by
  obtain ⟨ob, g1, g2⟩ := g
  exact ⟨⟨z, r, ob, g1, g2⟩, ⟨_, g1⟩, fun _ _ ⟨z1, r1, o1, a1, b1⟩ kk => ⟨z1, r1, o1, kk _ a1, b1⟩⟩
theorem celO_at {P : Program} {w : World} {H : Hp} {hp : Heap} {c : Addr} {v : V} (ok : HOk P w H hp) (g : H c = some (CelO c v)) : ∃ z, RelV v z ∧ hp.IsCell c (some z) := (ok c _ g).1
theorem celO_own {c x : Addr} {v : V} : CelO c v ≠ .own x := fun z => by
  have z' : HO.ext _ = HO.own x := z
  cases z'
theorem celO_tup {c : Addr} {v : V} {xs : List V} : CelO c v ≠ .tup xs := fun z => by
  have z' : HO.ext _ = HO.tup xs := z
  cases z'
theorem celO_frz {c : Addr} {v : V} {o : Obj} {u : HO} : CelO c v ≠ .frz o u := fun z => by
  have z' : HO.ext _ = HO.frz o u := z
  cases z'
theorem celO_tbl {c : Addr} {v : V} {ps : Array Value} : CelO c v ≠ .tbl ps := fun z => by
  have z' : HO.ext _ = HO.tbl ps := z
  cases z'

/-! ### the heap without some cells -/
open Classical in
noncomputable def strip (H : Hp) (C : Addr → Prop) : Hp := fun b => if C b then none else H b
open Classical in
noncomputable def back (H H' : Hp) (C : Addr → Prop) : Hp := fun b => if C b then H b else H' b
section
variable {P : Program} {w : World} {H H' : Hp} {C : Addr → Prop} {b : Addr} {hp hq : Heap} {fs : List Addr}
theorem strip_in (z : C b) : strip H C b = none := by unfold strip; rw [if_pos z]
theorem strip_out (z : ¬ C b) : strip H C b = H b := by unfold strip; rw [if_neg z]
theorem back_in (z : C b) : back H H' C b = H b := by unfold back; rw [if_pos z]
theorem back_out (z : ¬ C b) : back H H' C b = H' b := by unfold back; rw [if_neg z]
/-- all that C tells are cells -/
def CellsOf (H : Hp) (C : Addr → Prop) : Prop := ∀ c, C c → ∃ v, H c = some (CelO c v)
theorem CellsOf.out (hC : CellsOf H C) {o : HO} (e : H b = some o) (n : ∀ c v, o ≠ CelO c v) : ¬ C b := fun z => by
  obtain ⟨v, g⟩ := hC b z
  rw [e] at g
  exact n b v (Option.some.inj g)
theorem CellsOf.outN (hC : CellsOf H C) (e : H b = none) : ¬ C b := fun z => by
  obtain ⟨v, g⟩ := hC b z
  rw [e] at g; cases g
theorem strip_none (e : H b = none) : strip H C b = none := by
  by_cases z : C b
  · exact strip_in z
  · rw [strip_out z]; exact e
theorem strip_some (hC : CellsOf H C) {o : HO} (e : H b = some o) (n : ∀ c v, o ≠ CelO c v) : strip H C b = some o := by rw [strip_out (hC.out e n)]; exact e
theorem strip_ok (ok : HOk P w H hp) (hC : CellsOf H C) : HOk P w (strip H C) hp := fun a o e => by
  have nz : ¬ C a := fun z => by rw [strip_in z] at e; cases e
  rw [strip_out nz] at e
  exact (ok a o e).stay (fun _ _ _ q => q) (fun d q => strip_some hC q fun c v z => celO_own z.symm) fun d xs q => strip_some hC q fun c v z => celO_tup z.symm
theorem strip_env {K : PySem.W.Frag} {mg : Str → Option Value} {base : Heap} {A : Around} {outer : List Env} {s : Shared} (e0 : Env0 P w K mg base A outer s H) (hC : CellsOf H C) : Env0 P w K mg base A outer s (strip H C) :=
  ⟨e0.frames, e0.mod, fun a o q => ⟨(e0.bs a o q).1, strip_none (e0.bs a o q).2⟩, e0.bsz, e0.funs, fun a q => strip_none (e0.frf a q), strip_ok e0.hok hC, e0.bare⟩
/-- behind what left the cells alone: they hold what they held -/
theorem back_ok (hC : CellsOf H C) (ok : HOk P w H hp) (ok' : HOk P w H' hq) (kp : ∀ c o, C c → hp.get? c = some o → hq.get? c = some o) (fr : ∀ c, C c → H' c = none) : HOk P w (back H H' C) hq := fun a o e => by
  have inn : ∀ {d : Addr} {u : HO}, H' d = some u → back H H' C d = some u := fun {d u} q => by
    rw [back_out fun z => by rw [fr d z] at q; cases q]; exact q
  by_cases z : C a
  · rw [back_in z] at e
    obtain ⟨v, g⟩ := hC a z
    rw [g] at e; cases e
    obtain ⟨y, r, ob, g1, g2⟩ := celO_at ok g
    exact celO_ok r ⟨ob, kp a ob z g1, g2⟩
  · rw [back_out z] at e
    exact (ok' a o e).stay (fun _ _ _ q => q) (fun d q => inn q) fun d xs q => inn q
theorem cells_there (hC : CellsOf H C) (ok : HOk P w H hp) {c : Addr} (z : C c) : ∃ o, hp.get? c = some o := by
  obtain ⟨v, g⟩ := hC c z
  obtain ⟨_, _, ob, g1, _⟩ := celO_at ok g
  exact ⟨ob, g1⟩
theorem back_un (hC : CellsOf H C) (u : Un fs [] (strip H C) H' hp hq) : Un fs [] H (back H H' C) hp hq where
  keep := fun a o q n hf hx => u.keep a o q (strip_none n) hf hx
  slot := fun a o q n hf hx => u.slot a o q (strip_none n) hf hx
  free := fun a o q n hx => by rw [back_out (hC.outN n)]; exact u.free a o q (strip_none n) hx
  there := u.there
  tups := fun a xs q => by
    have nz := hC.out q fun c v z => celO_tup z.symm
    rw [back_out nz]; exact u.tups a xs (by rw [strip_out nz]; exact q)
  frzs := fun a o v q => by
    have nz := hC.out q fun c v z => celO_frz z.symm
    rw [back_out nz]; exact u.frzs a o v (by rw [strip_out nz]; exact q)
  tbls := fun a ps q => by
    have nz := hC.out q fun c v z => celO_tbl z.symm
    obtain ⟨m, e⟩ := u.tbls a ps (by rw [strip_out nz]; exact q)
    exact ⟨m, by rw [back_out nz]; exact e⟩
theorem back_ub (hC : CellsOf H C) {B : Heap} (u : UB fs (strip H C) H' hp B hq) : UB fs H (back H H' C) hp B hq where
  keep := fun a o q n hf => u.keep a o q (strip_none n) hf
  slot := u.slot
  free := fun a o q n => by rw [back_out (hC.outN n)]; exact u.free a o q (strip_none n)
  there := u.there
  tups := fun a xs q => by
    have nz := hC.out q fun c v z => celO_tup z.symm
    rw [back_out nz]; exact u.tups a xs (by rw [strip_out nz]; exact q)
  frzs := fun a o v q => by
    have nz := hC.out q fun c v z => celO_frz z.symm
    rw [back_out nz]; exact u.frzs a o v (by rw [strip_out nz]; exact q)
  tbls := fun a ps q => by
    have nz := hC.out q fun c v z => celO_tbl z.symm
    obtain ⟨m, e⟩ := u.tbls a ps (by rw [strip_out nz]; exact q)
    exact ⟨m, by rw [back_out nz]; exact e⟩
/-- an exception that left the cells alone -/
theorem back_cx {outer : List Env} {s s' : Shared} {E : XK} {u : Value} (hC : CellsOf H C) (ok : HOk P w H s.heap) (frf : ∀ b ∈ frs outer, H b = none) (x : CX P w outer (strip H C) s (fun cls d H0 => (∀ c, C c → H0 c = none) → E cls d (back H H0 C)) u s') : CX P w outer H s E u s' := by
  obtain ⟨a, B, H1, cls, d, rfl, fl, okB, ub, na, os, ag, q⟩ := x
  have nfr : ∀ c, C c → c ∉ frs outer := fun c z m => by
    obtain ⟨v, g⟩ := hC c z
    rw [frf c m] at g; cases g
  have kB : ∀ c o, C c → s.heap.get? c = some o → B.get? c = some o := fun c o z g => ub.keep c o g (strip_in z) (nfr c z)
  have fB : ∀ c, C c → H1 c = none := fun c z => by
    obtain ⟨o, g⟩ := cells_there hC ok z
    exact ub.free c o g (strip_in z)
  refine ⟨a, B, back H H1 C, cls, d, rfl, fl, back_ok hC ok okB kB fB, back_ub hC ub, ?_, os, ag, q fB⟩
  rw [back_out fun z => ?_]
  · exact na
  · obtain ⟨o, g⟩ := cells_there hC ok z
    have g2 := kB a o z g
    rw [fl.2.1] at g2; cases g2
theorem back_ce {outer : List Env} {s s' : Shared} {Q : VK} {u : Value} (hC : CellsOf H C) (ok : HOk P w H s.heap) (frf : ∀ b ∈ frs outer, H b = none) (x : CE outer P w (strip H C) s (fun v H0 => (∀ c, C c → H0 c = none) → Q v (back H H0 C)) u s') : CE outer P w H s Q u s' := by
  obtain ⟨v, H1, os, ag, un, ok1, r, q⟩ := x
  have nfr : ∀ c, C c → c ∉ frs outer := fun c z m => by
    obtain ⟨v, g⟩ := hC c z
    rw [frf c m] at g; cases g
  have kB : ∀ c o, C c → s.heap.get? c = some o → s'.heap.get? c = some o := fun c o z g => un.keep c o g (strip_in z) (nfr c z) (by simp)
  have fB : ∀ c, C c → H1 c = none := fun c z => by
    obtain ⟨o, g⟩ := cells_there hC ok z
    exact un.free c o g (strip_in z) (by simp)
  exact ⟨v, back H H1 C, os, ag, back_un hC un, back_ok hC ok ok1 kB fB, r, q fB⟩
end

/-! ### a function with what it captured -/
structure LamAt (H : Hp) (f : Addr) (F : NF) (e : Expr) (fr : List Str) (ws : List V) : Prop where
  fn : H f = some (LamO f F e)
  cd : H F.c = some (CodeO F.c F.qual)
  len : ws.length = fr.length
  inj : ∀ x y c, F.cl.lookup x = some c → F.cl.lookup y = some c → x = y
  all : ∀ y c, F.cl.lookup y = some c → ∃ v, H c = some (CelO c v)
  has : ∀ (i : Nat) (y : Str), fr[i]? = some y → ∃ c, F.cl.lookup y = some c ∧ ∀ v, ws[i]? = some v → H c = some (CelO c v)
def ClP (F : NF) : Addr → Prop := fun c => ∃ y, F.cl.lookup y = some c
section
variable {P : Program} {w : World} {K : PySem.W.Frag} {mg : Str → Option Value} {base : Heap} {N fr : List Str} {F : NF} {f : Addr} {e : Expr} {ws : List V} {k : Nat} {H : Hp} {t : TE}
theorem LamAt.cells (L : LamAt H f F e fr ws) : CellsOf H (ClP F) := fun c ⟨y, z⟩ => L.all y c z
theorem LamAt.run (S : NScope N [] fr F.scope) (hb : ∀ pm ctv : Value, bindArgs (PySem.W.kla_fn "<lambda>" F.qual F.params e F.scope F.cl pm (.ref F.c) ctv) ⟨[], []⟩ = pure []) (L : LamAt H f F e fr ws) {A : Around} {outer : List Env} {s : Shared} {Q : VK} {E : XK}
    (hr : Room (k + 1) A) (e0 : Env0 P w K mg base A outer s H)
    (body : Room k (A.deeper (envF F f s.heap.objs.size)) → PE (ncx (L2.CX P w) P w K mg base N F f A outer s (strip H (ClP F)) fun cls d H0 => (∀ c, ClP F c → H0 c = none) → E cls d (back H H0 (ClP F))) e t)
    (q : t (startF N [] (ws.map some)) (strip H (ClP F)) fun v H0 => (∀ c, ClP F c → H0 c = none) → Q v (back H H0 (ClP F))) : codeAny (model P w) A (.call (.ref f) ⟨[], []⟩) (CR (L2.CX P w) outer P w H s Q E) s := by
  have hC := L.cells
  have e1 := strip_env e0 hC
  have lim : s.heap.NoLimit := e0.mod.nolimit.keeps fun a o g => (e0.bs a o g).1
  obtain ⟨pm, ctv, g⟩ := lamO_at e0.hok L.fn
  have cells : CellsAt F.cl fr (ws.map some) s.heap (strip H (ClP F)) := by
    refine ⟨by rw [List.length_map]; exact L.len, fun y c z => ?_, L.inj, fun i y z => ?_⟩
    · obtain ⟨v, g1⟩ := L.all y c z
      obtain ⟨u, _, g2⟩ := celO_at e0.hok g1
      exact ⟨strip_in ⟨y, z⟩, _, g2⟩
    · obtain ⟨c, g1, g2⟩ := L.has i y z
      refine ⟨c, g1, fun v ev => ?_⟩
      rw [List.getElem?_map] at ev
      cases ew : ws[i]? with
      | none => rw [ew] at ev; cases ev
      | some v' =>
        rw [ew] at ev
        cases ev
        exact celO_at e0.hok (g2 _ ew)
  refine PySem.W.kla_callFunE hr.depth g rfl S.co S.gen rfl (codeO_at e0.hok L.cd) ?_
  rw [hb pm ctv]
  refine wpAny_pure (wpAny_newFunctionEnv S.nocell (fun y hy => absurd hy (by simp)) (fun h1 hns hsb => ⟨lim.fresh _ hsb, ?_⟩) S.kind)
  show codeAny _ _ (.expr e (envF F f s.heap.objs.size)) _ _
  have kp : ∀ a o, s.heap.get? a = some o → h1.get? a = some o := fun a o z => hsb.extBut a o (Nat.ne_of_lt (Heap.lt_size z)) (Heap.get?_push_of_some _ z)
  have J : Inv (ncx (L2.CX P w) P w K mg base N F f A outer s (strip H (ClP F)) fun cls d H0 => (∀ c, ClP F c → H0 c = none) → E cls d (back H H0 (ClP F))) [] (startF N [] (ws.map some)) (strip H (ClP F)) { s with heap := h1, toks := s.toks + ([] : List (Str × Value)).length } :=
    inv_startN S hr.hd e1 rfl .nil cells hns kp
  refine PySem.W.kla_codeExpr (wpAny_mono ((body (hr.deeper _)).run [] _ _ _ _ J q) (fun v s' z => ?_) fun er s' z => wpAny_mono z (fun _ s2 z2 => ?_) fun e2 s2 z2 => ?_)
  · obtain ⟨x, H1, J1, rv, q1⟩ := z
    exact back_ce hC e0.hok e0.frf ⟨x, H1, J1.os, J1.bare, J1.base, J1.hok, rv, q1⟩
  · exact back_cx hC e0.hok e0.frf z2
  · exact back_cx hC e0.hok e0.frf z2
end

/-! ### a thing that can be called -/
structure Thunk (P : Program) (w : World) (K : PySem.W.Frag) (mg : Str → Option Value) (base : Heap) (k : Nat) (f : Addr) (H : Hp) (sp : VK → XK → Prop) : Prop where
  fn : ∀ hp, HOk P w H hp → PySem.W.FnAt f hp
  run : ∀ (A : Around) (outer : List Env) (s : Shared) (Q : VK) (E : XK), Room k A → Env0 P w K mg base A outer s H → sp Q E → codeAny (model P w) A (.call (.ref f) ⟨[], []⟩) (CR (L2.CX P w) outer P w H s Q E) s
theorem LamAt.thunk {P : Program} {w : World} {K : PySem.W.Frag} {mg : Str → Option Value} {base : Heap} {N fr : List Str} {F : NF} {f : Addr} {e : Expr} {ws : List V} {k : Nat} {H : Hp} {sp : VK → XK → Prop}
    (S : NScope N [] fr F.scope) (hb : ∀ pm ctv : Value, bindArgs (PySem.W.kla_fn "<lambda>" F.qual F.params e F.scope F.cl pm (.ref F.c) ctv) ⟨[], []⟩ = pure []) (L : LamAt H f F e fr ws)
    (body : ∀ (A : Around) (outer : List Env) (s : Shared) (Q : VK) (E : XK), Room k (A.deeper (envF F f s.heap.objs.size)) → sp Q E → ∃ t : TE,
      PE (ncx (L2.CX P w) P w K mg base N F f A outer s (strip H (ClP F)) fun cls d H0 => (∀ c, ClP F c → H0 c = none) → E cls d (back H H0 (ClP F))) e t ∧ t (startF N [] (ws.map some)) (strip H (ClP F)) fun v H0 => (∀ c, ClP F c → H0 c = none) → Q v (back H H0 (ClP F))) :
    Thunk P w K mg base (k + 1) f H sp := by
  refine ⟨fun hp ok => ?_, fun A outer s Q E hr e0 hs => ?_⟩
  · obtain ⟨pm, ctv, g⟩ := lamO_at ok L.fn
    exact ⟨_, _, _, _, g⟩
  · obtain ⟨t, ht, hq⟩ := body A outer s Q E (hr.deeper _) hs
    exact L.run (t := t) S hb hr e0 (fun _ => ht) hq
/-- x(), where the name x holds such a thing -/
theorem pe_thunk {X : Cx} {P : Program} {w : World} {K : PySem.W.Frag} {mg : Str → Option Value} {base : Heap} {W : WX} {k i : Nat} {x : Str} {p1 p2 : Pos} (q1 : X.prog = P) (q2 : X.w = w) (q3 : X.K = K) (q4 : X.mg = mg) (q5 : X.base = base) (hr : Room k X.A) (hN : X.N[i]? = some x) (hv : Vis X.env.scope x) (tk : Takes X W)
    (hd : (x == ("__debug__" : Str)) = false := by decide) (hcd : (x == ("__classdict__" : Str)) = false := by decide) :
    PE X (.Call (.Name x p1) [] [] p2) (fun σ H Q => ∃ f sp, σ[i]? = some (some (.ref f)) ∧ Thunk P w K mg base k f H sp ∧ sp Q fun cls d H' => W cls d σ H') := by
  subst q1 q2 q3 q4 q5
  refine ⟨fun pins s σ H Q I h => ?_⟩
  obtain ⟨f, sp, hs, th, hq⟩ := h
  refine wpAny_Call_Name_kw (thn ((pe_var (pos := p1) (i := i) hN hv hd hcd).run pins s σ H (fun v H1 => v = .ref f ∧ H1 = H) I ⟨.ref f, hs, rfl, rfl⟩) fun u s1 ⟨v, H1, I1, r1, q1⟩ => ?_)
  obtain ⟨ev, eH⟩ := q1
  subst ev
  rw [eH] at I1
  obtain rfl : u = Value.ref f := r1
  refine PySem.W.callWith_F0 (th.fn _ I1.hok) ?_
  show wpAny _ _ (call (.ref f) []) _ _ _
  refine wpAny_call (codeAny_mono (th.run X.A X.stack s1 Q _ hr I1.env0 hq) fun r s' z => ?_)
  cases r with
  | error er => exact tk er s' (XE.of_call I1 (fun _ _ _ y => y) z)
  | ok fl =>
    cases fl with
    | ret u => exact I1.after z
    | next => exact False.elim z
    | brk => exact False.elim z
    | cont => exact False.elim z
end LX
-- X2
namespace LX
open PySem PySem.Spec PyProof.Rows L2 LamX NdefX
section
variable {X : Cx} {pins : List (Addr × Obj)} {σ : L2.St} {H : Hp} {s : Shared}
/-- how the captured cells of a function lie to those of its maker -/
structure ClOk (cells : List (Str × Addr)) (F : NF) (fr : List Str) : Prop where
  inj : ∀ x y c, F.cl.lookup x = some c → F.cl.lookup y = some c → x = y
  sub : ∀ y c, F.cl.lookup y = some c → y ∈ fr ∧ cells.lookup y = some c
  has : ∀ y ∈ fr, ∃ c, F.cl.lookup y = some c ∧ cells.lookup y = some c
theorem clOk_of {scope : Scope} {fr : List Str} {nm ql : Str} {params : Arguments} {body : List Stmt} {c' : Addr} (ok : X.Ok) (hfree : ∀ y ∈ scope.names, y.2 = .free → X.env.scope.names.lookup y.1 = some .cell ∨ X.env.scope.names.lookup y.1 = some .free)
    (h1 : ∀ y ∈ scope.names, y.2 = .free → y.1 ∈ fr) (h2 : ∀ y ∈ fr, (y, NameKind.free) ∈ scope.names) : ClOk X.env.cells ⟨nm, ql, params, body, scope, cloFrom X.env.cells scope.names [], c'⟩ fr := by
  have hf : ∀ y ∈ scope.names, y.2 = .free → ∃ c, X.env.cells.lookup y.1 = some c := fun y hy z => (hfree y hy z).elim (fun q => ok.has _ (.inl q)) fun q => ok.has _ (.inr q)
  refine ⟨fun x y c a b => ok.inj x y c (clo_cm hf a) (clo_cm hf b), fun y c a => ⟨?_, clo_cm hf a⟩, fun y hy => ?_⟩
  · rcases cloFrom_mem (PySem.mem_of_lookup a) with m | ⟨m, _⟩
    · cases m
    · exact h1 _ m rfl
  · obtain ⟨c, hc⟩ := hf _ (h2 y hy) rfl
    exact ⟨c, clo_has hf (h2 y hy) hc, hc⟩
/-- the reading of a function without parameters, made here -/
def tMkLam (cells : List (Str × Addr)) (P : Addr) (q : Str) (fr : List Str) (e : Expr) (mk : Addr → NF) : TE := fun _ H Q => TabS H P q ∧ ∀ (f c' : Addr) (H1 : Hp), ExtN H H1 → (∀ b, H1 b = none → H b = none) → TabS H1 P q → H f = none →
  H1 f = some (LamO f (mk c') e) → H1 c' = some (CodeO c' q) → ClOk cells (mk c') fr → (∀ a ps, a ≠ P → H a = some (.tbl ps) → H1 a = some (.tbl ps)) → Q (.ref f) H1
def lamB (sc scope : Scope) (fr : List Str) : Bool := (scope.names.all fun y => !decide (y.2 = .free) || (decide (y.1 ∈ fr) && (decide (sc.names.lookup y.1 = some .cell) || decide (sc.names.lookup y.1 = some .free)))) && fr.all fun y => decide ((y, NameKind.free) ∈ scope.names)
theorem pe_mklam {sc : Scope} {fr : List Str} {c P : Addr} {params : Arguments} {body : Expr} {scope : Scope} {pos : Pos} (hsc : X.env.scope = sc) (TB : TabB X.base X.mg c P) (hcode : X.env.code = .ref c) (hB : lamB sc scope fr = true) (hdef : defaultsOf params X.env = ([], [])) :
    PE X (.Lambda params body scope pos) (tMkLam X.env.cells P (X.env.qual ++ "<lambda>") fr body fun c' => ⟨"<lambda>", X.env.qual ++ "<lambda>", params, [], scope, cloFrom X.env.cells scope.names [], c'⟩) := by
  unfold lamB at hB
  simp only [Bool.and_eq_true, Bool.or_eq_true, Bool.not_eq_true', decide_eq_true_eq, decide_eq_false_iff_not, List.all_eq_true] at hB
  have hfree : ∀ y ∈ scope.names, y.2 = .free → X.env.scope.names.lookup y.1 = some .cell ∨ X.env.scope.names.lookup y.1 = some .free := fun y hy z => by
    rw [hsc]; exact ((hB.1 y hy).resolve_left fun q => q z).2
  have h1 : ∀ y ∈ scope.names, y.2 = .free → y.1 ∈ fr := fun y hy z => ((hB.1 y hy).resolve_left fun q => q z).1
  have h2 : ∀ y ∈ fr, (y, NameKind.free) ∈ scope.names := hB.2
  refine ⟨fun pins s σ H Q I hw => ?_⟩
  obtain ⟨hT, h⟩ := hw
  have clok : ∀ c', ClOk X.env.cells ⟨"<lambda>", X.env.qual ++ "<lambda>", params, [], scope, cloFrom X.env.cells scope.names [], c'⟩ fr := fun c' => clOk_of I.ok hfree h1 h2
  have hfr : ∀ y ∈ scope.names, y.2 = .free → ∃ c, X.env.cells.lookup y.1 = some c := fun y hy z => (hfree y hy z).elim (fun q => I.ok.has _ (.inl q)) fun q => I.ok.has _ (.inr q)
  obtain ⟨ps, hP, ht, ha⟩ := id hT
  refine PySem.W.kla_eval hdef ?_
  have bP : s.heap.BuiltinsAt X.mg P := TB.bm.keeps I.bk
  have gP : s.heap.get? P = some { cls := .none, data := .fields ps } := I.hok P _ hP
  cases hc : codeAmong pos ps.toList with
  | none =>
    refine PySem.W.kla_makeFunction (mg := X.mg) (c := c) (P := P) (ps := ps) (closure_ok hfr) I.ok.glob (I.mod.glob.keeps I.bk) hcode (TB.code.keeps I.bk) gP ht hc TB.gP bP fun c' ctv h' tk hx hge hlt hrec htb => ?_
    obtain ⟨c2, oc, vs, t, z2, hoc, hd, hv⟩ := hrec
    cases z2
    have nC : H c' = none := I.hok.fresh hge
    have J := inv_table (t' := tk) (more := #[rawInt pos.line, rawInt pos.col, .ref c']) (h' := h') I hP (fun b o hb z => hx b o hb z) htb hge ⟨oc, vs, t, hoc, hd, hv⟩
    have nF := J.hok.fresh (Nat.le_refl h'.objs.size)
    have J2 := J.laid (a := h'.objs.size) (t' := tk) (o := LamO h'.objs.size ⟨"<lambda>", X.env.qual ++ "<lambda>", params, [], scope, cloFrom X.env.cells scope.names [], c'⟩ body)
      (h' := h'.push (PySem.W.kla_obj "<lambda>" (X.env.qual ++ "<lambda>") params body scope (cloFrom X.env.cells scope.names []) ((X.mg "__name__").getD .none) c' ctv)) (fun b u z => Heap.get?_push_of_some _ z) (Nat.le_refl _) (lamO_ok (Heap.get?_push_size _ rfl))
    have nPc : P ≠ c' := ne_of_none hP nC
    have nPf : P ≠ h'.objs.size := Nat.ne_of_lt (Heap.lt_size htb)
    have at1 : ∀ b, b ≠ P → b ≠ c' → b ≠ h'.objs.size → upd (upd (upd H P (.tbl (ps ++ #[rawInt pos.line, rawInt pos.col, .ref c']))) c' (CodeO c' (X.env.qual ++ "<lambda>"))) h'.objs.size (LamO h'.objs.size ⟨"<lambda>", X.env.qual ++ "<lambda>", params, [], scope, cloFrom X.env.cells scope.names [], c'⟩ body) b = H b :=
      fun b n1 n2 n3 => by rw [upd_ne n3, upd_ne n2, upd_ne n1]
    have nHf : H h'.objs.size = none := I.hok.fresh (Nat.le_trans hge (Nat.le_of_lt hlt))
    have eN : ExtN H (upd (upd (upd H P (.tbl (ps ++ #[rawInt pos.line, rawInt pos.col, .ref c']))) c' (CodeO c' (X.env.qual ++ "<lambda>"))) h'.objs.size (LamO h'.objs.size ⟨"<lambda>", X.env.qual ++ "<lambda>", params, [], scope, cloFrom X.env.cells scope.names [], c'⟩ body)) := fun b o z n => by
      rw [at1 b (fun q => n ps (Option.some.inj (z.symm.trans (by rw [q]; exact hP)))) (ne_of_none z nC) (ne_of_none z nHf)]; exact z
    have eC : upd (upd (upd H P (.tbl (ps ++ #[rawInt pos.line, rawInt pos.col, .ref c']))) c' (CodeO c' (X.env.qual ++ "<lambda>"))) h'.objs.size (LamO h'.objs.size ⟨"<lambda>", X.env.qual ++ "<lambda>", params, [], scope, cloFrom X.env.cells scope.names [], c'⟩ body) c' = some (CodeO c' (X.env.qual ++ "<lambda>")) := by
      rw [upd_ne (Nat.ne_of_lt hlt), upd_same]
    have eL : (ps ++ #[rawInt pos.line, rawInt pos.col, .ref c']).toList = ps.toList ++ [rawInt pos.line, rawInt pos.col, .ref c'] := by simp
    refine ⟨.ref h'.objs.size, _, J2, rfl, h h'.objs.size c' _ eN (fun b z => upd_none (upd_none (upd_none z))) ⟨_, by rw [upd_ne nPf, upd_ne nPc, upd_same], by rw [eL]; exact PySem.TriplesOk_snoc _ _ _ _ ht, fun p' cv hcv => ?_⟩ nHf upd_same eC (clok c') fun a qs na z => ?_⟩
    · rw [eL] at hcv
      rcases among_app _ ht hcv with y | y
      · obtain ⟨c0, y1, y2⟩ := ha p' cv y
        exact ⟨c0, y1, eN _ _ y2 codeO_ne⟩
      · exact ⟨c', y, eC⟩
    · rw [at1 a na (ne_of_none z nC) (ne_of_none z nHf)]; exact z
  | some cv =>
    obtain ⟨c', z, hco⟩ := ha pos cv hc
    subst z
    refine PySem.W.kla_makeFunctionHit (mg := X.mg) (c := c) (P := P) (ps := ps) (closure_ok hfr) I.ok.glob (I.mod.glob.keeps I.bk) hcode (TB.code.keeps I.bk) gP ht hc bP fun ctv h' tk hx hsz => ?_
    have J : Inv X pins σ H { s with heap := h', toks := tk } := I.kept hx
    have nHf : H h'.objs.size = none := J.hok.fresh (Nat.le_refl _)
    have J2 := J.laid (a := h'.objs.size) (t' := tk) (o := LamO h'.objs.size ⟨"<lambda>", X.env.qual ++ "<lambda>", params, [], scope, cloFrom X.env.cells scope.names [], c'⟩ body)
      (h' := h'.push (PySem.W.kla_obj "<lambda>" (X.env.qual ++ "<lambda>") params body scope (cloFrom X.env.cells scope.names []) ((X.mg "__name__").getD .none) c' ctv)) (fun b u z => Heap.get?_push_of_some _ z) (Nat.le_refl _) (lamO_ok (Heap.get?_push_size _ rfl))
    have eA : ∀ b o, H b = some o → upd H h'.objs.size (LamO h'.objs.size ⟨"<lambda>", X.env.qual ++ "<lambda>", params, [], scope, cloFrom X.env.cells scope.names [], c'⟩ body) b = some o := fun b o z => by rw [upd_ne (ne_of_none z nHf)]; exact z
    exact ⟨.ref h'.objs.size, _, J2, rfl, h h'.objs.size c' _ (ExtN.of eA) (fun b z => upd_none z) (hT.ext eA) nHf upd_same (eA _ _ hco) (clok c') fun a qs _ z => eA _ _ z⟩
end

/-! ### the end of a def that hands out what captured its parameters -/
theorem wp_app {M : Model} {Γ : PySem.Ctx} {env : Env} {Q : Flow → Pos → Shared → Prop} {E : Value → Pos → Shared → Prop} {post : List Stmt} : ∀ (pre : List Stmt) (p : Pos) (s : Shared),
    Sem.wp M Γ (execs pre env) (fun f p' s' => match f with | .next => Sem.wp M Γ (execs post env) Q E p' s' | f => Q f p' s') E p s → Sem.wp M Γ (execs (pre ++ post) env) Q E p s
  | [], _, _, h => h
  | st :: pre, p, s, h => by
    rw [execs_cons, Sem.wp_bind'] at h
    rw [List.cons_append, execs_cons, Sem.wp_bind']
    refine Sem.wp_mono M Γ _ (fun f p1 s1 z => ?_) (fun _ _ _ z => z) _ _ h
    cases f with
    | next => exact wp_app pre p1 s1 z
    | _ => exact z
theorem execs_app {M : Model} {A : Around} {E : Value → Shared → Prop} {env : Env} {Q : Flow → Shared → Prop} {pre post : List Stmt} {s : Shared}
    (h : wpAny M A (execs pre env) (fun f s' => match f with | .next => wpAny M A (execs post env) Q E s' | f => Q f s') E s) : wpAny M A (execs (pre ++ post) env) Q E s := fun Γ p hΓ => by
  refine wp_app pre p s (Sem.wp_mono M Γ _ (fun f p1 s1 z => ?_) (fun _ _ _ z => z) _ _ (h Γ p hΓ))
  cases f with
  | next => exact z Γ p1 hΓ
  | _ => exact z

/-- the names' cells of a def that is entered at s -/
abbrev cellsAt (s : Shared) (sc : Scope) : List (Str × Addr) := cellsFrom (s.heap.objs.size + 1) sc.names []
open Classical in
/-- the heap with the parameters' cells -/
noncomputable def withCells (cells : List (Str × Addr)) (ps : List Str) (vs : List V) (H : Hp) : Hp := fun b =>
  if h : ∃ (y : Str) (i : Nat) (v : V), cells.lookup y = some b ∧ ps[i]? = some y ∧ vs[i]? = some v then some (CelO b h.choose_spec.choose_spec.choose) else H b
theorem withCells_at {cells : List (Str × Addr)} {ps : List Str} {vs : List V} {H : Hp} (inj : ∀ x y c, cells.lookup x = some c → cells.lookup y = some c → x = y) (nd : ps.Nodup) {y : Str} {i : Nat} {v : V} {b : Addr} (h1 : cells.lookup y = some b) (h2 : ps[i]? = some y) (h3 : vs[i]? = some v) :
    withCells cells ps vs H b = some (CelO b v) := by
  have h : ∃ (y : Str) (i : Nat) (v : V), cells.lookup y = some b ∧ ps[i]? = some y ∧ vs[i]? = some v := ⟨y, i, v, h1, h2, h3⟩
  have key : ∀ (y' : Str) (i' : Nat) (v' : V), cells.lookup y' = some b → ps[i']? = some y' → vs[i']? = some v' → v' = v := fun y' i' v' g1 g2 g3 => by
    obtain rfl := inj _ _ _ g1 h1
    obtain rfl := nodup_ix nd g2 h2
    exact Option.some.inj (g3.symm.trans h3)
  unfold withCells
  rw [dif_pos h]
  obtain ⟨g1, g2, g3⟩ := h.choose_spec.choose_spec.choose_spec
  exact congrArg (fun z => some (CelO b z)) (key _ _ _ g1 g2 g3)
theorem withCells_out {cells : List (Str × Addr)} {ps : List Str} {vs : List V} {H : Hp} {b : Addr} (h : ∀ y, cells.lookup y ≠ some b) : withCells cells ps vs H b = H b := by
  unfold withCells
  rw [dif_neg fun ⟨y, _, _, g, _⟩ => h y g]
theorem withCells_cases (cells : List (Str × Addr)) (ps : List Str) (vs : List V) (H : Hp) (b : Addr) : (∃ (y : Str) (i : Nat) (v : V), cells.lookup y = some b ∧ ps[i]? = some y ∧ vs[i]? = some v ∧ withCells cells ps vs H b = some (CelO b v)) ∨ withCells cells ps vs H b = H b := by
  by_cases h : ∃ (y : Str) (i : Nat) (v : V), cells.lookup y = some b ∧ ps[i]? = some y ∧ vs[i]? = some v
  · refine .inl ⟨_, _, _, h.choose_spec.choose_spec.choose_spec.1, h.choose_spec.choose_spec.choose_spec.2.1, h.choose_spec.choose_spec.choose_spec.2.2, ?_⟩
    unfold withCells
    rw [dif_pos h]
  · refine .inr ?_
    unfold withCells
    rw [dif_neg h]
section
open LC
variable {P : Program} {w : World} {K : PySem.W.Frag} {mg : Str → Option Value} {base : Heap} {x : Str} {st : Stmt} {f c : Addr} {fd : FuncData} {N ps : List Str} {k j : Nat} {sp : Sp} {pre : List Stmt} {y : Str} {p1 p2 : Pos}
theorem okCells (F : FunC K x st f fd c) (S : FnScope N ps (defScope st)) (len : ∀ vs H Q E, sp vs H Q E → vs.length = ps.length) (hbd : defBody st = pre ++ [.Return (some (.Name y p1)) p2]) (hj : N[j]? = some y) (hy : Vis (defScope st) y)
    (hc : ∀ z ∈ ps, (defScope st).names.lookup z = some .cell)
    (hbody : ∀ (A : Around) (outer : List Env) (s : Shared) (H : Hp) (vs : List V) (Q : VK) (E : XK), Room k (A.deeper (envOfC x (defScope st) s.heap.objs.size f (.ref c))) → sp vs H Q E →
      ∃ t, PSs (cxOf CX0 P w K mg base N x (defScope st) f (.ref c) A outer s H E).nox pre t ∧ t { nx := fun σ1 H1 => ∃ v, σ1[j]? = some (some v) ∧ (∀ (i : Nat) (u : V), vs[i]? = some u → σ1[i]? = some (some u)) ∧
        ∀ H2, (∀ b o, H1 b = some o → H2 b = some o) → (∀ b, H2 b = none → H1 b = none) → (∀ (i : Nat) (z : Str) (b : Addr) (u : V), ps[i]? = some z → (cellsAt s (defScope st)).lookup z = some b → vs[i]? = some u → H2 b = some (CelO b u)) → Q v H2, rt := fun _ _ => False } (start N vs) H)
    (hd : (y == ("__debug__" : Str)) = false := by decide) (hcd : (y == ("__classdict__" : Str)) = false := by decide) : FnOk P w K mg base CX0 (k + 1) f fd ps sp := by
  obtain ⟨oc, od, kV, doc, pm, an, ct, osl, rfl, lk, hcode⟩ := F.ex
  refine ⟨len, fun A outer s H args us vs Q E hr e0 hb r hsp => ?_⟩
  have hl := len _ _ _ _ hsp
  have KX : K.In s.heap := e0.mod.kin.keeps fun b o g => (e0.bs b o g).1
  have lim : s.heap.NoLimit := e0.mod.nolimit.keeps fun b o g => (e0.bs b o g).1
  have hpl : ps.length ≤ N.length := by have := congrArg List.length S.pre; rw [List.length_take] at this; omega
  have ndP : ps.Nodup := by rw [← S.pre]; exact S.nd.sublist (List.take_sublist _ _)
  have hkind : ∀ z ∈ ps.zip us, (defScope st).names.lookup z.1 = some .local ∨ ((defScope st).names.lookup z.1 = some .cell ∧ ((cellsFrom (s.heap.objs.size + 1) (defScope st).names []).lookup z.1).isSome = true) := fun ⟨n, v⟩ hz =>
    .inr ⟨hc n (List.of_mem_zip hz).1, PySem.W.cellsFrom_some _ _ _ (.inl (hc n (List.of_mem_zip hz).1))⟩
  refine codeAny_call_function hr.depth (KX _ _ lk) rfl S.co S.gen rfl (PySem.W.codeRec_of KX hcode) (hb _ _ _ _ ?_)
  refine wpAny_newFunctionEnv_cells S.kind hkind fun env he s1 xc => ?_
  subst he
  refine ⟨lim.keeps xc.toInCall.keep, codeAny_func ?_⟩
  obtain ⟨t, ht, hq⟩ := hbody A outer s H vs Q E (hr.deeper _) hsp
  have I := inv_start (CX := CX0) (N := N) (E := E) S hr.hd e0 hl r xc
  show wpAny _ _ (execs (defBody st) _) _ _ _
  rw [hbd]
  refine execs_app (wpAny_mono (ht.run [] s1 (start N vs) H _ (I.wish _) hq) (fun fl s2 hs => ?_) fun _ _ z => False.elim z)
  cases fl with
  | ret u =>
    obtain ⟨_, _, _, _, _, q⟩ := hs
    exact False.elim q
  | brk =>
    obtain ⟨_, _, _, q⟩ := hs
    exact False.elim q
  | cont =>
    obtain ⟨_, _, _, q⟩ := hs
    exact False.elim q
  | next =>
    obtain ⟨σ1, H1, J', v, hv, hvs, q⟩ := hs
    have J := J'.unwish
    refine wpAny_execs_cons (wpAny_Return_some (thn ((pe_var (pos := p1) hj hy hd hcd).run [] s2 σ1 H1 (fun v' H' => v' = v ∧ H' = H1) J ⟨v, hv, rfl, rfl⟩) fun u s3 ⟨v', H', J3, rv, ev, eH⟩ => ?_))
    subst ev
    rw [eH] at J3
    have injC : ∀ a b c', (cellsAt s (defScope st)).lookup a = some c' → (cellsAt s (defScope st)).lookup b = some c' → a = b := J3.ok.inj
    have freeC : ∀ a c', (cellsAt s (defScope st)).lookup a = some c' → H1 c' = none := J3.freeC
    have upC : ∀ a c', (cellsAt s (defScope st)).lookup a = some c' → s.heap.objs.size ≤ c' := fun a c' g => J3.ok.cab a c' rfl g
    have inn : ∀ b o, H1 b = some o → withCells (cellsAt s (defScope st)) ps vs H1 b = some o := fun b o g => by
      rw [withCells_out fun a z => by rw [freeC a b z] at g; cases g]; exact g
    refine ⟨v', withCells (cellsAt s (defScope st)) ps vs H1, J3.os, J3.bare, ?_, fun b o g => ?_, rv, q _ inn (fun b g => ?_) fun i z b u g1 g2 g3 => withCells_at injC ndP g2 g1 g3⟩
    · have B : Un (frs outer) [] H H1 s.heap s3.heap := J3.base
      refine ⟨B.keep, B.slot, fun b o g n hx => ?_, B.there, fun b xs g => inn b _ (B.tups b xs g), fun b o z g => inn b _ (B.frzs b o z g), fun b qs g => ?_⟩
      · rw [withCells_out fun a z => absurd (Nat.lt_of_lt_of_le (Heap.lt_size g) (upC a b z)) (Nat.lt_irrefl _)]
        exact B.free b o g n hx
      · obtain ⟨m, e⟩ := B.tbls b qs g
        exact ⟨m, inn b _ e⟩
    · rcases withCells_cases (cellsAt s (defScope st)) ps vs H1 b with ⟨z, i, u, g1, g2, g3, g4⟩ | g4
      · rw [g4] at g
        cases g
        obtain ⟨m, hn, hlk⟩ := J3.loc
        have hz : N[i]? = some z := by
          have hi : i < ps.length := (List.getElem?_eq_some_iff.mp g2).1
          rw [← S.pre, List.getElem?_take_of_lt hi] at g2; exact g2
        obtain ⟨u', ru, lk'⟩ := hlk i z u hz (hvs i u g3) (.inr (.inl (hc z (List.mem_of_getElem? g2))))
        rcases lk' with ⟨k1, _⟩ | ⟨_, c2, e2, hcell⟩
        · have k1' : (defScope st).names.lookup z = some .local := k1
          rw [hc z (List.mem_of_getElem? g2)] at k1'; cases k1'
        · have e2' : (cellsAt s (defScope st)).lookup z = some c2 := e2
          rw [g1] at e2'; cases e2'
          exact celO_ok ru hcell
      · rw [g4] at g
        exact (J3.hok b o g).stay (fun _ _ _ z => z) (fun d z => inn d _ z) fun d xs z => inn d _ z
    · rcases withCells_cases (cellsAt s (defScope st)) ps vs H1 b with ⟨z, i, u, g1, g2, g3, g4⟩ | g4
      · rw [g4] at g; cases g
      · rw [g4] at g; exact g
end
end LX
-- R1
/-! Base.__init__(self, ..) where Base is an own class over ValueError without an own __init__. -/
namespace L2
open PySem PySem.Spec PyProof.Rows
section
variable {X : Cx} {e : Expr} {es : List Expr} {ta : TA} {p1 p2 pos : Pos}
theorem pe_oinit {pl : Sem Bool} {B : Str} {CB : Addr} (hg : Gl X B) (hm : X.mg B = some (.ref CB))
    (sp : PySem.W.specialIn X.K (.ref CB) "__getattribute__" = some (some (.builtin "type.__getattribute__")))
    (mt : PySem.W.typeIn X.K (.ref CB) = some (.type "type")) (hr : PySem.W.readsIn X.K CB (.type "type") = true)
    (vV : PySem.W.findCls X.K (.ref CB) (.type "type") "__init__" = some (.val (.builtin "ValueError.__init__"))) (ha : PA X (e :: es) ta)
    (hdb : (B == ("__debug__" : Str)) = false := by decide)
    (hc : eval (.Call (.Attribute (.Name B p1) "__init__" p2) (e :: es) [] pos) X.env = (do
      let ov ← eval (.Name B p1) X.env
      standAt p2.atName
      let (f, first) ← holding [ov] (getMethod ov "__init__" pl)
      callWith pos f first (backTo pos (starEach (e :: es) X.env)) (backToKw pos (keywordEach [] X.env))) := by rfl)
    (he : starEach (e :: es) X.env = (false, eval e X.env) :: starEach es X.env := by rfl) (hpl : (backTo pos (starEach es X.env)).any (·.1) = false := by rfl) :
    PE X (.Call (.Attribute (.Name B p1) "__init__" p2) (e :: es) [] pos) (tVeI X.K ta) := by
  refine ⟨fun pins s σ H Q I h => ?_⟩
  refine PySem.W.methodCall_KW (ld_glob I hg hm ?_ hdb) hc
  obtain ⟨m, fr⟩ := I.fr
  refine PySem.W.method_of_cls fr I.ok.mod.kin sp (PySem.W.cls_val fr I.ok.mod.kin mt hr vV (by decide +kernel) ?_)
  show wpAny _ _ (callWith pos (Value.builtin "ValueError.__init__") [] (backTo pos (starEach (e :: es) X.env)) []) _ _ _
  refine PyProof.Rows.callWith_method1 (thn (ha.run pos pins _ σ H _ (I.tok _) h) fun us s1 ⟨vs, H1, I1, r1, a, C, ws, ev, hl, T, ea, q⟩ => ?_) he hpl
  subst ev
  cases r1 with
  | @cons _ u0 _ ur ra rw' =>
    obtain rfl : u0 = Value.ref a := ra
    have hlen : ur.length ≤ sizeLine := by
      rw [← Paired.length rw', sizeLine_eq]
      omega
    exact oinit_ok T I1 ea hlen fun s' J => ⟨.non, H1, J, rfl, q⟩
end
end L2
-- L5
namespace LC
variable [Tbl]
open PySem PySem.Spec PyProof.Rows L2 GenW RZ
section
variable {K : PySem.W.Frag} {H H1 : Hp} {a scr row : Addr} {xs : List V} {σ : L2.St}
theorem rixL {i : Int} {v : V} {Q : VK} (j : Nat) (hs : SqL K H a xs) (e : i = (j : Int)) (hx : xs[j]? = some v) (q : Q v H) : rIxL K (.ref a) (.int i) H Q := ⟨a, xs, i, v, rfl, rfl, hs, atI_of e hx, q⟩
theorem rixLC {i : Int} {v : V} {Q : VK} (j : Nat) (hs : H a = some (.lst xs)) (e : i = (j : Int)) (hx : xs[j]? = some v) (q : Q v H) : tC (.int i) σ H (fun y H2 => rIxL K (.ref a) y H2 Q) := rixL j (SqL.of hs) e hx q
theorem sqL_ne {o : HO} (h : SqL K H a xs) (hn : a ≠ row) : SqL K (upd H row o) a xs := by
  rcases h with (h | ⟨u, h⟩) | h
  · exact .inl (.inl (by rw [upd_ne hn]; exact h))
  · exact .inl (.inr ⟨u, by rw [upd_ne hn]; exact h⟩)
  · exact .inr h
/-- it stands in the written part -/
def SqLK (K : PySem.W.Frag) (a : Addr) (xs : List V) : Prop := ∃ (o : Obj) (its : Array Value) (n : Nat), K.lookup a = some o ∧ o.cls = .type "list" ∧ o.dict = none ∧ o.data = .seq its n ∧ its.size ≤ sizeLine ∧ Vals xs its.toList
theorem sqL_neK {o : HO} (h : SqL K H a xs) (hn : a ≠ row ∨ SqLK K a xs) : SqL K (upd H row o) a xs := by
  rcases hn with hn | hn
  · exact sqL_ne h hn
  · exact .inr hn
theorem sqL_xs {S : Addr → Prop} (x : Xt S H H1) (hn : ¬ S a) (h : SqL K H a xs) : SqL K H1 a xs := by
  rcases h with (h | ⟨u, h⟩) | h
  · exact .inl (.inl (x.keep a _ hn (fun _ z => by cases z) h))
  · exact .inl (.inr ⟨u, x.keep a _ hn (fun _ z => by cases z) h⟩)
  · exact .inr h
theorem sqL_xsK {S : Addr → Prop} (x : Xt S H H1) (hn : ¬ S a ∨ SqLK K a xs) (h : SqL K H a xs) : SqL K H1 a xs := by
  rcases hn with hn | hn
  · exact sqL_xs x hn h
  · exact .inr hn
end
/-- the draws' row -/
structure RowAt (K : PySem.W.Frag) (H : Hp) (row scr : Addr) (ns : List Int) : Prop where
  ex : ∃ i x r : Int, H row = some (.lst [.ref scr, .int i, .int x, .int r]) ∧ 0 ≤ i ∧ 0 ≤ x ∧ x < 2147483647 ∧ 0 ≤ r
  sc : SqL K H scr (ns.map V.int)
  ne : scr ≠ row ∨ SqLK K scr (ns.map V.int)
theorem RowAt.x {K : PySem.W.Frag} {H H1 : Hp} {row scr : Addr} {ns : List Int} (h : RowAt K H row scr ns) (x : Xn H H1) : RowAt K H1 row scr ns := by
  obtain ⟨⟨i, y, r, h1, h2⟩, h3, h4⟩ := h
  exact ⟨⟨i, y, r, x.keep row _ (fun z => z) (fun _ z => by cases z) h1, h2⟩, sqL_x x h3, h4⟩
theorem RowAt.upd {K : PySem.W.Frag} {H : Hp} {row scr : Addr} {ns : List Int} {i x r : Int} (h : RowAt K H row scr ns) (h1 : 0 ≤ i) (h2 : 0 ≤ x) (h3 : x < 2147483647) (h4 : 0 ≤ r) : RowAt K (upd H row (.lst [.ref scr, .int i, .int x, .int r])) row scr ns :=
  ⟨⟨i, x, r, upd_same, h1, h2, h3, h4⟩, sqL_neK h.sc h.ne, h.ne⟩
/-- one address alone may change -/
abbrev At1 (row : Addr) : Addr → Prop := fun a => a = row
theorem RowAt.yo {K : PySem.W.Frag} {H H2 : Hp} {row scr E : Addr} {ns : List Int} {o : HO} (h0 : RowAt K H row scr ns) (x : Xt (At1 row) H (L2.upd H2 E o)) (h2 : RowAt K H2 row scr ns) (hE : E ≠ row) : RowAt K (L2.upd H2 E o) row scr ns := by
  obtain ⟨i, y, r, h1, h2⟩ := h2.ex
  exact ⟨⟨i, y, r, by rw [upd_ne (Ne.symm hE)]; exact h1, h2⟩, sqL_xsK x h0.ne h0.sc, h0.ne⟩
def sb_taken (K : PySem.W.Frag) : Sp := fun vs H Q _ => ∃ (row scr : Addr) (ns : List Int) (m : Int), vs = [.ref row, .int m] ∧ RowAt K H row scr ns ∧ 1 ≤ m ∧ m ≤ 1000 ∧ ∀ H' n, 0 ≤ n → n < m → Xt (At1 row) H H' → RowAt K H' row scr ns → Q (.int n) H'
end LC
-- L6
namespace LC
variable [Tbl]
open PySem PySem.Spec PyProof.Rows L2
def msr (E : Addr) (H : Hp) : Nat := match H E with
  | some (.lst xs) => (xs.map fun v => match v with | .int i => i.toNat | _ => 0).sum
  | _ => 0
theorem msr_of {E : Addr} {H : Hp} {es : List Int} (h : H E = some (.lst (es.map V.int))) : msr E H = (es.map Int.toNat).sum := by
  unfold msr; rw [h]; simp only [List.map_map]; rfl
theorem first_ix : ∀ {es : List Int} {m : Int}, m ∈ es → ∃ j, es[j]? = some m ∧ ∀ (i : Nat) (z : Int), i < j → es[i]? = some z → z ≠ m
  | [], _, h => nomatch h
  | e :: es, m, h => by
    by_cases z : e = m
    · exact ⟨0, by rw [z]; rfl, fun i _ hi => absurd hi (Nat.not_lt_zero _)⟩
    · obtain ⟨j, h1, h2⟩ := first_ix (es := es) (by
        rcases List.mem_cons.mp h with h | h
        · exact absurd h.symm z
        · exact h)
      refine ⟨j + 1, by simpa using h1, fun i y hi hy => ?_⟩
      cases i with
      | zero => simp at hy; exact hy ▸ z
      | succ i => exact h2 i y (by omega) (by simpa using hy)
theorem set_sum : ∀ {es : List Int} {j : Nat} {m : Int}, es[j]? = some m → ((es.set j 0).map Int.toNat).sum + m.toNat = (es.map Int.toNat).sum
  | [], _, _, h => by simp at h
  | e :: es, 0, m, h => by
    simp at h; subst h
    simp; omega
  | e :: es, j + 1, m, h => by
    have := set_sum (es := es) (j := j) (m := m) (by simpa using h)
    rw [List.set_cons_succ, List.map_cons, List.map_cons, List.sum_cons, List.sum_cons]; omega
theorem sum_pos_max {es : List Int} {m : Int} (h : ∀ y ∈ es, y ≤ m) (hm : m ≤ 0) : es.sum ≤ 0 := by
  induction es with
  | nil => simp
  | cons e es ih =>
    have h1 := h e (List.mem_cons_self ..)
    have h2 := ih fun y hy => h y (List.mem_cons_of_mem _ hy)
    rw [List.sum_cons]; omega
theorem mem_set0 {es : List Int} {j : Nat} (h : ∀ e ∈ es, 0 ≤ e ∧ e ≤ 4) : ∀ e ∈ es.set j 0, 0 ≤ e ∧ e ≤ 4 := fun e he => by
  rcases List.mem_or_eq_of_mem_set he with h1 | h1
  · exact h e h1
  · subst h1; exact ⟨by omega, by omega⟩
end LC
-- L7
namespace LC
variable [Tbl]
open PySem PySem.Spec PyProof.Rows L2
/-! dicts whose keys are tuples of whole numbers -/
def kI (k : List Int) : List Key := k.map Sum.inl
theorem kI_inj {a b : List Int} (h : kI a = kI b) : a = b := by
  induction a generalizing b with
  | nil => cases b with
    | nil => rfl
    | cons _ _ => cases h
  | cons x a ih => cases b with
    | nil => cases h
    | cons y b =>
      unfold kI at h
      rw [List.map_cons, List.map_cons, List.cons.injEq] at h
      obtain ⟨h1, h2⟩ := h
      rw [Sum.inl.injEq] at h1
      rw [h1, ih h2]
theorem kI_kV (k : List Int) : (kI k).map kV = k.map V.int := by
  unfold kI; rw [List.map_map]; rfl
def dOf (ps : List (List Int × V)) : List (List Key × V) := ps.map fun p => (kI p.1, p.2)
theorem put_ps {ps : List (List Int × V)} {k : List Int} {v : V} {R : List Int × V → Prop} (nd : (ps.map (·.1)).Nodup) (h : ∀ p ∈ ps, R p) (hr : R (k, v)) :
    ∃ qs, putK (dOf ps) (kI k) v = dOf qs ∧ (qs.map (·.1)).Nodup ∧ (∀ p ∈ qs, R p) ∧ qs.length ≤ ps.length + 1 := by
  unfold putK
  by_cases z : ((dOf ps).any fun kv => decide (kv.1 = kI k)) = true
  · rw [if_pos z]
    refine ⟨ps.map fun p => if p.1 = k then (p.1, v) else p, ?_, ?_, ?_, ?_⟩
    · unfold dOf
      rw [List.map_map, List.map_map]
      refine List.map_congr_left fun p _ => ?_
      show (if kI p.1 = kI k then (kI p.1, v) else (kI p.1, p.2)) = (kI (if p.1 = k then (p.1, v) else p).1, (if p.1 = k then (p.1, v) else p).2)
      by_cases e : p.1 = k
      · rw [if_pos (by rw [e]), if_pos e]
      · rw [if_neg (fun q => e (kI_inj q)), if_neg e]
    · have e : (ps.map fun p => if p.1 = k then (p.1, v) else p).map (·.1) = ps.map (·.1) := by
        rw [List.map_map]
        refine List.map_congr_left fun p _ => ?_
        show (if p.1 = k then (p.1, v) else p).1 = p.1
        by_cases e : p.1 = k
        · rw [if_pos e]
        · rw [if_neg e]
      rw [e]; exact nd
    · intro p hp
      obtain ⟨q, hq, rfl⟩ := List.mem_map.mp hp
      by_cases e : q.1 = k
      · rw [if_pos e, e]; exact hr
      · rw [if_neg e]; exact h q hq
    · rw [List.length_map]; omega
  · rw [if_neg z]
    refine ⟨ps ++ [(k, v)], ?_, ?_, ?_, ?_⟩
    · unfold dOf; rw [List.map_append]; rfl
    · rw [List.map_append, List.nodup_append]
      refine ⟨nd, by simp, fun a ha b hb => ?_⟩
      simp at hb
      subst hb
      intro e
      refine z ?_
      obtain ⟨p, hp, e2⟩ := List.mem_map.mp ha
      rw [List.any_eq_true]
      exact ⟨(kI p.1, p.2), List.mem_map.mpr ⟨p, hp, rfl⟩, decide_eq_true (by show kI p.1 = kI b; rw [e2, e])⟩
    · intro p hp
      rcases List.mem_append.mp hp with hp | hp
      · exact h p hp
      · rw [List.mem_singleton] at hp; rw [hp]; exact hr
    · rw [List.length_append]; exact Nat.le_refl _
theorem val_ps : ∀ {ps : List (List Int × V)} {k : List Int} {v : V}, (ps.map (·.1)).Nodup → (k, v) ∈ ps → valV (dOf ps) (kI k) = some v
  | [], _, _, _, h => nomatch h
  | p :: ps, k, v, nd, h => by
    rw [List.map_cons, List.nodup_cons] at nd
    rcases List.mem_cons.mp h with h | h
    · show valV ((kI p.1, p.2) :: dOf ps) (kI k) = some v
      rw [valV_pos (by show kI p.1 = kI k; rw [← h]), ← h]
    · show valV ((kI p.1, p.2) :: dOf ps) (kI k) = some v
      rw [valV_neg (fun z => nd.1 (List.mem_map.mpr ⟨(k, v), h, (kI_inj z).symm⟩))]
      exact val_ps nd.2 h
/-! rows, in another order -/
def intO : V → Int
  | .int i => i
  | _ => 0
def rowO (H : Hp) : V → List Int
  | .ref b => match H b with
    | some (.tup xs) => xs.map intO
    | _ => []
  | _ => []
theorem rowO_ints {H : Hp} {b : Addr} {ns : List Int} (h : H b = some (.tup (ns.map V.int))) : rowO H (.ref b) = ns := by
  show (match H b with | some (.tup xs) => xs.map intO | _ => []) = ns
  rw [h]
  show (ns.map V.int).map intO = ns
  rw [List.map_map]
  exact List.map_id _
theorem rows_map {H : Hp} {rs : List V} {xss : List (List Int)} (h : Rows H rs xss) : rs.map (rowO H) = xss := by
  refine List.ext_getElem? fun i => ?_
  rw [List.getElem?_map]
  cases z : rs[i]? with
  | none =>
    rw [List.getElem?_eq_none_iff] at z
    rw [h.1] at z
    rw [List.getElem?_eq_none z]; rfl
  | some v =>
    obtain ⟨b, ns, rfl, e1, e2⟩ := h.get z
    rw [e1]
    show some (rowO H (V.ref b)) = some ns
    rw [rowO_ints e2]
theorem rows_perm {H : Hp} {rs ys : List V} {xss : List (List Int)} (h : Rows H rs xss) (p : ys.Perm rs) : Rows H ys (ys.map (rowO H)) ∧ (ys.map (rowO H)).Perm xss := by
  refine ⟨⟨by rw [List.length_map], fun i ns e => ?_⟩, by rw [← rows_map h]; exact p.map _⟩
  rw [List.getElem?_map] at e
  cases z : ys[i]? with
  | none => rw [z] at e; cases e
  | some y =>
    rw [z] at e
    have hy : y ∈ rs := p.mem_iff.mp (List.mem_of_getElem? z)
    obtain ⟨j, hj⟩ := List.mem_iff_getElem?.mp hy
    obtain ⟨b, ms, rfl, e1, e2⟩ := h.get hj
    have e3 : rowO H (V.ref b) = ns := Option.some.inj e
    rw [rowO_ints e2] at e3
    exact ⟨b, rfl, by rw [← e3]; exact e2⟩
theorem code_lexLt {B : Int} : ∀ {a b : List Int}, a.length = b.length → TS.Bd B a → TS.Bd B b → TS.code B a ≤ TS.code B b → a ≠ b → HT.lexLt a b = true
  | [], [], _, _, _, _, h => absurd rfl h
  | [], _ :: _, h, _, _, _, _ => nomatch h
  | _ :: _, [], h, _, _, _, _ => nomatch h
  | x :: a, y :: b, hl, ha, hb, hc, hn => by
    have hl2 : a.length = b.length := by simpa using hl
    rw [HT.lexLt_cons]
    by_cases e : x = y
    · rw [if_pos e]
      subst e
      refine code_lexLt hl2 ha.tail hb.tail (Int.not_lt.mp fun z => ?_) fun z => hn (by rw [z])
      have := (TS.code_same (B := B) (d := x) hl2.symm).mpr z
      omega
    · rw [if_neg e]
      refine decide_eq_true ?_
      by_cases z : x < y
      · exact z
      · have := TS.code_lt (B := B) (d := y) (e := x) hl2.symm hb.tail ha.tail (by omega)
        omega
theorem rising_of {ks : List (List Int)} (h : ∀ i a b, ks[i]? = some a → ks[i + 1]? = some b → HT.lexLt a b = true) : rising ks = true := by
  unfold rising
  rw [List.all_eq_true]
  intro i hi
  rw [List.mem_range] at hi
  rw [List.getElem?_eq_getElem (by omega : i < ks.length), List.getElem?_eq_getElem (by omega : i + 1 < ks.length)]
  exact h i _ _ (List.getElem?_eq_getElem _) (List.getElem?_eq_getElem _)
theorem pair_next {α : Type} {R : α → α → Prop} : ∀ {xs : List α} {i : Nat} {a b : α}, xs.Pairwise R → xs[i]? = some a → xs[i + 1]? = some b → R a b
  | [], _, _, _, _, h, _ => by simp at h
  | x :: xs, 0, a, b, p, h1, h2 => by
    simp at h1 h2; subst h1
    exact (List.pairwise_cons.mp p).1 b (List.mem_of_getElem? h2)
  | x :: xs, i + 1, a, b, p, h1, h2 => pair_next (List.pairwise_cons.mp p).2 (by simpa using h1) (by simpa using h2)
end LC
namespace LC
variable [Tbl]
open PySem PySem.Spec PyProof.Rows L2
theorem sorted_rows {K : PySem.W.Frag} {H : Hp} {a : Addr} {xs : List V} {kss : List (List Int)} {Q : VK} {d : Nat} {B : Int} (hs : SqL K H a xs) (hl : xs.length < 64) (hr : Rows H xs kss) (hd : ∀ k ∈ kss, k.length = d ∧ TS.Bd B k) (nd : kss.Nodup)
    (q : ∀ ys p ks, ks.Perm kss → Rows H ys ks → rising ks = true → H p = none → Q (.ref p) (upd H p (.lst ys))) : rSortU K d B [.ref a] H Q := by
  refine ⟨a, xs, rfl, hs, hl, fun x hx => ?_, fun ys p hp hw hn => ?_⟩
  · obtain ⟨i, hi⟩ := List.mem_iff_getElem?.mp hx
    obtain ⟨b, ns, rfl, e1, e2⟩ := hr.get hi
    obtain ⟨h1, h2⟩ := hd ns (List.mem_of_getElem? e1)
    exact ⟨ns, ⟨b, rfl, SqT.of e2⟩, h1, h2⟩
  · obtain ⟨r1, r2⟩ := rows_perm hr hp
    refine q ys p _ r2 r1 (rising_of fun i u v hu hv => ?_) hn
    rw [List.getElem?_map] at hu hv
    cases zu : ys[i]? with
    | none => rw [zu] at hu; cases hu
    | some yu =>
      cases zv : ys[i + 1]? with
      | none => rw [zv] at hv; cases hv
      | some yv =>
        rw [zu] at hu
        rw [zv] at hv
        have hu2 : rowO H yu = u := Option.some.inj hu
        have hv2 : rowO H yv = v := Option.some.inj hv
        have g1 := r1.get zu
        have g2 := r1.get zv
        obtain ⟨bu, nu, rfl, eu, tu⟩ := g1
        obtain ⟨bv, nv, rfl, ev, tv⟩ := g2
        rw [rowO_ints tu] at hu2
        rw [rowO_ints tv] at hv2
        subst hu2 hv2
        have mu := hd nu (r2.mem_iff.mp (List.mem_of_getElem? eu))
        have mv := hd nv (r2.mem_iff.mp (List.mem_of_getElem? ev))
        have hc := pair_next hw zu zv nu nv ⟨bu, rfl, SqT.of tu⟩ ⟨bv, rfl, SqT.of tv⟩
        refine code_lexLt (mu.1.trans mv.1.symm) mu.2 mv.2 hc fun z => ?_
        have nd2 : (ys.map (rowO H)).Nodup := r2.nodup_iff.mpr nd
        exact pair_next nd2 eu ev z
theorem keys_rows {H : Hp} : ∀ {ps : List (List Int × V)} {bs : List Addr}, IsKeys H (dOf ps) bs → Rows H (bs.map V.ref) (ps.map (·.1))
  | [], bs, h => by
    cases h
    exact Rows.nil
  | p :: ps, bs, h => by
    unfold IsKeys at h
    have e : dOf (p :: ps) = (kI p.1, p.2) :: dOf ps := rfl
    rw [e] at h
    cases h with
    | cons h1 h2 =>
      rename_i b bs
      have ih := keys_rows (ps := ps) (bs := bs) h2
      refine ⟨by rw [List.length_map, List.length_map, List.length_cons, List.length_cons]; have := ih.1; rw [List.length_map, List.length_map] at this; omega, fun i ns e => ?_⟩
      cases i with
      | zero =>
        simp at e; subst e
        have h3 : H b = some (.tup ((kI p.1).map kV)) := h1
        rw [kI_kV] at h3
        exact ⟨b, rfl, h3⟩
      | succ i =>
        obtain ⟨b2, h3, h4⟩ := ih.2 i ns (by simpa using e)
        exact ⟨b2, by simpa using h3, h4⟩
end LC
namespace LC
variable [Tbl]
open PySem L2
theorem upd_old {H : Hp} {a p : Addr} {o u : HO} (e : H a = some o) (h : H p = none) : upd H p u a = some o := by
  rw [upd_ne (fun z => by rw [z, h] at e; cases e)]; exact e
theorem ne_none {H : Hp} {a p : Addr} {o : HO} (e : H a = some o) (h : H p = none) : a ≠ p := fun z => by rw [z, h] at e; cases e
theorem RowAt.nn {K : PySem.W.Frag} {H : Hp} {row scr p : Addr} {ns : List Int} (h : RowAt K H row scr ns) (hp : H p = none) : p ≠ row := fun z => by
  obtain ⟨_, _, _, e, _⟩ := h.ex
  rw [← z, hp] at e; cases e
theorem RowAt.back {K : PySem.W.Frag} {H H2 : Hp} {row scr p : Addr} {ns : List Int} (h : RowAt K H2 row scr ns) (x : Xt (At1 row) H H2) (hp : H2 p = none) : H p = none := x.back (fun _ _ z => h.nn hp z) hp
end LC
-- L8
namespace LC
variable [Tbl]
open PySem PySem.Spec PyProof.Rows L2
theorem dp_ints {K : PySem.W.Frag} {H : Hp} : ∀ qs : List Int, DpAll K H (qs.map V.int) (qs.map PyData.int)
  | [] => .nil
  | q :: qs => .cons (.int q) (dp_ints qs)
theorem neD_nil {K : PySem.W.Frag} {H : Hp} {S T : Addr} {qs : List Int} {Q : VK} (h : H S = some (.lst (qs.map V.int))) (e : H T = some (.lst [])) (q : Q (.bl (!qs.isEmpty)) H) : rNeD K (.ref S) (.ref T) H Q := by
  refine ⟨.list (qs.map .int), .list [], .lst (SqL.of h) (dp_ints qs), .lst (SqL.of e) .nil, PySem.W.ke_shaped_ints qs, PySem.W.ke_shaped_ints [], ?_⟩
  cases qs with
  | nil => exact q
  | cons x xs => exact q
theorem neD_nilC {K : PySem.W.Frag} {H : Hp} {S T : Addr} {qs : List Int} {Q : VK} (h : H S = some (.lst (qs.map V.int))) (e : H T = some (.lst [])) (q : Q (.bl (!qs.isEmpty)) H) : (fun x H2 => rNeD K (.ref S) x H2 Q) (.ref T) H := neD_nil h e q
theorem Tk.trans {H H1 H2 : Hp} (a : Tk H H1) (b : Tk H1 H2) : Tk H H2 := fun x xs e => b x xs (a x xs e)
theorem tk_dt {H H1 : Hp} {p : Addr} {o : HO} {ys : List (List Key × V)} (t : Tk H H1) (h : H1 p = some (.dT ys)) : Tk H (upd H1 p o) := fun a xs e => by
  rw [upd_ne (fun z => by rw [z] at e; have := t _ _ e; rw [h] at this; cases this)]; exact t _ _ e
theorem rising_ints {g : List Int} (h : g.Pairwise (· < ·)) : rising (g.map fun x => [x]) = true := rising_of fun i a b ha hb => by
  rw [List.getElem?_map] at ha hb
  cases za : g[i]? with
  | none => rw [za] at ha; cases ha
  | some x =>
    cases zb : g[i + 1]? with
    | none => rw [zb] at hb; cases hb
    | some y =>
      rw [za] at ha; rw [zb] at hb
      cases ha; cases hb
      rw [lexLt_one]
      exact decide_eq_true (pair_next h za zb)
/-- the value at a key -/
def bval (bs : List (List Int × V)) (k : List Int) : Int := match valV (dOf bs) (kI k) with
  | some (.int b) => b
  | _ => 0
theorem bval_of {bs : List (List Int × V)} {k : List Int} {b : Int} (nd : (bs.map (·.1)).Nodup) (h : (k, V.int b) ∈ bs) : bval bs k = b := by
  unfold bval; rw [val_ps nd h]
theorem DGet.ps {H : Hp} {a r : Addr} {bs : List (List Int × V)} {k : List Int} {v : V} (e : H a = some (.dT (dOf bs))) (er : H r = some (.tup (k.map V.int))) (nd : (bs.map (·.1)).Nodup) (h : (k, v) ∈ bs) : DGet H a (.ref r) (some v) := by
  have := DGet.t (k := kI k) e (by rw [kI_kV]; exact er)
  rw [val_ps nd h] at this
  exact this
theorem tnil1 {σ : L2.St} {H : Hp} {F : List V → Hp → Prop} (h : F [] H) : tNil σ H F := h
theorem tc1 {σ : L2.St} {H : Hp} {v : V} {F : V → Hp → Prop} (h : F v H) : tC v σ H F := h
end LC
-- L9
namespace LC
variable [Tbl]
open PySem PySem.Spec PyProof.Rows L2
mutual
/-- how deep; small enough to be walked -/
def D.dep : D → Nat
  | .tup ds => D.deps ds + 1
  | .lst ds => D.deps ds + 1
  | _ => 0
def D.deps : List D → Nat
  | [] => 0
  | d :: ds => max d.dep (D.deps ds)
end
mutual
def D.sm : D → Bool
  | .tup ds => decide (ds.length ≤ 1000) && D.sms ds
  | .lst ds => decide (ds.length ≤ 1000) && D.sms ds
  | _ => true
def D.sms : List D → Bool
  | [] => true
  | d :: ds => d.sm && D.sms ds
end
theorem D.dep_get : ∀ {ds : List D} {i : Nat} {d : D}, ds[i]? = some d → d.dep ≤ D.deps ds
  | [], _, _, h => by simp at h
  | e :: ds, 0, d, h => by simp at h; subst h; unfold D.deps; exact Nat.le_max_left _ _
  | e :: ds, i + 1, d, h => by
    have := D.dep_get (ds := ds) (i := i) (d := d) (by simpa using h)
    unfold D.deps; exact Nat.le_trans this (Nat.le_max_right _ _)
theorem D.sm_get : ∀ {ds : List D} {i : Nat} {d : D}, D.sms ds = true → ds[i]? = some d → d.sm = true
  | [], _, _, _, h => by simp at h
  | e :: ds, 0, d, s, h => by simp at h; subst h; unfold D.sms at s; rw [Bool.and_eq_true] at s; exact s.1
  | e :: ds, i + 1, d, s, h => by unfold D.sms at s; rw [Bool.and_eq_true] at s; exact D.sm_get s.2 (by simpa using h)
section
variable {H H1 : Hp}
mutual
theorem At.xn (x : Xn H H1) : ∀ (d : D) (v : V), At H d v → At H1 d v
  | .non, _, e => e
  | .bl _, _, e => e
  | .int _, _, e => e
  | .str _, _, e => e
  | .tup ds, v, e => by
    unfold At at e ⊢
    obtain ⟨a, xs, e1, e2, e3⟩ := e
    exact ⟨a, xs, e1, x.tups _ _ e2, Ats.xn x ds xs e3⟩
  | .lst ds, v, e => by
    unfold At at e ⊢
    obtain ⟨a, xs, e1, e2, e3⟩ := e
    exact ⟨a, xs, e1, x.keep a _ (fun z => z) (fun _ z => by cases z) e2, Ats.xn x ds xs e3⟩
theorem Ats.xn (x : Xn H H1) : ∀ (ds : List D) (vs : List V), Ats H ds vs → Ats H1 ds vs
  | [], _, e => by unfold Ats at e ⊢; exact e
  | d :: ds, _, e => by
    unfold Ats at e ⊢
    obtain ⟨v, r, e1, e2, e3⟩ := e
    exact ⟨v, r, e1, At.xn x d v e2, Ats.xn x ds r e3⟩
end
/-- is it a tuple or a list -/
def D.seq : D → Bool
  | .tup _ => true
  | .lst _ => true
  | _ => false
def D.isL : D → Bool
  | .lst _ => true
  | _ => false
def D.ty : D → String
  | .non => "NoneType"
  | .bl _ => "bool"
  | .int _ => "int"
  | .str _ => "str"
  | .tup _ => "tuple"
  | .lst _ => "list"
theorem At.tyx {K : PySem.W.Frag} {d : D} {v : V} (h : At H d v) : TyX K H v (.type d.ty) := by
  cases d with
  | non => unfold At at h; subst h; exact .base .non
  | bl b => unfold At at h; subst h; exact .base (.bl b)
  | int i => unfold At at h; subst h; exact .base (.int i)
  | str x => unfold At at h; subst h; exact .base (.str x)
  | tup ds => obtain ⟨a, xs, rfl, e, _⟩ := at_tup.mp h; exact .base (.tup e)
  | lst ds => obtain ⟨a, xs, rfl, e, _⟩ := at_lst.mp h; exact .base (.lst e)
end
theorem eqD_nil {K : PySem.W.Frag} {H : Hp} {S T : Addr} {Q : VK} (h : H S = some (.lst [])) (e : H T = some (.lst [])) (q : Q (.bl true) H) : rEqD K (.ref S) (.ref T) H Q :=
  ⟨.list [], .list [], .lst (SqL.of h) .nil, .lst (SqL.of e) .nil, PySem.W.ke_shaped_ints [], PySem.W.ke_shaped_ints [], q⟩
end LC
namespace LC
variable [Tbl]
open PySem PySem.Spec PyProof.Rows L2
def D.isT : D → Bool
  | .tup _ => true
  | _ => false
def D.isS : D → Bool
  | .str _ => true
  | _ => false
def D.isB : D → Bool
  | .bl _ => true
  | _ => false
def D.kids : D → List D
  | .tup ds => ds
  | .lst ds => ds
  | _ => []
section
variable {K : PySem.W.Frag}
theorem D.kT (d : D) : PySem.W.kitOne K (.type d.ty) (.type "tuple") = some d.isT := kit_ty (match d with
  | .non => (show kitB "NoneType" "tuple" = some false by decide +kernel)
  | .bl _ => (show kitB "bool" "tuple" = some false by decide +kernel)
  | .int _ => (show kitB "int" "tuple" = some false by decide +kernel)
  | .str _ => (show kitB "str" "tuple" = some false by decide +kernel)
  | .tup _ => (show kitB "tuple" "tuple" = some true by decide +kernel)
  | .lst _ => (show kitB "list" "tuple" = some false by decide +kernel))
theorem D.kL (d : D) : PySem.W.kitOne K (.type d.ty) (.type "list") = some d.isL := kit_ty (match d with
  | .non => (show kitB "NoneType" "list" = some false by decide +kernel)
  | .bl _ => (show kitB "bool" "list" = some false by decide +kernel)
  | .int _ => (show kitB "int" "list" = some false by decide +kernel)
  | .str _ => (show kitB "str" "list" = some false by decide +kernel)
  | .tup _ => (show kitB "tuple" "list" = some false by decide +kernel)
  | .lst _ => (show kitB "list" "list" = some true by decide +kernel))
theorem D.kS (d : D) : PySem.W.kitOne K (.type d.ty) (.type "str") = some d.isS := kit_ty (match d with
  | .non => (show kitB "NoneType" "str" = some false by decide +kernel)
  | .bl _ => (show kitB "bool" "str" = some false by decide +kernel)
  | .int _ => (show kitB "int" "str" = some false by decide +kernel)
  | .str _ => (show kitB "str" "str" = some true by decide +kernel)
  | .tup _ => (show kitB "tuple" "str" = some false by decide +kernel)
  | .lst _ => (show kitB "list" "str" = some false by decide +kernel))
theorem D.kB (d : D) : PySem.W.kitOne K (.type d.ty) (.type "bool") = some d.isB := kit_ty (match d with
  | .non => (show kitB "NoneType" "bool" = some false by decide +kernel)
  | .bl _ => (show kitB "bool" "bool" = some true by decide +kernel)
  | .int _ => (show kitB "int" "bool" = some false by decide +kernel)
  | .str _ => (show kitB "str" "bool" = some false by decide +kernel)
  | .tup _ => (show kitB "tuple" "bool" = some false by decide +kernel)
  | .lst _ => (show kitB "list" "bool" = some false by decide +kernel))
theorem D.kI (d : D) (b : Bool) (h : b = match d with | .int _ => true | .bl _ => true | _ => false) : PySem.W.kitOne K (.type d.ty) (.type "int") = some b := kit_ty (match d with
  | .non => h ▸ (show kitB "NoneType" "int" = some false by decide +kernel)
  | .bl _ => h ▸ (show kitB "bool" "int" = some true by decide +kernel)
  | .int _ => h ▸ (show kitB "int" "int" = some true by decide +kernel)
  | .str _ => h ▸ (show kitB "str" "int" = some false by decide +kernel)
  | .tup _ => h ▸ (show kitB "tuple" "int" = some false by decide +kernel)
  | .lst _ => h ▸ (show kitB "list" "int" = some false by decide +kernel))
theorem D.seq_eq (d : D) : d.seq = (d.isT || d.isL) := by cases d <;> rfl
theorem D.kTL (d : D) : PySem.W.kitAny K (.type d.ty) [.type "tuple", .type "list"] = some d.seq := by
  rw [D.seq_eq]
  have h1 := D.kT (K := K) d
  have h2 := D.kL (K := K) d
  generalize d.isT = b at h1 ⊢
  generalize d.isL = c at h2 ⊢
  refine kitAny_cons h1 (fun h => kitAny_cons h2 (fun h3 => ?_) (fun h3 => ?_)) (fun h => ?_)
  · subst h h3; exact kitAny_nil
  · subst h h3; rfl
  · subst h; rfl
theorem At.sq {H : Hp} {d : D} {v : V} (hs : d.seq = true) (h : At H d v) : ∃ a xs, v = .ref a ∧ (SqL K H a xs ∨ SqT K H a xs) ∧ Ats H d.kids xs := by
  cases d with
  | tup ds => obtain ⟨a, xs, rfl, e, h⟩ := at_tup.mp h; exact ⟨a, xs, rfl, .inr (SqT.of e), h⟩
  | lst ds => obtain ⟨a, xs, rfl, e, h⟩ := at_lst.mp h; exact ⟨a, xs, rfl, .inl (SqL.of e), h⟩
  | _ => cases hs
theorem D.kid_dep {d : D} {n i : Nat} {e : D} (hs : d.seq = true) (hd : d.dep < n + 1) (h : d.kids[i]? = some e) : e.dep < n := by
  have := D.dep_get h
  cases d with
  | tup ds => unfold D.dep at hd; have : e.dep ≤ D.deps ds := this; omega
  | lst ds => unfold D.dep at hd; have : e.dep ≤ D.deps ds := this; omega
  | _ => cases hs
theorem D.kid_sm {d : D} {i : Nat} {e : D} (hs : d.seq = true) (hd : d.sm = true) (h : d.kids[i]? = some e) : e.sm = true := by
  cases d with
  | tup ds => unfold D.sm at hd; rw [Bool.and_eq_true] at hd; exact D.sm_get hd.2 h
  | lst ds => unfold D.sm at hd; rw [Bool.and_eq_true] at hd; exact D.sm_get hd.2 h
  | _ => cases hs
theorem D.kids_len {d : D} (hs : d.seq = true) (hd : d.sm = true) : d.kids.length ≤ 1000 := by
  cases d with
  | tup ds => unfold D.sm at hd; rw [Bool.and_eq_true] at hd; exact of_decide_eq_true hd.1
  | lst ds => unfold D.sm at hd; rw [Bool.and_eq_true] at hd; exact of_decide_eq_true hd.1
  | _ => cases hs
end
end LC
namespace LC
variable [Tbl]
open PySem PySem.Spec PyProof.Rows L2
theorem eqD_pair {K : PySem.W.Frag} {H : Hp} {S T : Addr} {i j a b : Int} {Q : VK} (h : H S = some (.tup [.int i, .int j])) (e : H T = some (.tup [.int a, .int b])) (q : Q (.bl (decide (i = a) && decide (j = b))) H) : rEqD K (.ref S) (.ref T) H Q := by
  refine ⟨.tuple [.int i, .int j], .tuple [.int a, .int b], .tup (SqT.of h) (dp_ints [i, j]), .tup (SqT.of e) (dp_ints [a, b]), by rfl, by rfl, ?_⟩
  have e2 : PyData.eqv (.tuple [.int i, .int j]) (.tuple [.int a, .int b]) = (decide (i = a) && decide (j = b)) := by
    show ((i == a) && ((j == b) && true)) = _
    rw [Bool.and_true, Bool.beq_eq_decide_eq, Bool.beq_eq_decide_eq]
  rw [e2]
  exact q
theorem LN.zero {i a j : Int} : LN [] i a j 0 := ⟨fun _ h => (nomatch h), .inl rfl⟩
theorem LN.skip {xs : List (List Int)} {i a j m : Int} {t : List Int} (h : LN xs i a j m) (z : entOk i a j t = true → t[3]?.getD 0 ≤ m) : LN (xs ++ [t]) i a j m := by
  obtain ⟨h1, h2⟩ := h
  refine ⟨fun u hu ho => ?_, ?_⟩
  · rcases List.mem_append.mp hu with hu | hu
    · exact h1 u hu ho
    · rw [List.mem_singleton] at hu; subst hu; exact z ho
  · rcases h2 with h2 | ⟨u, h3, h4⟩
    · exact .inl h2
    · exact .inr ⟨u, List.mem_append_left _ h3, h4⟩
theorem LN.take {xs : List (List Int)} {i a j m n : Int} {t : List Int} (h : LN xs i a j m) (ho : entOk i a j t = true) (e : t[3]?.getD 0 = n) (hn : m ≤ n) : LN (xs ++ [t]) i a j n := by
  obtain ⟨h1, _⟩ := h
  refine ⟨fun u hu ho => ?_, .inr ⟨t, by simp, ho, e⟩⟩
  rcases List.mem_append.mp hu with hu | hu
  · exact Int.le_trans (h1 u hu ho) hn
  · rw [List.mem_singleton] at hu; subst hu; rw [e]; exact Int.le_refl _
end LC
namespace LC
variable [Tbl]
open PySem PySem.Spec PyProof.Rows L2
/-- rows as data -/
def dR (xss : List (List Int)) : D := .tup (xss.map fun ns => D.tup (ns.map D.int))
theorem ats_of {H : Hp} : ∀ {ds : List D} {vs : List V}, vs.length = ds.length → (∀ (i : Nat) (d : D) (v : V), ds[i]? = some d → vs[i]? = some v → At H d v) → Ats H ds vs
  | [], [], _, _ => Ats.nil
  | [], _ :: _, h, _ => nomatch h
  | _ :: _, [], h, _ => nomatch h
  | d :: ds, v :: vs, h, q => Ats.cons (q 0 d v rfl rfl) (ats_of (by simpa using h) fun i e u h1 h2 => q (i + 1) e u (by simpa using h1) (by simpa using h2))
theorem rows_at {H : Hp} {p : Addr} {rs : List V} {xss : List (List Int)} (e : H p = some (.tup rs)) (r : Rows H rs xss) : At H (dR xss) (.ref p) := by
  refine at_tup.mpr ⟨p, rs, rfl, e, ats_of (by rw [List.length_map]; exact r.1) fun i d v h1 h2 => ?_⟩
  obtain ⟨b, ns, rfl, e1, e2⟩ := r.get h2
  rw [List.getElem?_map, e1] at h1
  cases h1
  exact at_ints.mpr ⟨b, rfl, e2⟩
theorem deps_ints : ∀ ns : List Int, D.deps (ns.map D.int) = 0
  | [] => rfl
  | n :: ns => by
    show max (D.dep (.int n)) (D.deps (ns.map D.int)) = 0
    rw [deps_ints ns]; rfl
theorem sms_ints : ∀ ns : List Int, D.sms (ns.map D.int) = true
  | [] => rfl
  | n :: ns => by
    show ((D.int n).sm && D.sms (ns.map D.int)) = true
    rw [sms_ints ns]; rfl
theorem dR_dep (xss : List (List Int)) : (dR xss).dep < 3 := by
  show D.deps (xss.map fun ns => D.tup (ns.map D.int)) + 1 < 3
  have : ∀ xss : List (List Int), D.deps (xss.map fun ns => D.tup (ns.map D.int)) ≤ 1 := fun xss => by
    induction xss with
    | nil => exact Nat.zero_le _
    | cons ns xss ih =>
      show max (D.deps (ns.map D.int) + 1) (D.deps (xss.map fun ns => D.tup (ns.map D.int))) ≤ 1
      rw [deps_ints]; omega
  have := this xss
  omega
theorem dR_sm {xss : List (List Int)} (h : xss.length ≤ 1000) (h2 : ∀ ns ∈ xss, ns.length ≤ 1000) : (dR xss).sm = true := by
  show (decide ((xss.map fun ns => D.tup (ns.map D.int)).length ≤ 1000) && D.sms (xss.map fun ns => D.tup (ns.map D.int))) = true
  rw [List.length_map, decide_eq_true h, Bool.true_and]
  clear h
  induction xss with
  | nil => rfl
  | cons ns xss ih =>
    show ((decide ((ns.map D.int).length ≤ 1000) && D.sms (ns.map D.int)) && D.sms (xss.map fun ns => D.tup (ns.map D.int))) = true
    rw [List.length_map, decide_eq_true (h2 ns (List.mem_cons_self ..)), sms_ints, ih fun ms hm => h2 ms (List.mem_cons_of_mem _ hm)]; rfl
theorem Rows.app {H : Hp} {rs us : List V} {xss yss : List (List Int)} (h : Rows H rs xss) (h2 : Rows H us yss) : Rows H (rs ++ us) (xss ++ yss) := ⟨by rw [List.length_append, List.length_append, h.1, h2.1], fun i ns e => by
  by_cases hi : i < xss.length
  · rw [List.getElem?_append_left hi] at e
    obtain ⟨b, e1, e2⟩ := h.2 i ns e
    exact ⟨b, by rw [List.getElem?_append_left (by rw [h.1]; exact hi)]; exact e1, e2⟩
  · rw [List.getElem?_append_right (by omega)] at e
    obtain ⟨b, e1, e2⟩ := h2.2 _ ns e
    exact ⟨b, by rw [List.getElem?_append_right (by rw [h.1]; omega), h.1]; exact e1, e2⟩⟩
end LC
namespace LC
variable [Tbl]
theorem due_two {eds : List Int} {n : Nat} {ns : List Int} (h : ns ∈ due eds n) : ns.length ≤ 1000 := by
  unfold due at h
  obtain ⟨i, _, h2⟩ := List.mem_flatMap.mp h
  unfold dueW at h2
  obtain ⟨k, _, rfl⟩ := List.mem_map.mp h2
  show 2 ≤ 1000
  decide
end LC
-- X3
/-! errors of the program's own classes: raised, caught, asked for their class -/
namespace LX
open PySem PySem.Spec PyProof.Rows L2 LC
abbrev veB : List Value := [.type "ValueError", .type "Exception", .type "BaseException", .type "object"]
/-- what the written part says of an error class -/
structure ErrK (K : PySem.W.Frag) (C : Addr) : Prop where
  kp : PySem.W.keepIn K (.ref C) = true
  ba : PySem.W.subIn K (.ref C) (.type "BaseException") = some true
  ty : PySem.W.typeIn K (.ref C) = some (.type "type")
  hd : PySem.W.hasDictIn K C = true
  ga : PySem.W.findIn K (.ref C) "__getattribute__" = some (some (.builtin "BaseException.__getattribute__"))
  gg : PySem.W.findIn K (.ref C) "__getattr__" = some none
  ca : PySem.W.findIn K (.ref C) "__class__" = some (some (.builtin "object.__class__"))
  cg : PySem.W.specialIn K (.builtin "object.__class__") "__get__" = some (some (.builtin "getset_descriptor.__get__"))
  ct : PySem.W.takesIn K (.builtin "object.__class__") = some true
  ob : PySem.W.mroIn K C (.type "object") = some true
/-- the error class named x stands at C -/
structure ErrC (K : PySem.W.Frag) (mg : Str → Option Value) (x : Str) (C : Addr) : Prop extends ErrK K C where
  g : mg x = some (.ref C)
/-- .. and has no own way of being made -/
structure ErrP (K : PySem.W.Frag) (mg : Str → Option Value) (x : Str) (C : Addr) : Prop extends ErrC K mg x C where
  ex : PySem.W.excIn K C veB "ValueError.__new__" = true
section
variable {X : Cx} {x m : Str} {C : Addr} {j : Nat} {p p2 pos : Pos}
theorem pmk_txt (T : ErrP X.K X.mg x C) (hg : Gl X x) (hdb : (x == ("__debug__" : Str)) = false := by decide) : PMk X (.Call (.Name x p) [.Constant (.str m) j p2] [] pos) (fun _ H Q => Q (.ref C) none H) :=
  pmk_own PySem.F.excBase_ValueError T.ex T.g T.kp (raises_own T.ba T.ty) hg hdb
/-- an error class by its name -/
theorem pe_cls (T : ErrC X.K X.mg x C) (hg : Gl X x) (hdb : (x == ("__debug__" : Str)) = false := by decide) : PE X (.Name x pos) (tC (.ref C)) := pe_glob hg T.g rfl hdb
end
/-! ### who raises what -/
structure CalleeR (P : Program) (w : World) (K : PySem.W.Frag) (mg : Str → Option Value) (base : Heap) (x : Str) (k : Nat) (ps : List Str) (sp : Sp) : Prop where
  ex : ∃ f fd, mg x = some (.ref f) ∧ PySem.W.keepIn K (.ref f) = true ∧ Binds K fd ps [] ∧ FnOk P w K mg base (L2.CX P w) k f fd ps sp
theorem CalleeR.imp {P : Program} {w : World} {K : PySem.W.Frag} {mg : Str → Option Value} {base : Heap} {x : Str} {k : Nat} {ps : List Str} {sp sp' : Sp} (C : CalleeR P w K mg base x k ps sp) (h : ∀ vs H Q E, sp' vs H Q E → sp vs H Q E) : CalleeR P w K mg base x k ps sp' := by
  obtain ⟨f, fd, h1, h2, h3, F⟩ := C.ex
  exact ⟨f, fd, h1, h2, h3, F.imp h⟩
theorem pe_callR {X : Cx} {W : WX} {x : Str} {j k : Nat} {ps : List Str} {sp : Sp} {p pos : Pos} {e : Expr} {es : List Expr} {t : TA} (tk : Takes X W) (C : CalleeR X.prog X.w X.K X.mg X.base x j ps sp) (hr : Room k X.A) (hg : Gl X x) (ha : PA X (e :: es) t)
    (hle : j ≤ k := by decide) (hdb : (x == ("__debug__" : Str)) = false := by decide) (he : starEach (e :: es) X.env = (false, eval e X.env) :: starEach es X.env := by rfl) (hpl : (backTo pos (starEach es X.env)).any (·.1) = false := by rfl) :
    PE X (.Call (.Name x p) (e :: es) [] pos) (tCallS sp (WE W) t) := by
  obtain ⟨f, fd, hm, hk, hb, F⟩ := C.ex
  exact pe_callS (F.mono hle) hr hg hm hk hb (fun σ => passAt tk σ) ha hdb he hpl
section
variable {P : Program} {w : World} {K : PySem.W.Frag} {mg : Str → Option Value} {base : Heap} {x : Str} {st : Stmt} {f c : Addr} {fd : FuncData} {N ps : List Str} {k : Nat} {sp : Sp}
/-- a def that may raise -/
theorem okR (F : FunC K x st f fd c) (S : FnScope N ps (defScope st)) (len : ∀ vs H Q E, sp vs H Q E → vs.length = ps.length)
    (hbody : ∀ (A : Around) (outer : List Env) (s : Shared) (H : Hp) (vs : List V) (Q : VK) (E : XK), Room k (A.deeper (envOfC x (defScope st) s.heap.objs.size f (.ref c))) → sp vs H Q E →
      ∃ t, PSs (cxOf (L2.CX P w) P w K mg base N x (defScope st) f (.ref c) A outer s H E) (defBody st) t ∧ t { nx := fun _ H' => Q .non H', rt := Q } (start N vs) H) : FnOk P w K mg base (L2.CX P w) (k + 1) f fd ps sp := by
  obtain ⟨oc, od, kV, doc, pm, an, ct, osl, rfl, lk, hcd⟩ := F.ex
  exact fn_of lk hcd S len fun A outer s H vs Q E hr hsp => hbody A outer s H vs Q E hr hsp
theorem calleeR (F : FunC K x st f fd c) (hm : mg x = some (.ref f)) (G : FnOk P w K mg base (L2.CX P w) k f fd ps sp) (h : ∀ (kV doc pm : Value) (an : Option Addr) (cdv ct : Value) (us : List Value), us.length = ps.length → bindArgs (PySem.W.fnOf x x (defArgs st) (defBody st) (defScope st) .none kV doc pm an cdv ct) ⟨us, []⟩ = pure (ps.zip us)) :
    CalleeR P w K mg base x k ps sp := ⟨f, fd, hm, F.kp, F.binds h, G⟩
end

/-! ### within an except suite: the class of what was caught -/
/-- the error at a, of the class cls, its dict d (if it has one) stands -/
def HasD (H : Hp) : Option Addr → Prop
  | none => True
  | some dd => ∃ fs, H dd = some (.xd fs)
def rIsX (K : PySem.W.Frag) (cls : Value) (d : Option Addr) (a : Addr) : List V → Hp → VK → Prop := fun xs H Q => ∃ (D : Addr) (c : V) (cv : Value) (b : Bool), cls = .ref D ∧ ErrK K D ∧ HasD H d ∧ xs = [.ref a, c] ∧ (∀ u, RelV c u → u = cv) ∧ PySem.W.kitOne K (.ref D) cv = some b ∧ Q (.bl b) H
theorem call_isX {X : Cx} {a : Addr} {cls : Value} {d : Option Addr} {oe : Obj} {pn : List (Addr × Obj)} (hz : Zc cls d oe) (hf : ∃ vs, oe.data = .fields vs) : CallR (X.suite a ((a, oe) :: pn)) (.builtin "isinstance") (rIsX X.K cls d a) := by
  intro pins s σ H xs us Q I r h
  obtain ⟨D, c, cv, b, rfl, T, hD, rfl, hcv, e, q⟩ := h
  cases r with
  | cons rx rr =>
    cases rr with
    | cons rt rr =>
      cases rr
      cases rx
      have ec := hcv _ rt
      subst ec
      obtain ⟨hget, _⟩ := I.pin (a, oe) (List.mem_append.mpr (.inl List.mem_cons_self))
      obtain ⟨vs, hv⟩ := hf
      obtain ⟨od, J⟩ : ∃ od, PySem.W.InstAt s.heap a oe D od := by
        cases d with
        | none => exact ⟨none, hget, hz.1, by unfold PySem.W.notCls; rw [hv] <;> rfl, by rw [hz.2]; trivial⟩
        | some dd =>
          obtain ⟨fs, ea⟩ := hD
          have hx : ObjOk X.prog X.w H s.heap dd (.xd fs) := I.hok dd _ ea
          obtain ⟨mA, hns, hr⟩ := hx
          obtain ⟨od, ho, hl⟩ := lookIn_ns hns
          exact ⟨some od, hget, hz.1, by unfold PySem.W.notCls; rw [hv] <;> rfl, by rw [hz.2]; exact ho⟩
      have hcl : (PySem.W.clsIn X.K D).isSome = true := by
        have z := T.hd
        unfold PySem.W.hasDictIn at z
        cases y : PySem.W.clsIn X.K D with
        | none => rw [y] at z; cases z
        | some _ => rfl
      exact PySem.W.kia_one (PySem.W.kitx_exc hcl T.ga T.gg T.ba T.ca T.cg T.ct T.ob) I.kIn J e (fun z => nomatch z) fun tk => ⟨.bl b, H, I.kept (t' := tk) fun _ _ z => z, rfl, q⟩
/-- e.f, e the error that the suite holds -/
def tXfX (K : PySem.W.Frag) (a : Addr) (cls : Value) (d : Option Addr) (f : Str) (te : TE) : TE := fun σ H Q => te σ H fun x H1 => x = .ref a ∧ ∃ (C dd : Addr) (fs : List (Str × V)) (v : V), cls = .ref C ∧ ErrK K C ∧ PySem.W.findIn K (.ref C) f = some none ∧ d = some dd ∧ H1 dd = some (.xd fs) ∧ fs.lookup f = some v ∧ Q v H1
theorem pe_xfX {X : Cx} {a : Addr} {oe : Obj} {cls : Value} {d : Option Addr} {pn : List (Addr × Obj)} {e : Expr} {te : TE} {pos : Pos} {n : Str}
    (hz : Zc cls d oe) (hf : ∃ vs, oe.data = .fields vs) (he : PE (X.suite a ((a, oe) :: pn)) e te) (hb : attributeBase e n X.env (eval e X.env) = eval e X.env := by rfl) :
    PE (X.suite a ((a, oe) :: pn)) (.Attribute e n pos) (tXfX X.K a cls d n te) := by
  refine ⟨fun pins s σ H Q I h => ?_⟩
  refine attr_of hb (thn (he.run pins s σ H _ I h) fun u s1 hh => ?_)
  obtain ⟨x, H1, I1, rx, ex, C, dd, fs, v, ec, T, hno, ed, ea, l, q⟩ := hh
  subst ex
  obtain rfl : u = Value.ref a := rx
  subst ec
  subst ed
  obtain ⟨ha, _⟩ := I1.pin (a, oe) (List.mem_append_left _ List.mem_cons_self)
  obtain ⟨vs, hd⟩ := hf
  have hx : ObjOk X.prog X.w H1 s1.heap dd (.xd fs) := I1.hok dd _ ea
  obtain ⟨mA, hns, hr⟩ := hx
  obtain ⟨od, ho, hl⟩ := lookIn_ns hns
  obtain ⟨u, hu, ru⟩ := RelO.some_of (v := v) (o := mA n) (by rw [← l]; exact hr n)
  have J : PySem.W.InstAt s1.heap a oe C (some od) := ⟨ha, hz.1, by unfold PySem.W.notCls; rw [hd] <;> rfl, by rw [hz.2]; exact ho⟩
  exact HandSPX.exc_get I1.kIn J T.ga T.gg T.ba (PySem.W.findObj_own T.hd hno rfl (by rw [hl, hu])) (handed_of ru) ⟨v, H1, I1.tok _, ru, q⟩
end LX
-- X4
namespace LX
open PySem PySem.Spec PyProof.Rows L2 LC
section
variable {P : Program} {w : World} {K : PySem.W.Frag} {mg : Str → Option Value} {base : Heap} {CXa : CXT} {k j : Nat} {f : Addr} {fd : FuncData} {ps : List Str} {sp sp' : Sp} {x : Str}
/-- what never raises may stand where errors are awaited -/
theorem fn_up (F : FnOk P w K mg base CX0 k f fd ps sp) : FnOk P w K mg base CXa k f fd ps sp := ⟨F.len, fun A outer s H args us vs Q E hr e0 hb r h => codeAny_mono (F.run A outer s H args us vs Q E hr e0 hb r h) fun r s' z => by
  cases r with
  | error e => exact False.elim z
  | ok fl => cases fl <;> exact z⟩
theorem fn_or (F : FnOk P w K mg base CXa k f fd ps sp) (G : FnOk P w K mg base CXa k f fd ps sp') : FnOk P w K mg base CXa k f fd ps (fun vs H Q E => sp vs H Q E ∨ sp' vs H Q E) :=
  ⟨fun vs H Q E h => h.elim (F.len vs H Q E) (G.len vs H Q E), fun A outer s H args us vs Q E hr e0 hb r h => h.elim (F.run A outer s H args us vs Q E hr e0 hb r) (G.run A outer s H args us vs Q E hr e0 hb r)⟩
theorem _root_.LC.Callee.up (C : Callee P w K mg base x k ps sp) : CalleeR P w K mg base x k ps sp := by
  obtain ⟨f, fd, h1, h2, h3, F⟩ := C.ex
  exact ⟨f, fd, h1, h2, h3, fn_up F⟩
end

/-! ### how many are True -/
theorem bools_of_vals : ∀ {bs : List Bool} {us : List Value}, Vals (bs.map V.bl) us → us = bs.map Value.bool
  | [], _, r => by cases r; rfl
  | b :: bs, _, r => by
    cases r with
    | cons r1 rr =>
      cases r1
      rw [bools_of_vals rr]; rfl
theorem count_bools (k : Bool) : ∀ bs : List Bool, (bs.map Value.bool).countP (eqU (.bl k)) = bs.count k
  | [] => rfl
  | b :: bs => by
    have e : eqU (.bl k) (Value.bool b) = (b == k) := rfl
    rw [List.map_cons, List.countP_cons, count_bools k bs, e, List.count_cons]
def rCntB (K : PySem.W.Frag) : V → List V → Hp → VK → Prop := fun x xs H Q => ∃ (p : Addr) (bs : List Bool) (k : Bool), x = .ref p ∧ xs = [.bl k] ∧ SqL K H p (bs.map V.bl) ∧ Q (.int (bs.count k : Nat)) H
theorem mt_countB {X : Cx} : MtR X "list.count" (rCntB X.K) := by
  intro pins s σ H x xs v us Q I rx rxs h
  obtain ⟨p, bs, k, rfl, rfl, hs, q⟩ := h
  cases rx
  obtain ⟨u, rfl, ru⟩ := rxs.one
  cases ru
  obtain ⟨its, rv, ⟨⟨cls, dd, data, sl⟩, n, ho, hc, hdn, hd⟩, hlen⟩ := I.list hs
  simp only at hc hd
  subst hc hd
  have fl : (bs.map V.bl).all flatV = true := by rw [List.all_eq_true]; intro y hy; obtain ⟨b, _, rfl⟩ := List.mem_map.mp hy; rfl
  refine call_meets PySem.F.slot_list_count ⟨_, ho, rfl⟩ PySem.F.entry_list_count (PySem.F.args_list_count_2 _ _)
    (SeqAt.list_countAt p its.toArray n dd sl (.bool k) (eqU (.bl k))) ⟨ho, fun y hy => mem_eqAt (x := .bl k) rfl rfl rv fl y (by simpa using hy), ?_⟩
  have ec : its.toArray.toList.countP (eqU (.bl k)) = bs.count k := by
    have e := bools_of_vals rv
    show its.countP _ = _
    rw [e]; exact count_bools k bs
  refine ⟨.int (bs.count k : Nat), H, I.tok _, ⟨s.toks, ?_⟩, q⟩
  show Value.int ((its.toArray.toList.countP (eqU (.bl k)) : Nat) : Int) s.toks = Value.int ((bs.count k : Nat) : Int) s.toks
  rw [ec]

/-- a method, its reading by the written part's own name -/
theorem pe_bmK {X : Cx} {K : PySem.W.Frag} {o e : Expr} {es : List Expr} {to : TE} {t : TA} {name : Str} {apos cpos : Pos} {T id : String} (r : PySem.W.Frag → V → List V → Hp → VK → Prop) (pa : PlainAttrs T) (slot : Slot T name id) (hty : typeOf (.builtin id) = pure (.type "method_descriptor")) (hm : MtR X id (r X.K)) (ho : PE X o to) (ha : PA X (e :: es) t) (q : X.K = K)
    (hbase : attributeBase o name X.env (eval o X.env) = eval o X.env := by rfl)
    (hfew : ((backTo cpos (starEach (e :: es) X.env)).all (fun x => !x.1) && (backToKw cpos (keywordEach [] X.env)).all (fun x => x.1.isSome)
      && decide ((e :: es).length + ([] : List Keyword).length + (if ([] : List Keyword).isEmpty then 0 else 1) < 30)) = true := by rfl)
    (hline : (apos.endLine == cpos.line) = true := by rfl) (hs : starEach (e :: es) X.env = (false, eval e X.env) :: starEach es X.env := by rfl) (hplain : (backTo cpos (starEach es X.env)).any (·.1) = false := by rfl) :
    PE X (.Call (.Attribute o name apos) (e :: es) [] cpos) (tBM K T (r K) to t) := by
  subst q
  exact pe_bm pa slot hty hm ho ha hbase hfew hline hs hplain

/-! ### an error class that keeps one field -/
/-- what may stand in the text of such an error -/
def FmtV : V → Prop
  | .str y => y.length ≤ 1000
  | .int i => 0 ≤ i ∧ i ≤ 99
  | .non => True
  | _ => False
/-- its text -/
def fmtT : V → Option Str
  | .str y => some y
  | .int i => some (toString i)
  | .non => some "None"
  | _ => none
theorem small_len : ∀ i : Fin 100, (toString ((i.val : Nat) : Int) : Str).length ≤ 1000 := by decide +kernel
theorem fmt_ok {v : V} (h : FmtV v) : ∃ y, fmtT v = some y ∧ y.length ≤ 1000 := by
  cases v with
  | str y => exact ⟨y, rfl, h⟩
  | int i =>
    obtain ⟨h1, h2⟩ := h
    refine ⟨_, rfl, ?_⟩
    have := small_len ⟨i.toNat, by omega⟩
    rwa [show (((⟨i.toNat, by omega⟩ : Fin 100).val : Nat) : Int) = i from by show ((i.toNat : Nat) : Int) = i; omega] at this
  | non => exact ⟨_, rfl, by decide +kernel⟩
  | bl b => exact h.elim
  | byt b => exact h.elim
  | flt b => exact h.elim
  | ref a => exact h.elim
  | ty n => exact h.elim
theorem len_ok {a b n : Nat} (h : a ≤ 1000000) (h2 : n ≤ 1000) : a + n ≤ sizeLine := by rw [sizeLine_eq]; omega
/-- {x}: a text, a small number, None -/
def tFmtX (te : TE) : TE := fun σ H Q => te σ H fun x H1 => FmtV x ∧ ∃ y, fmtT x = some y ∧ Q (.str y) H1
theorem pe_fmtX {X : Cx} {e : Expr} {te : TE} {pos : Pos} (he : PE X e te) : PE X (.FormattedValue e (-1) none pos) (tFmtX te) := by
  refine ⟨fun pins s σ H Q I h => ?_⟩
  refine wpAny_FormattedValue_plain (thn (he.run pins s σ H _ I h) fun v s1 hv => ?_)
  obtain ⟨x, H1, I1, r1, fv, y, ey, q⟩ := hv
  cases x with
  | str z =>
    cases ey
    obtain ⟨t, rfl⟩ := r1
    exact wpAny_formatField_str ⟨.str y, H1, I1, ⟨t, rfl⟩, q⟩ ⟨.str y, H1, I1.tok _, ⟨_, rfl⟩, q⟩ (Nat.le_trans (show y.length ≤ 1000 from fv) (by rw [sizeLine_eq]; decide))
  | int i =>
    cases ey
    obtain ⟨t, rfl⟩ := r1
    obtain ⟨h1, h2⟩ := fv
    exact wpAny_formatField_int (Nat.lt_of_le_of_lt (Nat.log2_le_self _) (by omega)) ⟨.str (toString i), H1, I1.tok _, ⟨_, rfl⟩, q⟩
  | non =>
    cases ey
    cases r1
    exact wpAny_formatField_none ⟨.str "None", H1, I1.tok _, ⟨_, rfl⟩, q⟩
  | bl b => exact fv.elim
  | byt b => exact fv.elim
  | flt b => exact fv.elim
  | ref a => exact fv.elim
  | ty n => exact fv.elim
def sp_init (K : PySem.W.Frag) (C : Addr) (fld : Str) : Sp := fun vs H Q _ => ∃ (a : Addr) (v : V), vs = [.ref a, v] ∧ FmtV v ∧ OexC K C ∧ PySem.W.findIn K (.ref C) fld = some none ∧ H a = some (exo a C none) ∧ ∀ d, H d = none → d ≠ a → Q .non (upd (upd H d (exd d [(fld, v)])) a (exo a C (some d)))
structure ErrI (P : Program) (w : World) (K : PySem.W.Frag) (mg : Str → Option Value) (base : Heap) (x fld : Str) (C : Addr) : Prop extends ErrC K mg x C where
  ox : OexC K C
  nof : PySem.W.findIn K (.ref C) fld = some none
  ini : ∃ fI fd, PySem.W.findIn K (.ref C) "__init__" = some (some (.ref fI)) ∧ PySem.W.typeIn K (.ref fI) = some (.type "function") ∧ Binds K fd ["self", fld] [] ∧ FnOk P w K mg base CX0 2 fI fd ["self", fld] (sp_init K C fld)
def tMk1 (C : Addr) (fld : Str) (te : TE) : L2.St → Hp → XK → Prop := fun σ H Q => te σ H fun v H1 => FmtV v ∧ ∀ d, H1 d = none → Q (.ref C) (some d) (upd H1 d (.xd [(fld, v)]))
theorem exo_ne_exd {e C : Addr} {d : Option Addr} : True := trivial
theorem pmk_one {X : Cx} {x fld : Str} {C : Addr} {e : Expr} {te : TE} {p pos : Pos} {kk : Nat} (T : ErrI X.prog X.w X.K X.mg X.base x fld C) (hr : Room kk X.A) (h3 : 3 ≤ kk) (hg : Gl X x) (he : PE X e te)
    (mono : ∀ {σ H} {Q Q' : VK}, te σ H Q → (∀ v H', Q v H' → Q' v H') → te σ H Q')
    (hdb : (x == ("__debug__" : Str)) = false := by decide) (hs : starEach (e :: []) X.env = (false, eval e X.env) :: starEach [] X.env := by rfl) (hpl : (backTo pos (starEach [] X.env)).any (·.1) = false := by rfl) :
    PMk X (.Call (.Name x p) [e] [] pos) (tMk1 C fld te) := by
  obtain ⟨fI, fd, h1, h2, hb, F⟩ := T.ini
  have M := pmk_oex (p := p) T.ox h1 h2 F (hr.mono h3) hb .nil (pass0 (X := X)) hg T.g (pa_cons he pa_nil hs) hdb hs hpl
  intro pins s σ H Q I h
  refine M pins s σ H Q I ?_
  refine mono (σ := σ) (H := H) h fun v H1 ⟨fv, q⟩ => ?_
  refine ⟨by show 1 ≤ 1000; decide, fun a na => ⟨a, v, rfl, fv, T.ox, T.nof, upd_same, fun d hd hda => ⟨rfl, d, [(fld, v)], upd_same, ?_, ?_, ?_⟩⟩⟩
  · rw [upd_ne hda, upd_same]
  · rw [upd_ne hda] at hd; exact hd
  · have nd : H1 d = none := by rw [upd_ne hda] at hd; exact hd
    have eH : upd (del (upd (upd (upd H1 a (exo a C none)) d (exd d [(fld, v)])) a (exo a C (some d))) a) d (.xd [(fld, v)]) = upd H1 d (.xd [(fld, v)]) := by
      funext b
      by_cases hb1 : b = d
      · rw [hb1, upd_same, upd_same]
      · rw [upd_ne hb1, upd_ne hb1]
        by_cases hb2 : b = a
        · rw [hb2, del_same, na]
        · rw [del_ne hb2, upd_ne hb2, upd_ne hb1, upd_ne hb2]
    rw [eH]
    exact q d nd
theorem tVar_mono {i : Nat} {σ : L2.St} {H : Hp} {Q Q' : VK} (h : tVar i σ H Q) (z : ∀ v H', Q v H' → Q' v H') : tVar i σ H Q' := by
  obtain ⟨v, e, q⟩ := h
  exact ⟨v, e, z _ _ q⟩
theorem tC_mono {u : V} {σ : L2.St} {H : Hp} {Q Q' : VK} (h : tC u σ H Q) (z : ∀ v H', Q v H' → Q' v H') : tC u σ H Q' := z _ _ h

/-! ### the error classes of a law -/
structure ErrT (K : PySem.W.Frag) (mg : Str → Option Value) (ad : Str → Addr) (asked plain : List Str) : Prop where
  cls : ∀ x ∈ asked, ErrC K mg x (ad x)
  pl : ∀ x ∈ plain, PySem.W.excIn K (ad x) veB "ValueError.__new__" = true
  sub : ∀ x ∈ plain, x ∈ asked
  kit : ∀ x ∈ asked, ∀ y ∈ asked, PySem.W.kitOne K (.ref (ad x)) (.ref (ad y)) = some (decide (x = y))
  top : mg "ClockError" = some (.ref (ad "ClockError"))
  exm : ∀ x ∈ asked, PySem.W.exmOne K (.ref (ad x)) (.ref (ad "ClockError")) = some true
theorem ErrT.p {K : PySem.W.Frag} {mg : Str → Option Value} {ad : Str → Addr} {asked plain : List Str} (T : ErrT K mg ad asked plain) {x : Str} (h : x ∈ plain) : ErrP K mg x (ad x) := { T.cls x (T.sub x h) with ex := T.pl x h }
/-- raise X('..') -/
theorem ps_raiseT {X : Cx} {W : WX} {ad : Str → Addr} {asked plain : List Str} {x m : Str} {j : Nat} {p p2 pos pos2 : Pos} (hc : X.calm = true) (tk : Takes X W) (T : ErrT X.K X.mg ad asked plain) (h : x ∈ plain) (hg : Gl X x) (hdb : (x == ("__debug__" : Str)) = false := by decide) :
    PS X (.Raise (some (.Call (.Name x p) [.Constant (.str m) j p2] [] pos)) none pos2) (fun _ σ H => W (.ref (ad x)) none σ H) := ps_raise hc tk (pmk_txt (T.p h) hg hdb)
end LX
-- P1
namespace LC
variable [Tbl]
/-! plans: what fits, the first wrong tick -/
def tchAt (tch : List (List Int)) (p : Int) : List (List Int) := (tch.filter fun t => decide (t[0]?.getD 0 = p)).map (·.drop 1)
def nd (bok : List (List Int)) (i a j : Int) : Int := ((bok.filter (entOk i a j)).map fun t => t[3]?.getD 0).foldl max 0
theorem fm_ge : ∀ (xs : List Int) (m : Int), m ≤ xs.foldl max m ∧ ∀ x ∈ xs, x ≤ xs.foldl max m
  | [], m => ⟨Int.le_refl _, fun _ h => nomatch h⟩
  | y :: xs, m => by
    obtain ⟨h1, h2⟩ := fm_ge xs (max m y)
    refine ⟨by show m ≤ xs.foldl max (max m y); omega, fun x hx => ?_⟩
    show x ≤ xs.foldl max (max m y)
    rcases List.mem_cons.mp hx with rfl | hx
    · omega
    · exact h2 x hx
theorem fm_mem : ∀ (xs : List Int) (m : Int), xs.foldl max m = m ∨ xs.foldl max m ∈ xs
  | [], m => .inl rfl
  | y :: xs, m => by
    show xs.foldl max (max m y) = m ∨ xs.foldl max (max m y) ∈ y :: xs
    rcases fm_mem xs (max m y) with h | h
    · by_cases z : m ≤ y
      · exact .inr (by rw [h, Int.max_eq_right z]; exact List.mem_cons_self)
      · exact .inl (by rw [h]; omega)
    · exact .inr (List.mem_cons_of_mem _ h)
theorem nd_ln (bok : List (List Int)) (i a j : Int) : LN bok i a j (nd bok i a j) := by
  refine ⟨fun t ht ho => ?_, ?_⟩
  · exact (fm_ge _ 0).2 _ (List.mem_map.mpr ⟨t, List.mem_filter.mpr ⟨ht, ho⟩, rfl⟩)
  · rcases fm_mem ((bok.filter (entOk i a j)).map fun t => t[3]?.getD 0) 0 with h | h
    · exact .inl h
    · obtain ⟨t, ht, e⟩ := List.mem_map.mp h
      obtain ⟨h1, h2⟩ := List.mem_filter.mp ht
      exact .inr ⟨t, h1, h2, e⟩
theorem LN.nd {bok : List (List Int)} {eds : List Int} {i a j m : Int} (hb : ∀ t ∈ bok, BokOk eds t) (h : LN bok i a j m) : m = LC.nd bok i a j := h.uniq hb (nd_ln ..)
theorem nd_pos (bok : List (List Int)) (i a j : Int) : 0 ≤ nd bok i a j := (fm_ge _ 0).1
theorem nd_zero {bok : List (List Int)} {eds : List Int} {i j : Int} (hb : ∀ t ∈ bok, BokOk eds t) : nd bok i 0 j = 0 := by
  rcases (nd_ln bok i 0 j).2 with h | ⟨t, ht, ho, _⟩
  · exact h
  · obtain ⟨i1, a, j1, b, rfl, _, _, _, _, _, h6, _⟩ := hb t ht
    unfold entOk at ho
    rw [Bool.and_eq_true] at ho
    have : a ≤ 0 := of_decide_eq_true ho.2
    omega
/-- the edition that stands -/
def sg (st : List Int) (i : Int) : Int := st[i.toNat]?.getD 0
def fits (bok : List (List Int)) (st : List Int) (i j : Int) : Bool := decide (nd bok i (sg st i) j ≤ sg st j) && decide (nd bok j (sg st j) i ≤ sg st i)
def unfit (bok : List (List Int)) (st : List Int) (p : List Int) : Bool := !fits bok st (p[0]?.getD 0) (p[1]?.getD 0)
def badOf (bok : List (List Int)) (st : List Int) (tch : List (List Int)) (ph : Int) : List (List Int) := (tchAt tch ph).filter (unfit bok st)
def badAt (k : Clk) (st : List Int) (t : Int) : List (List Int) := badOf k.bok st k.tch (t % k.per)
theorem bad_no {bok : List (List Int)} {st : List Int} {tch : List (List Int)} {ph : Int} {n : Nat} {t : List Int} (e : tch[n]? = some t) (h : t[0]?.getD 0 ≠ ph) : badOf bok st (tch.take (n + 1)) ph = badOf bok st (tch.take n) ph := by
  unfold badOf tchAt
  rw [filt_no e (decide_eq_false h)]
theorem bad_fit {bok : List (List Int)} {st : List Int} {tch : List (List Int)} {ph : Int} {n : Nat} {t : List Int} (e : tch[n]? = some t) (h : t[0]?.getD 0 = ph) (u : unfit bok st (t.drop 1) = false) : badOf bok st (tch.take (n + 1)) ph = badOf bok st (tch.take n) ph := by
  unfold badOf tchAt
  rw [filt_yes e (decide_eq_true h), List.map_append, List.filter_append]
  show _ ++ [t.drop 1].filter (unfit bok st) = _
  rw [List.filter_cons_of_neg (by rw [u]; exact Bool.false_ne_true), List.filter_nil, List.append_nil]
theorem bad_yes {bok : List (List Int)} {st : List Int} {tch : List (List Int)} {ph : Int} {n : Nat} {t : List Int} (e : tch[n]? = some t) (h : t[0]?.getD 0 = ph) (u : unfit bok st (t.drop 1) = true) : badOf bok st (tch.take (n + 1)) ph = badOf bok st (tch.take n) ph ++ [t.drop 1] := by
  unfold badOf tchAt
  rw [filt_yes e (decide_eq_true h), List.map_append, List.filter_append]
  show _ ++ [t.drop 1].filter (unfit bok st) = _
  rw [List.filter_cons_of_pos u, List.filter_nil]
theorem badOf_len {bok : List (List Int)} {st : List Int} {tch : List (List Int)} {ph : Int} : (badOf bok st tch ph).length ≤ tch.length := by
  unfold badOf tchAt
  exact Nat.le_trans (List.length_filter_le _ _) (by rw [List.length_map]; exact List.length_filter_le _ _)
def stand (pl : List (List Int)) (t : Int) : List Int := pl.map fun ts => (((ts.filter fun x => decide (x ≤ t)).length : Nat) : Int)
theorem stand_len (pl : List (List Int)) (t : Int) : (stand pl t).length = pl.length := by unfold stand; rw [List.length_map]
theorem stand_get {pl : List (List Int)} {t : Int} {i : Nat} {ts : List Int} (e : pl[i]? = some ts) : (stand pl t)[i]? = some (((ts.filter fun x => decide (x ≤ t)).length : Nat) : Int) := by
  unfold stand; rw [List.getElem?_map, e]; rfl
theorem stand_same {pl : List (List Int)} {s t : Int} (h : s ≤ t) (hn : ∀ ts ∈ pl, ∀ x ∈ ts, s < x → t < x) : stand pl t = stand pl s := by
  unfold stand
  refine List.map_congr_left fun ts hts => ?_
  have e : ts.filter (fun x => decide (x ≤ t)) = ts.filter fun x => decide (x ≤ s) := List.filter_congr fun x hx => by
    have := hn ts hts x hx
    by_cases z : x ≤ s
    · rw [decide_eq_true z, decide_eq_true (by omega)]
    · rw [decide_eq_false z, decide_eq_false (by have := this (by omega); omega)]
  rw [e]
theorem bad_stand0 {k : Clk} {pl : List (List Int)} {t u : Int} (hb : ∀ e ∈ k.bok, BokOk k.eds e) (hn : ∀ ts ∈ pl, ∀ x ∈ ts, t < x) : badAt k (stand pl t) u = [] := by
  have e : ∀ i : Int, sg (stand pl t) i = 0 := fun i => by
    unfold sg
    cases z : pl[i.toNat]? with
    | none => rw [List.getElem?_eq_none (by rw [stand_len]; exact List.getElem?_eq_none_iff.mp z)]; rfl
    | some ts =>
      rw [stand_get z]
      have : ts.filter (fun x => decide (x ≤ t)) = [] := List.filter_eq_nil_iff.mpr fun x hx => by
        have := hn ts (List.mem_of_getElem? z) x hx
        rw [decide_eq_false (by omega)]; exact Bool.false_ne_true
      rw [this]; rfl
  unfold badAt badOf
  refine List.filter_eq_nil_iff.mpr fun p _ => ?_
  unfold unfit fits
  rw [e, e, nd_zero hb, nd_zero hb]
  decide
structure PlOk (k : Clk) (pl : List (List Int)) : Prop where
  len : pl.length = k.eds.length
  row : ∀ (i : Nat) (ts : List Int), pl[i]? = some ts → (ts.length : Int) = k.eds[i]?.getD 0 ∧ (∀ x ∈ ts, 0 ≤ x ∧ x ≤ 100000 ∧ x % k.per ∈ k.gps[i]?.getD []) ∧ ts.Pairwise (· < ·)
theorem PlOk.bd {k : Clk} {pl : List (List Int)} (h : PlOk k pl) : ∀ ts ∈ pl, ∀ x ∈ ts, 0 ≤ x ∧ x ≤ 100000 := fun ts hts x hx => by
  obtain ⟨i, hi⟩ := List.mem_iff_getElem?.mp hts
  obtain ⟨_, h2, _⟩ := h.row i ts hi
  exact ⟨(h2 x hx).1, (h2 x hx).2.1⟩
def FB (k : Clk) (pl : List (List Int)) : Option Int → Prop
  | none => ∀ t, 0 ≤ t → badAt k (stand pl t) t = []
  | some t => 0 ≤ t ∧ badAt k (stand pl t) t ≠ [] ∧ ∀ u, 0 ≤ u → u < t → badAt k (stand pl u) u = []
theorem FB.uniq {k : Clk} {pl : List (List Int)} {r s : Option Int} (h : FB k pl r) (g : FB k pl s) : r = s := by
  cases r with
  | none =>
    cases s with
    | none => rfl
    | some t => exact absurd (h t g.1) g.2.1
  | some t =>
    cases s with
    | none => exact absurd (g t h.1) h.2.1
    | some u =>
      rcases Int.lt_trichotomy t u with z | z | z
      · exact absurd (g.2.2 t h.1 z) h.2.1
      · rw [z]
      · exact absurd (h.2.2 u g.1 z) g.2.1
/-- nothing is wrong ahead of the moment at p -/
def Pre (k : Clk) (pl : List (List Int)) (ms : List Int) (p : Nat) : Prop := ∀ t, 0 ≤ t → (∀ m, ms[p]? = some m → t < m) → badAt k (stand pl t) t = []
section
variable {k : Clk} {pl : List (List Int)} {ms : List Int}
theorem first_le (hp : ms.Pairwise (· < ·)) {p q : Nat} {m x : Int} (h : p ≤ q) (e : ms[p]? = some m) (f : ms[q]? = some x) : m ≤ x := by
  obtain ⟨h1, e1⟩ := List.getElem?_eq_some_iff.mp e
  obtain ⟨h2, e2⟩ := List.getElem?_eq_some_iff.mp f
  by_cases z : p = q
  · subst z; rw [← e1, ← e2]; exact Int.le_refl _
  · have := List.pairwise_iff_getElem.mp hp p q h1 h2 (by omega)
    rw [e1, e2] at this; exact Int.le_of_lt this
theorem pre_zero (hb : ∀ e ∈ k.bok, BokOk k.eds e) (hp : ms.Pairwise (· < ·)) (hm : ∀ ts ∈ pl, ∀ x ∈ ts, x ∈ ms) : Pre k pl ms 0 := fun t _ h2 => by
  refine bad_stand0 hb fun ts hts x hx => ?_
  obtain ⟨q, hq⟩ := List.mem_iff_getElem?.mp (hm ts hts x hx)
  cases z : ms[0]? with
  | none => rw [List.getElem?_eq_none_iff] at z; have := (List.getElem?_eq_some_iff.mp hq).1; omega
  | some m => have := h2 m z; have := first_le hp (Nat.zero_le q) z hq; omega
/-- between two moments the editions stand still -/
theorem stand_mid (hp : ms.Pairwise (· < ·)) (hm : ∀ ts ∈ pl, ∀ x ∈ ts, x ∈ ms) {p : Nat} {m t : Int} (e : ms[p]? = some m) (h1 : m ≤ t) (h2 : ∀ m2, ms[p + 1]? = some m2 → t < m2) : stand pl t = stand pl m := by
  refine stand_same h1 fun ts hts x hx hlt => ?_
  obtain ⟨q, hq⟩ := List.mem_iff_getElem?.mp (hm ts hts x hx)
  have hpq : p < q := by
    by_cases z : p < q
    · exact z
    · have := first_le hp (Nat.le_of_not_lt z) hq e; omega
  have hl : p + 1 < ms.length := by have := (List.getElem?_eq_some_iff.mp hq).1; omega
  have e2 := List.getElem?_eq_getElem hl
  have := h2 _ e2
  have := first_le hp (show p + 1 ≤ q by omega) e2 hq
  omega
theorem pre_step (hper : 1 ≤ k.per) (hp : ms.Pairwise (· < ·)) (hm : ∀ ts ∈ pl, ∀ x ∈ ts, x ∈ ms) {p : Nat} {m e : Int} (h : Pre k pl ms p) (em : ms[p]? = some m) (h1 : e = m + k.per ∨ ms[p + 1]? = some e)
    (hin : ∀ t, m ≤ t → t < e → badAt k (stand pl m) t = []) : Pre k pl ms (p + 1) := fun t h0 hn => by
  by_cases z : t < m
  · exact h t h0 fun m' e' => by rw [em] at e'; cases e'; exact z
  · rw [stand_mid hp hm em (by omega) hn]
    by_cases z2 : t < e
    · exact hin t (by omega) z2
    · rcases h1 with h1 | h1
      · have hd : 0 ≤ (t - m) % k.per ∧ (t - m) % k.per < k.per := ⟨Int.emod_nonneg _ (by omega), Int.emod_lt_of_pos _ (by omega)⟩
        have := hin (m + (t - m) % k.per) (by omega) (by omega)
        unfold badAt at this ⊢
        have e3 : (m + (t - m) % k.per) % k.per = t % k.per := by
          rw [Int.add_emod, Int.emod_emod_of_dvd _ (Int.dvd_refl _), ← Int.add_emod]; congr 1; omega
        rw [e3] at this
        exact this
      · have := hn e h1; omega
theorem pre_hit (hp : ms.Pairwise (· < ·)) (hm : ∀ ts ∈ pl, ∀ x ∈ ts, x ∈ ms) {p : Nat} {m t : Int} (h : Pre k pl ms p) (em : ms[p]? = some m) (m0 : 0 ≤ m) (h1 : m ≤ t) (h2 : ∀ m2, ms[p + 1]? = some m2 → t < m2)
    (hin : ∀ u, m ≤ u → u < t → badAt k (stand pl m) u = []) (hb : badAt k (stand pl m) t ≠ []) : FB k pl (some t) := by
  refine ⟨by omega, by rw [stand_mid hp hm em h1 h2]; exact hb, fun u u0 hu => ?_⟩
  by_cases z : u < m
  · exact h u u0 fun m' e' => by rw [em] at e'; cases e'; exact z
  · rw [stand_mid hp hm em (by omega) fun m2 e2 => by have := h2 m2 e2; omega]
    exact hin u (by omega) hu
theorem pre_end (h : Pre k pl ms ms.length) : FB k pl none := fun t h0 => h t h0 fun m e => by
  have := (List.getElem?_eq_some_iff.mp e).1; omega
theorem fb_none {last : Int} (hper : 1 ≤ k.per) (h0 : 0 ≤ last) (hl : ∀ ts ∈ pl, ∀ x ∈ ts, x ≤ last) (h : ∀ u, 0 ≤ u → u < last + k.per + 1 → badAt k (stand pl u) u = []) : FB k pl none := fun t t0 => by
  by_cases z : t < last + k.per + 1
  · exact h t t0 z
  · have hd : 0 ≤ (t - last) % k.per ∧ (t - last) % k.per < k.per := ⟨Int.emod_nonneg _ (by omega), Int.emod_lt_of_pos _ (by omega)⟩
    have e1 : ∀ u, last ≤ u → stand pl u = stand pl last := fun u hu => stand_same hu fun ts hts x hx hlt => by have := hl ts hts x hx; omega
    have := h (last + (t - last) % k.per) (by omega) (by omega)
    rw [e1 _ (by omega)] at this
    rw [e1 _ (by omega)]
    unfold badAt at this ⊢
    have e3 : (last + (t - last) % k.per) % k.per = t % k.per := by
      rw [Int.add_emod, Int.emod_emod_of_dvd _ (Int.dvd_refl _), ← Int.add_emod]; congr 1; omega
    rw [e3] at this
    exact this
theorem stand_far (ok : PlOk k pl) {t : Int} (h : 100000 ≤ t) : stand pl t = k.eds := by
  refine List.ext_getElem? fun i => ?_
  cases z : pl[i]? with
  | none =>
    have hl := List.getElem?_eq_none_iff.mp z
    rw [List.getElem?_eq_none (by rw [stand_len]; exact hl), List.getElem?_eq_none (by rw [← ok.len]; exact hl)]
  | some ts =>
    rw [stand_get z]
    obtain ⟨h1, h2, _⟩ := ok.row i ts z
    have e : ts.filter (fun x => decide (x ≤ t)) = ts := List.filter_eq_self.mpr fun x hx => decide_eq_true (by have := (h2 x hx).2.1; omega)
    have hl : i < k.eds.length := by rw [← ok.len]; exact (List.getElem?_eq_some_iff.mp z).1
    rw [e, h1, List.getElem?_eq_getElem hl]; rfl
end
end LC
-- S1
namespace LC
open PySem PySem.Spec PyProof.Rows L2
/-! set(xs), sorted(set(xs)) of a list of whole numbers -/
/-- what stands at a set that has nothing yet -/
abbrev void (w : World) : Obj := { cls := .type "set", dict := none, data := .set #[] 0 (.fresh 0 0 (!w.params.followText "set-order")) }
section
variable {P : Program} {w : World} {A : Around} {E : Value → Shared → Prop} {s : Shared}
theorem set_of_list {la : Addr} {cells : Array Value} {qs : List Int} {R : Value → Shared → Prop} (nh : A.handled = none) (hla : s.heap.IsList la cells) (are : IntsAre cells.toList qs) (few : qs.length + 1 < scanBound)
    (fin : ∀ (g : Heap) (tk c : Nat), SetR w g s.heap.objs.size (fun j => decide (j ∈ qs)) c → c ≤ qs.length → (∀ b u, s.heap.get? b = some u → g.get? b = some u) → R (.ref s.heap.objs.size) { s with heap := g, toks := tk }) :
    wpAny (model P w) A (call (.type "set") [.ref la]) R E s := by
  have n1 : cells.size = qs.length := by have z := IntsAre.length are; rw [Array.length_toList] at z; exact z
  obtain ⟨c0, tl0, mro0⟩ := F.called_set.mro
  have k1 := F.called_set.made; have k2 := F.called_set.sub
  apply wpAny_call; apply codeAny_of_tree
  show wpAny (model P w) _ (callAny (.type "set") _) _ E s
  apply wpAny_pure; refine ⟨Code.quiet_builtin _ (by decide +kernel), ?_⟩; apply codeAny_builtin F.entry_type_call
  rw [Around.under_plain (weight_type_call_type "set" [.ref la] []) rfl]
  have k3 := F.called_set.notType; have k4 := F.called_set.canCreate; have k5 := F.typeCall_set_1 (.ref la)
  repeat any_goals (first | assumption | wp_step)
  apply codeAny_mono (code_set_led1 (.ref la) (E := E) (Q₁ := fun x s1 => x = .ref s.heap.objs.size ∧ s1 = { s with heap := s.heap.push (void w) }) ⟨rfl, rfl⟩)
  intro r s1 hr
  match r, hr with
  | .error e, hr => exact hr
  | .ok (.ret x), hr =>
    obtain ⟨rfl, rfl⟩ := hr
    have g0 : (s.heap.push (void w)).get? s.heap.objs.size = some (void w) := Heap.get?_push_size _ rfl
    have ty : Shared.TypeIs { s with heap := s.heap.push (void w) } (.ref s.heap.objs.size) "set" := ⟨_, g0, rfl⟩
    have k6 := F.called_set.init.lookup; have k7 := F.called_set.init.bind (.ref s.heap.objs.size)
    repeat any_goals (first | assumption | wp_step)
    apply codeAny_mono (codeAny_call_builtin (R := wants (fun y s2 => y = .none ∧ ∃ g tk c, s2 = { s with heap := g, toks := tk } ∧ SetR w g s.heap.objs.size (fun j => decide (j ∈ qs)) c ∧ c ≤ qs.length ∧
      ∀ b u, s.heap.get? b = some u → g.get? b = some u) E) F.called_set.init.plain F.entry_set_init (check_set_init_1 ty ?body))
    case body =>
      obtain ⟨⟨oc, od, da, sl⟩, ho, hc, m, hd⟩ := hla
      dsimp only at hc hd
      subst hc hd
      have ho2 : (s.heap.push (void w)).get? la = some { cls := .type "list", dict := od, data := .seq cells m, slots := sl } := Heap.get?_push_of_some _ ho
      have k8 := F.sub_list_set; have k9 := F.sub_list_frozenset
      have k10 : (Value.type "list" == Value.type "dict") = false := by decide +kernel
      have at1 : (s.heap.push (void w)).IsList la cells := ⟨_, ho2, rfl, m, rfl⟩
      unfold Builtin.«set.__init__» noKeywords Builtin.Frozenset.updateFrom
      generalize hit : pyIter = it
      wp_walk
      subst hit
      apply wpAny_pyIter_list at1; apply wpAny_bind; apply wpAny_runValue
      have lt1 : la < s.heap.objs.size := Heap.lt_size ho
      have nh3 : A.in1.in1.in1.handled = none := by simp [nh]
      have sz : (s.heap.push (void w)).objs.size = s.heap.objs.size + 1 := by rw [Heap.size_push]
      have ne1 : la ≠ (s.heap.push (void w)).objs.size := by rw [sz]; exact Nat.ne_of_lt (Nat.lt_succ_of_lt lt1)
      have out1 : s.heap.objs.size ∉ [(s.heap.push (void w)).objs.size, la] := by
        rw [sz]; intro z; simp only [List.mem_cons, List.not_mem_nil, or_false] at z
        rcases z with z | z
        · exact absurd z (Nat.ne_of_lt (Nat.lt_succ_self _))
        · exact absurd z (Nat.ne_of_gt lt1)
      have val1 : ∀ (i : Nat) (v : Value), cells[i]? = some v → ∃ k t, qs[i]? = some k ∧ v = .int k t := by
        intro i v hv
        have hi : i < qs.length := by rw [← n1]; exact (Array.getElem?_eq_some_iff.mp hv).1
        obtain ⟨t, e⟩ := IntsAre.int_at are i v (by rw [Array.getElem?_toList]; exact hv)
        refine ⟨qs[i], t, List.getElem?_eq_getElem hi, e.trans ?_⟩
        rw [List.getD_eq_getElem?_getD, List.getElem?_eq_getElem hi]; rfl
      refine set_update_ints (Walks.list nh3 _ la ne1 cells).toS s.heap.objs.size out1 qs n1 few val1 (cells.size - 0) 0 _ (by omega) (Nat.zero_le _) ⟨⟨_, Heap.get?_push_size _ rfl, rfl, rfl⟩, at1.push _⟩ ?s0 ?s1
      case s0 =>
        refine ⟨0, Nat.le_refl 0, setR_new_at ?_⟩
        exact Heap.get?_push_of_some _ g0
      case s1 =>
        rintro ⟨g, ge, dr, tk, os⟩ c mv hc hS
        have q1 : ge = s.gens := mv.gens; have q2 : dr = s.drawn := mv.drawn; have q3 : os = s.os := mv.os
        subst q1 q2 q3
        show wpAny (model P w) _ _ _ E _
        apply wpAny_pure
        show wpAny (model P w) _ (ret Value.none) _ E _
        rw [n1] at hc
        refine wpAny_pure ⟨rfl, g, tk, c, rfl, hS, hc, fun b u hb => ?_⟩
        have lb : b < s.heap.objs.size := Heap.lt_size hb
        apply mv.heap b u
        · intro z; rw [sz] at z; simp only [List.mem_cons, List.not_mem_nil, or_false] at z
          rcases z with z | z
          · exact absurd z (Nat.ne_of_lt lb)
          · exact absurd z (Nat.ne_of_lt (Nat.lt_succ_of_lt lb))
        · exact Heap.get?_push_of_some _ (Heap.get?_push_of_some _ hb)
    intro y s2 hy
    match y, hy with
    | .error e, hy => exact hy
    | .ok (.ret z), hy =>
      obtain ⟨rfl, g, tk, c, rfl, hS, hc, hk⟩ := hy
      repeat any_goals (first | assumption | wp_step)
      exact fin g tk c hS hc hk
end
/-- set(xs) -/
def rSetI (K : PySem.W.Frag) (w : World) : List V → Hp → VK → Prop := fun vs H Q => ∃ (a : Addr) (qs : List Int), vs = [.ref a] ∧ SqL K H a (qs.map V.int) ∧ qs.length ≤ 1000 ∧ ∀ p n, H p = none → n ≤ qs.length → Q (.ref p) (upd H p (SetO w p (fun j => decide (j ∈ qs)) n))
theorem cr_setI {X : Cx} (hc : X.calm = true) : CallR X (.type "set") (rSetI X.K X.w) := by
  intro pins s σ H vs us Q I r h
  obtain ⟨a, qs, rfl, hs, hn, q⟩ := h
  obtain ⟨its, rv, pl, hz⟩ := I.list hs
  rw [Vals.ref1 r]
  refine set_of_list (I.ok.hd hc) pl.isList (qs := qs) (by simpa using rv.ints) (by unfold scanBound; omega) fun g tk c hS hcn k => ?_
  exact ⟨.ref s.heap.objs.size, _, I.laid (t' := tk) k (Nat.le_refl _) (setO_new hS), rfl, q _ c (I.hok.fresh (Nat.le_refl _)) hcn⟩
end LC
namespace LC
open PySem PySem.Spec PyProof.Rows L2
theorem crW {X : Cx} {w : World} (r : World → List V → Hp → VK → Prop) {f : Value} (h : CallR X f (r X.w)) (e : X.w = w) : CallR X f (r w) := e ▸ h
theorem crKW {X : Cx} {K : PySem.W.Frag} {w : World} (r : PySem.W.Frag → World → List V → Hp → VK → Prop) {f : Value} (h : CallR X f (r X.K X.w)) (e : X.K = K) (e2 : X.w = w) : CallR X f (r K w) := e2 ▸ e ▸ h
end LC
-- P2
namespace LC
variable [Tbl]
open PySem PySem.Spec PyProof.Rows L2 GenW RZ
theorem getI {ns : List Int} {i : Nat} {x : V} (e : (ns.map V.int)[i]? = some x) : ∃ n, ns[i]? = some n ∧ V.int n = x := by
  rw [List.getElem?_map] at e
  cases z : ns[i]? with
  | none => rw [z] at e; cases e
  | some n => rw [z] at e; cases e; exact ⟨n, rfl, rfl⟩
theorem getV {ns : List Int} {i : Nat} {n : Int} (e : ns[i]? = some n) : (ns.map V.int)[i]? = some (.int n) := by rw [List.getElem?_map, e]; rfl
/-- a plan, as the heap holds it -/
structure PlnAt (H : Hp) (v : V) (pl : List (List Int)) : Prop where
  ex : ∃ (a : Addr) (rs : List V), v = .ref a ∧ H a = some (.tup rs) ∧ Rows H rs pl
theorem PlnAt.x {S : Addr → Prop} {H H1 : Hp} {v : V} {pl : List (List Int)} (h : PlnAt H v pl) (x : Xt S H H1) : PlnAt H1 v pl := by
  obtain ⟨a, rs, h1, h2, h3⟩ := h.ex
  exact ⟨a, rs, h1, x.tups _ _ h2, h3.x x⟩
theorem flat_ints (ns : List Int) : (ns.map V.int).all flatV = true := by
  rw [List.all_map, List.all_eq_true]; exact fun _ _ => rfl
theorem inV_ints {n : Int} : ∀ {ns : List Int}, inV (.int n) (ns.map V.int) = decide (n ∈ ns)
  | [] => rfl
  | m :: ns => by
    show (eqV (.int m) (.int n) || inV (.int n) (ns.map V.int)) = _
    rw [inV_ints]
    show ((m == n) || decide (n ∈ ns)) = _
    rw [Bool.beq_eq_decide_eq, ← Bool.decide_or]
    exact decide_eq_decide.mpr (by rw [List.mem_cons]; exact ⟨fun h => h.imp Eq.symm id, fun h => h.imp Eq.symm id⟩)
theorem PlOk.few {k : Clk} {pl : List (List Int)} (ok : k.Ok) (h : PlOk k pl) {i : Nat} {ts : List Int} (e : pl[i]? = some ts) : ts.length ≤ 4 := by
  obtain ⟨h1, _⟩ := h.row i ts e
  cases z : k.eds[i]? with
  | none => rw [z] at h1; have : (ts.length : Int) = 0 := h1; omega
  | some l => rw [z] at h1; have : (ts.length : Int) = l := h1; have := ok.eds l (List.mem_of_getElem? z); omega
def rInS (K : PySem.W.Frag) : R2 := fun x y H Q => rIn K false x y H Q
theorem op_inS {X : Cx} : OpR X (compareOp .In) (rInS X.K) := op_in_seq
def rNinS (K : PySem.W.Frag) : R2 := fun x y H Q => rIn K true x y H Q
theorem op_ninS {X : Cx} : OpR X (compareOp .NotIn) (rNinS X.K) := op_notIn_seq
end LC
namespace LC
variable [Tbl]
open PySem PySem.Spec PyProof.Rows L2 GenW RZ
theorem for_enumL {K : PySem.W.Frag} {a : Addr} {xs : List V} {g : TG} {tb : TS} {D : Ends} {σ : L2.St} {H : Hp} (Pv : Nat → L2.St → Hp → Prop) (h0 : Pv 0 σ H) (hl : ∀ i σ H, i ≤ xs.length → Pv i σ H → SqL K H a xs)
    (hs : ∀ i x T σ H, xs[i]? = some x → Pv i σ H → H T = none → g (.ref T) σ (upd H T (.tup [.int (i : Nat), x])) fun σ2 H2 => tb { D with nx := Pv (i + 1), ct := Pv (i + 1), bk := D.nx } σ2 H2) (hd : ∀ σ H, Pv xs.length σ H → D.nx σ H) :
    ∃ W : Nat → Nat → L2.St → Hp → Prop, (∃ m, W 0 m σ H) ∧ ∀ i m σ H, W i m σ H →
      ((Ite K a).stop i H ∧ D.nx σ H) ∨ ((Ite K a).go i H ∧ ∃ N : L2.St → Hp → Prop, (∀ σ' H', N σ' H' → ∃ m', m' < m ∧ W (i + 1) m' σ' H') ∧ ∀ x H', (Ite K a).yld i H x H' → g x σ H' fun σ2 H2 => tb { D with nx := N, ct := N, bk := D.nx } σ2 H2) := by
  refine ⟨fun i m σ H => m = xs.length - i ∧ i ≤ xs.length ∧ Pv i σ H, ⟨xs.length, by simp, Nat.zero_le _, h0⟩, ?_⟩
  rintro i m σ H ⟨rfl, hi, p⟩
  have q := hl i σ H hi p
  by_cases hlt : i < xs.length
  · refine .inr ⟨⟨xs, xs[i], q, by simp [hlt]⟩, Pv (i + 1), fun σ' H' p' => ⟨xs.length - (i + 1), by omega, rfl, hlt, p'⟩, fun x H' y => ?_⟩
    obtain ⟨T, u, rfl, hT, rfl, e1⟩ := y
    exact hs i u T σ H (e1 xs q) p hT
  · have e : i = xs.length := by omega
    subst e
    exact .inl ⟨⟨xs, q, Nat.le_refl _⟩, hd σ H p⟩
end LC
namespace LC
variable [Tbl]
open PySem
/-- the scope of the comprehension that a def returns -/
def retScope : List Stmt → Scope
  | [.Return (some (.ListComp _ _ sc _)) _] => sc
  | [.Return (some (.Call _ (.ListComp _ _ sc _ :: _) _ _)) _] => sc
  | _ => ⟨.function, [], false, false, []⟩
end LC
namespace LC
variable [Tbl]
open PySem PySem.Spec PyProof.Rows L2
theorem relab {env : Env} {y : Str} : ∀ {ns : List (Str × NameKind)}, (ns.lookup y = some .cell ∨ ns.lookup y = some .free) → ∀ g : Str × NameKind → Str × NameKind, (∀ p, g p = p ∨ (p.2 = .free ∧ g p = (p.1, .cell))) → ((ns.map g).lookup y = some .cell ∨ (ns.map g).lookup y = some .free)
  | [], h, _, _ => by rcases h with h | h <;> cases h
  | (n, k) :: ns, h, g, hg => by
    rw [List.map_cons]
    rcases hg (n, k) with e | ⟨e1, e⟩
    · rw [e]
      cases z : y == n with
      | true => rw [List.lookup_cons, z] at h ⊢; exact h
      | false => rw [List.lookup_cons, z] at h ⊢; exact relab (env := env) h g hg
    · rw [e]
      cases z : y == n with
      | true => rw [List.lookup_cons, z]; exact .inl rfl
      | false => rw [List.lookup_cons, z] at h ⊢; exact relab (env := env) h g hg
theorem blkOk_re {N : List Str} {sc scope : Scope} {env : Env} {own : List (Str × Nat)} (h : BlkOk N sc scope own) : BlkOk N (relabel sc env) scope own := by
  refine ⟨h.kind, h.uniq, h.ix, fun y hy e => ?_, h.own⟩
  refine relab (env := env) (h.free y hy e) _ fun p => ?_
  obtain ⟨n, k⟩ := p
  by_cases z : (k == NameKind.free && env.scope.kind == .function && env.kindOf n == some .cell) = true
  · refine .inr ⟨?_, by dsimp only; rw [if_pos z]⟩
    rw [Bool.and_eq_true, Bool.and_eq_true] at z
    exact eq_of_beq z.1.1
  · exact .inl (by dsimp only; rw [if_neg z])
end LC
namespace LC
variable [Tbl]
open PySem PySem.Spec PyProof.Rows L2
def rowsP (xss : List (List Int)) : List PyData := xss.map fun ns => PyData.tuple (ns.map PyData.int)
theorem layP : ∀ xss : List (List Int), PyData.canLayAll0 (rowsP xss) = true
  | [] => rfl
  | ns :: xss => by
    have ih := layP xss
    show PyData.canLayAll0 (PyData.tuple (ns.map PyData.int) :: rowsP xss) = true
    simp [PyData.canLayAll0, PyData.canLay0, PySem.W.ke_canLayAll0, ih]
theorem depP : ∀ xss : List (List Int), PyData.depthAll (rowsP xss) ≤ 1
  | [] => by show PyData.depthAll [] ≤ 1; simp [PyData.depthAll]
  | ns :: xss => by
    have ih := depP xss
    show PyData.depthAll (PyData.tuple (ns.map PyData.int) :: rowsP xss) ≤ 1
    simp [PyData.depthAll, PyData.depth, PySem.W.ke_depthAll]
    omega
theorem shpP (xss : List (List Int)) : SeqAt.shaped (.list (rowsP xss)) = true := by
  have h1 := layP xss
  have h2 := depP xss
  simp [SeqAt.shaped, PyData.canLay0, PyData.depth, h1]
  omega
theorem dpP {K : PySem.W.Frag} {H : Hp} : ∀ {rs : List V} {xss : List (List Int)}, Rows H rs xss → DpAll K H rs (rowsP xss)
  | [], [], _ => .nil
  | [], _ :: _, h => nomatch h.1
  | _ :: _, [], h => nomatch h.1
  | r :: rs, ns :: xss, h => by
    obtain ⟨b, e1, e2⟩ := h.2 0 ns rfl
    cases e1
    exact .cons (.tup (SqT.of e2) (dp_ints ns)) (dpP ⟨Nat.succ.inj h.1, fun i ms e => h.2 (i + 1) ms e⟩)
theorem neR_nil {K : PySem.W.Frag} {H : Hp} {S T : Addr} {rs : List V} {xss : List (List Int)} {Q : VK} (h : H S = some (.lst rs)) (r : Rows H rs xss) (e : H T = some (.lst [])) (q : Q (.bl (!xss.isEmpty)) H) : rNeD K (.ref S) (.ref T) H Q := by
  refine ⟨.list (rowsP xss), .list [], .lst (SqL.of h) (dpP r), .lst (SqL.of e) .nil, shpP xss, PySem.W.ke_shaped_ints [], ?_⟩
  cases xss with
  | nil => exact q
  | cons x xs => exact q
/-- what stands in a slot, how long a list is -/
def slI (σ : L2.St) (i : Nat) : Int := match σ[i]? with
  | some (some (.int n)) => n
  | _ => 0
def lnL (E : Addr) (H : Hp) : Nat := match H E with
  | some (.lst xs) => xs.length
  | _ => 0
theorem lnL_of {E : Addr} {H : Hp} {xs : List V} (h : H E = some (.lst xs)) : lnL E H = xs.length := by unfold lnL; rw [h]
end LC
namespace LC
variable [Tbl]
/-- how far to the next of these phases -/
def far (x t per : Int) : Int := (x - t) % per
theorem far_bd {x t per : Int} (h : 1 ≤ per) : 0 ≤ far x t per ∧ far x t per < per := ⟨Int.emod_nonneg _ (by omega), Int.emod_lt_of_pos _ (by omega)⟩
theorem far_step {x t per : Int} (h : 1 ≤ per) (hx : 0 ≤ x ∧ x < per) (hn : t % per ≠ x) : far x (t + 1) per = far x t per - 1 ∧ 1 ≤ far x t per := by
  have h0 := far_bd (x := x) (t := t) h
  have h1 : far x t per ≠ 0 := fun z => by
    unfold far at z
    have d : per ∣ x - t := Int.dvd_of_emod_eq_zero z
    apply hn
    obtain ⟨c, hc⟩ := d
    have e2 : t = x + per * (-c) := by rw [Int.mul_neg]; omega
    have this : t % per = x % per := by rw [e2, Int.add_mul_emod_self_left]
    rw [this]; exact Int.emod_eq_of_lt hx.1 hx.2
  refine ⟨?_, by omega⟩
  unfold far at *
  have e : x - (t + 1) = (x - t) % per - 1 + per * ((x - t) / per) := by have := Int.emod_add_mul_ediv (x - t) per; omega
  rw [e, Int.add_mul_emod_self_left, Int.emod_eq_of_lt (by omega) (by omega)]
end LC
namespace LC
variable [Tbl]
theorem nil_no {α : Type} {j : Nat} {x : α} (h : ([] : List α)[j]? = some x) : False := by simp at h
end LC
namespace LC
variable [Tbl]
open PySem PySem.Spec PyProof.Rows L2
/-- a tick, or None, as a value and as data -/
def rV : Option Int → V
  | none => .non
  | some t => .int t
def rD : Option Int → D
  | none => .non
  | some t => .int t
theorem at_rD {H : Hp} (r : Option Int) : At H (rD r) (rV r) := by
  cases r with
  | none => unfold rD rV At; rfl
  | some t => exact at_int.mpr rfl
theorem rV_none (r : Option Int) : decide (rV r = V.non) = r.isNone := by
  cases r with
  | none => exact decide_eq_true rfl
  | some t => exact decide_eq_false fun z => nomatch z
theorem at_bl {H : Hp} (b : Bool) : At H (.bl b) (.bl b) := by unfold At; rfl
theorem rD_dep (r : Option Int) : (rD r).dep < 3 := by
  cases r with
  | none => show 0 < 3; decide
  | some t => show 0 < 3; decide
theorem rD_sm (r : Option Int) : (rD r).sm = true := by cases r <;> rfl
theorem bad_two {k : Clk} (ok : k.Ok) {st : List Int} {t : Int} : ∀ ms ∈ badAt k st t, ms.length ≤ 1000 := fun ms hm => by
  unfold badAt badOf tchAt at hm
  obtain ⟨u, hu, rfl⟩ := List.mem_map.mp (List.mem_filter.mp hm).1
  obtain ⟨p, wi, oi, rfl, _⟩ := ok.tch u (List.mem_filter.mp hu).1
  show 2 ≤ 1000
  decide
theorem bad_len {k : Clk} (ok : k.Ok) {st : List Int} {t : Int} : (badAt k st t).length ≤ 1000 := Nat.le_trans badOf_len ok.tchL
end LC
namespace LC
variable [Tbl]
open PySem PySem.Spec PyProof.Rows L2
theorem RowAt.neI {K : PySem.W.Frag} {H : Hp} {row scr st : Addr} {ns es : List Int} (h : RowAt K H row scr ns) (e : H st = some (.lst (es.map V.int))) : st ≠ row := fun z => by
  obtain ⟨_, _, _, e9, _⟩ := h.ex
  rw [z, e9] at e
  cases es with
  | nil => cases e
  | cons x xs => cases e
end LC
-- S2
namespace LC
variable [Tbl]
open PySem PySem.Spec PyProof.Rows L2
/-! range(lo, hi) of numbers of any size -/
theorem turn_long {P : Program} {w : World} {K : PySem.W.Frag} {tg : Expr} (it : Addr) (lo : Int) (n : Nat) : Turn P w K tg (Itr lo n) [it] it (fun i h => IsLongIter h it (lo + (i : Nat) * 1) ((n : Int) - (i : Nat)) 1) := by
  refine ⟨List.mem_cons_self, fun i h st b hb => ?_, fun i h h2 st k => k it List.mem_cons_self _ st, ?_, ?_, fun _ _ _ _ _ st h => wpAny_pyIter_longiter st h⟩
  · rw [List.mem_singleton] at hb
    subst hb
    exact ⟨_, st, fun v z => nomatch (show Data.fields _ = Data.cell v from z)⟩
  · rintro X rfl rfl rfl hc i pins s σ H E I hf st hg
    obtain ⟨f0, f1, f2, f3, f4, f5⟩ := hf it List.mem_cons_self
    refine (Walks.longrange (prog := X.prog) (w := X.w) (I.ok.hd hc) it lo 1 n).item i s _ _ hg st fun v g tk hv st2 kk => ?_
    obtain ⟨t, rfl⟩ := hv
    have I1 : Inv X pins σ H { s with heap := g, toks := tk } := I.turned (fun b o hb e => kk b o (by rw [List.mem_singleton]; exact hb) e) f0 f1 f3 f4 f5
    refine ⟨_, rfl, go_of (s := { s with heap := g, toks := tk }) (n := "longrange_iterator") st2 rfl rfl (by decide +kernel) ⟨.int (lo + i), H, I1, ⟨t, ?_⟩, ⟨rfl, rfl⟩, st2, fun b hb => (hf b hb).1⟩⟩
    rw [Int.mul_one]
  · rintro X rfl rfl rfl hc i pins s σ H E I hf st hg
    obtain ⟨f0, f1, f2, f3, f4, f5⟩ := hf it List.mem_cons_self
    exact wpAny_pyNext_long_end (I.ok.hd hc) st (by have : n ≤ i := hg; omega) fun g eb => ⟨rfl, I.turned (t' := s.toks) (fun b o hb e => eb b o hb e) f0 f1 f3 f4 f5⟩
theorem range_any {X : Cx} {tg : Expr} {pins : List (Addr × Obj)} {σ : L2.St} {H : Hp} {s : Shared} {R : It → Hp → Prop} {E : Value → Shared → Prop} {lo hi : Int} {t u v : Tok} {tk : Nat} (I : Inv X pins σ H s) (q : R (Itr lo (hi - lo).toNat) H) :
    wpAny (model X.prog X.w) X.A (pyIter (.ref s.heap.objs.size)) (PIE X pins σ tg R) E { s with heap := s.heap.push { cls := .type "range", data := .fields #[.int lo t, .int hi u, .int 1 v] }, toks := tk } := by
  generalize hg : s.heap.push { cls := .type "range", data := .fields #[.int lo t, .int hi u, .int 1 v] } = g
  have old : ∀ b o, s.heap.get? b = some o → g.get? b = some o := fun b o e => by rw [← hg]; exact Heap.get?_push_of_some _ e
  have I1 : Inv X pins σ H { s with heap := g, toks := tk } := I.kept old
  have hr : IsRange g s.heap.objs.size lo hi 1 t u v := by rw [← hg]; exact IsRange.new ..
  have e1 : lo + ((0 : Nat) : Int) * 1 = lo := by omega
  have e2 : (((hi - lo).toNat : Nat) : Int) - ((0 : Nat) : Int) = Builtin.Range.rangeSize lo hi 1 := by rw [rangeSize_one]; split <;> omega
  cases hs : Builtin.Range.small lo hi 1 with
  | true =>
    refine wpAny_pyIter_range (s := { s with heap := g, toks := tk }) hr hs ⟨g.objs.size, [g.objs.size], _, _, H, rfl, I1.kept (t' := tk) fun b o e => Heap.get?_push_of_some _ e, turn_range _ lo (hi - lo).toNat, ?_, fun b hb => ?_, q⟩
    · show IsRangeIter _ _ (lo + ((0 : Nat) : Int) * 1) _ 1
      rw [e1, e2]
      exact Heap.get?_push_size _ rfl
    · rw [List.mem_singleton] at hb
      subst hb
      exact I1.fpOk (Nat.le_refl _) (I1.hok.fresh (Nat.le_refl _))
  | false =>
    refine wpAny_pyIter_longrange (s := { s with heap := g, toks := tk }) hr hs ⟨g.objs.size, [g.objs.size], _, _, H, rfl, I1.kept (t' := tk) fun b o e => Heap.get?_push_of_some _ e, turn_long _ lo (hi - lo).toNat, ?_, fun b hb => ?_, q⟩
    · show IsLongIter _ _ (lo + ((0 : Nat) : Int) * 1) _ 1
      rw [e1, e2]
      exact Heap.get?_push_size _ rfl
    · rw [List.mem_singleton] at hb
      subst hb
      exact I1.fpOk (Nat.le_refl _) (I1.hok.fresh (Nat.le_refl _))
/-- the walk of range(lo, hi) -/
def iRngB (ta : TA) : TI := fun σ H R => ta σ H fun vs H1 => ∃ i j : Int, vs = [.int i, .int j] ∧ R (Itr i (j - i).toNat) H1
theorem pi_rangeB {X : Cx} {tg a b : Expr} {ta : TA} {p pos : Pos} (hg : Gl X "range") (hm : X.mg "range" = none) (ha : PA X [a, b] ta) (h1 : starEach [a, b] X.env = [(false, eval a X.env), (false, eval b X.env)] := by rfl) (h2 : starEach [b] X.env = [(false, eval b X.env)] := by rfl) :
    PI X tg (.Call (.Name "range" p) [a, b] [] pos) (iRngB ta) := by
  constructor
  intro pins s σ H R I h
  refine Call_ (ld_blt I hg hm boot_range (PyProof.Rows.callWith_type1 (thn (ha.run pos pins s σ H _ I h) fun us s1 hh => ?_) (by rw [h1, h2]) (by rw [h2]; rfl)))
  obtain ⟨vs, H1, I1, r1, i, j, e, q⟩ := hh
  subst e
  obtain ⟨u1, u2, rfl, ⟨t1, rfl⟩, ⟨t2, rfl⟩⟩ := vals2 r1
  exact call_range_2 (range_any I1 q)
end LC
-- S3
namespace LC
variable [Tbl]
open PySem PySem.Spec PyProof.Rows L2
/-! pairs of rows -/
def PPs (H : Hp) (rs : List V) (ls : List (List Int × List Int)) : Prop := rs.length = ls.length ∧ ∀ (i : Nat) (p : List Int × List Int), ls[i]? = some p → ∃ b c d : Addr, rs[i]? = some (V.ref b) ∧ H b = some (.tup [.ref c, .ref d]) ∧ H c = some (.tup (p.1.map V.int)) ∧ H d = some (.tup (p.2.map V.int))
section
variable {S : Addr → Prop} {H H1 : Hp} {rs : List V} {ls : List (List Int × List Int)}
theorem PPs.mono (h : PPs H rs ls) (x : Tk H H1) : PPs H1 rs ls := ⟨h.1, fun i p e => by
  obtain ⟨b, c, d, e1, e2, e3, e4⟩ := h.2 i p e
  exact ⟨b, c, d, e1, x _ _ e2, x _ _ e3, x _ _ e4⟩⟩
theorem PPs.x (h : PPs H rs ls) (x : Xt S H H1) : PPs H1 rs ls := h.mono x.tups
theorem PPs.nil : PPs H [] [] := ⟨rfl, fun i p e => (nil_no e).elim⟩
theorem PPs.get (h : PPs H rs ls) {i : Nat} {v : V} (e : rs[i]? = some v) : ∃ (b c d : Addr) (p : List Int × List Int), v = .ref b ∧ ls[i]? = some p ∧ H b = some (.tup [.ref c, .ref d]) ∧ H c = some (.tup (p.1.map V.int)) ∧ H d = some (.tup (p.2.map V.int)) := by
  have hl : i < ls.length := by rw [← h.1]; exact (List.getElem?_eq_some_iff.mp e).1
  obtain ⟨b, c, d, e1, e2, e3, e4⟩ := h.2 i _ (List.getElem?_eq_getElem hl)
  rw [e] at e1; cases e1
  exact ⟨b, c, d, _, rfl, List.getElem?_eq_getElem hl, e2, e3, e4⟩
theorem PPs.snoc {b c d : Addr} {p : List Int × List Int} (h : PPs H rs ls) (e2 : H b = some (.tup [.ref c, .ref d])) (e3 : H c = some (.tup (p.1.map V.int))) (e4 : H d = some (.tup (p.2.map V.int))) : PPs H (rs ++ [.ref b]) (ls ++ [p]) := ⟨by rw [List.length_append, List.length_append, h.1]; rfl, fun i q e1 => by
  by_cases hi : i < ls.length
  · rw [List.getElem?_append_left hi] at e1
    obtain ⟨b', c', d', f1, f2⟩ := h.2 i q e1
    exact ⟨b', c', d', by rw [List.getElem?_append_left (by rw [h.1]; exact hi)]; exact f1, f2⟩
  · rw [List.getElem?_append_right (by omega)] at e1
    have z : i - ls.length = 0 := by
      have := (List.getElem?_eq_some_iff.mp e1).1
      simp at this; omega
    rw [z] at e1
    cases e1
    exact ⟨b, c, d, by rw [List.getElem?_append_right (by rw [h.1]; omega), h.1, z]; rfl, e2, e3, e4⟩⟩
end
def dPP (ls : List (List Int × List Int)) : D := .tup (ls.map fun p => D.tup [.tup (p.1.map D.int), .tup (p.2.map D.int)])
theorem pps_at {H : Hp} {p : Addr} {rs : List V} {ls : List (List Int × List Int)} (e : H p = some (.tup rs)) (r : PPs H rs ls) : At H (dPP ls) (.ref p) := by
  refine at_tup.mpr ⟨p, rs, rfl, e, ats_of (by rw [List.length_map]; exact r.1) fun i d v h1 h2 => ?_⟩
  obtain ⟨b, c, d0, q, rfl, e1, e2, e3, e4⟩ := r.get h2
  rw [List.getElem?_map, e1] at h1
  cases h1
  exact at_tup.mpr ⟨b, _, rfl, e2, Ats.cons (at_ints.mpr ⟨c, rfl, e3⟩) (Ats.cons (at_ints.mpr ⟨d0, rfl, e4⟩) Ats.nil)⟩
theorem dPP_dep (ls : List (List Int × List Int)) : (dPP ls).dep < 4 := by
  show D.deps (ls.map fun p => D.tup [.tup (p.1.map D.int), .tup (p.2.map D.int)]) + 1 < 4
  have : ∀ ls : List (List Int × List Int), D.deps (ls.map fun p => D.tup [.tup (p.1.map D.int), .tup (p.2.map D.int)]) ≤ 2 := fun ls => by
    induction ls with
    | nil => exact Nat.zero_le _
    | cons p ls ih =>
      show max (max (D.deps (p.1.map D.int) + 1) (max (D.deps (p.2.map D.int) + 1) 0) + 1) (D.deps (ls.map fun p => D.tup [.tup (p.1.map D.int), .tup (p.2.map D.int)])) ≤ 2
      rw [deps_ints, deps_ints]; omega
  have := this ls
  omega
theorem dPP_sm {ls : List (List Int × List Int)} (h : ls.length ≤ 1000) (h2 : ∀ p ∈ ls, p.1.length ≤ 1000 ∧ p.2.length ≤ 1000) : (dPP ls).sm = true := by
  show (decide ((ls.map fun p => D.tup [.tup (p.1.map D.int), .tup (p.2.map D.int)]).length ≤ 1000) && D.sms (ls.map fun p => D.tup [.tup (p.1.map D.int), .tup (p.2.map D.int)])) = true
  rw [List.length_map, decide_eq_true h, Bool.true_and]
  clear h
  induction ls with
  | nil => rfl
  | cons p ls ih =>
    obtain ⟨a, b⟩ := h2 p List.mem_cons_self
    show ((decide (2 ≤ 1000) && ((decide ((p.1.map D.int).length ≤ 1000) && D.sms (p.1.map D.int)) && ((decide ((p.2.map D.int).length ≤ 1000) && D.sms (p.2.map D.int)) && true))) && D.sms (ls.map fun p => D.tup [.tup (p.1.map D.int), .tup (p.2.map D.int)])) = true
    rw [List.length_map, List.length_map, decide_eq_true a, decide_eq_true b, sms_ints, sms_ints, ih fun ms hm => h2 ms (List.mem_cons_of_mem _ hm)]; rfl
/-! sorted of pairs of pairs -/
def q0 (p : List Int × List Int) : Int := p.1[0]?.getD 0
def q1 (p : List Int × List Int) : Int := p.1[1]?.getD 0
def q2 (p : List Int × List Int) : Int := p.2[0]?.getD 0
def q3 (p : List Int × List Int) : Int := p.2[1]?.getD 0
def Lt4 (p r : List Int × List Int) : Prop := q0 p < q0 r ∨ (q0 p = q0 r ∧ (q1 p < q1 r ∨ (q1 p = q1 r ∧ (q2 p < q2 r ∨ (q2 p = q2 r ∧ q3 p < q3 r)))))
instance (p r : List Int × List Int) : Decidable (Lt4 p r) := by unfold Lt4; infer_instance
def enc4 (p : List Int × List Int) : PyData := .tuple [.tuple [.int (q0 p), .int (q1 p)], .tuple [.int (q2 p), .int (q3 p)]]
theorem lt_enc4 (p r : List Int × List Int) : PySem.W.dataLt (enc4 p) (enc4 r) = decide (Lt4 p r) := by
  unfold enc4
  rw [PySem.W.dataLt_pair (by rfl) (by rfl), PySem.W.dataLt_ii, PySem.W.dataLt_ii]
  have e : ∀ a b c d : Int, PyData.eqv (.tuple [.int a, .int b]) (.tuple [.int c, .int d]) = (decide (a = c) && decide (b = d)) := fun a b c d => by
    show ((a == c) && ((b == d) && true)) = _
    rw [Bool.and_true, Bool.beq_eq_decide_eq, Bool.beq_eq_decide_eq]
  rw [e, e]
  have z : ∀ a b : Prop, ∀ [Decidable a] [Decidable b], (decide a && decide b) = decide (a ∧ b) := fun a b => by simp
  rw [z, z]
  by_cases h1 : q0 p = q0 r ∧ q1 p = q1 r
  · rw [if_pos (decide_eq_true h1)]
    by_cases h2 : q2 p = q2 r ∧ q3 p = q3 r
    · rw [if_pos (decide_eq_true h2)]
      exact (decide_eq_false (by unfold Lt4; omega)).symm
    · rw [if_neg (by rw [decide_eq_false h2]; exact Bool.false_ne_true)]
      exact decide_eq_decide.mpr (by unfold Lt4; omega)
  · rw [if_neg (by rw [decide_eq_false h1]; exact Bool.false_ne_true)]
    exact decide_eq_decide.mpr (by unfold Lt4; omega)
def rSort4 (K : PySem.W.Frag) : List V → Hp → VK → Prop := fun vs H Q => ∃ (a : Addr) (xs : List V) (ls : List (List Int × List Int)), vs = [.ref a] ∧ SqL K H a xs ∧ PPs H xs ls ∧ (∀ p ∈ ls, ∃ i a j b : Int, p = ([i, a], [j, b])) ∧
  ∀ ys ms p, H p = none → ms.Perm ls → ms.Pairwise (fun x y => ¬ Lt4 y x) → PPs H ys ms → Q (.ref p) (upd H p (.lst ys))
theorem pps_dp {K : PySem.W.Frag} {H : Hp} {v : V} {b c d : Addr} {i a j e : Int} (h1 : H b = some (.tup [.ref c, .ref d])) (h2 : H c = some (.tup ([i, a].map V.int))) (h3 : H d = some (.tup ([j, e].map V.int))) : Dp K H (.ref b) (enc4 ([i, a], [j, e])) :=
  .tup (SqT.of h1) (.cons (.tup (SqT.of h2) (.cons (.int i) (.cons (.int a) .nil))) (.cons (.tup (SqT.of h3) (.cons (.int j) (.cons (.int e) .nil))) .nil))
theorem cr_sort4 {X : Cx} (hu : X.A.units + 64 < cLine) : CallR X (.builtin "sorted") (rSort4 X.K) := by
  intro pins s σ H vs us Q I r h
  obtain ⟨a, xs, ls, rfl, hs, hp, h4, q⟩ := h
  obtain ⟨its, rv, hl, hz⟩ := I.list hs
  rw [Vals.ref1 r]
  have each : ∀ (xs : List V) (its : List Value) (ls : List (List Int × List Int)), Vals xs its → PPs H xs ls → (∀ p ∈ ls, ∃ i a j b : Int, p = ([i, a], [j, b])) →
      PySem.W.EachIs (fun (v : Value) (b : V × (List Int × List Int)) => RelV b.1 v ∧ (∃ as, PySem.Reads s.heap v (enc4 b.2) as) ∧ PPs H [b.1] [b.2]) its (xs.zip ls) := by
    intro xs
    induction xs with
    | nil => intro its ls rv hp _; cases rv; cases ls with
      | nil => exact .nil
      | cons _ _ => exact nomatch hp.1
    | cons x xs ih =>
      intro its ls rv hp h4
      cases rv with
      | cons r1 r2 =>
        cases ls with
        | nil => exact nomatch hp.1
        | cons p ls =>
          refine .cons ⟨r1, ?_, ?_⟩ (ih _ ls r2 ⟨Nat.succ.inj hp.1, fun i q e => hp.2 (i + 1) q e⟩ fun q hq => h4 q (List.mem_cons_of_mem _ hq))
          · obtain ⟨b, c, d, e1, e2, e3, e4⟩ := hp.2 0 p rfl
            obtain ⟨i, a, j, e, rfl⟩ := h4 p List.mem_cons_self
            cases e1
            exact Dp.reads I _ _ _ (pps_dp (v := .non) e2 e3 e4) r1
          · refine ⟨rfl, fun i q e => ?_⟩
            cases i with
            | zero => cases e; exact hp.2 0 p rfl
            | succ i => exact absurd e (by simp)
  have ea := each xs its ls rv hp h4
  have len : xs.length = ls.length := hp.1
  refine PySem.W.sorted_data (R := fun (v : Value) (b : V × (List Int × List Int)) => RelV b.1 v ∧ PPs H [b.1] [b.2]) (enc := fun b => enc4 b.2) (bs := xs.zip ls) hl.isList (ea.mono fun _ _ z => ⟨z.1, z.2.2⟩) (ea.mono fun _ _ z => z.2.1) (.of fun b c => by rfl) (.tuples fun b => ⟨_, _, rfl⟩) (by rw [List.length_zip, len, Nat.min_self, ← len]; exact hz) (fun b _ => ?_) fun out h1 h2 => ?_
  · have : (enc4 b.2).depth ≤ 2 := by simp [enc4, PyData.depth, PyData.depthAll]
    omega
  · generalize hcs : (xs.zip ls).mergeSort (PySem.W.dataLe false fun b => enc4 b.2) = cs at h2
    have hperm : cs.Perm (xs.zip ls) := by rw [← hcs]; exact List.mergeSort_perm _ _
    have hsort : cs.Pairwise fun x y => ¬ Lt4 y.2 x.2 := by
      have le_eq : (PySem.W.dataLe false fun (b : V × (List Int × List Int)) => enc4 b.2) = fun x y => !decide (Lt4 y.2 x.2) := by
        rw [PySem.W.dataLe_eq]
        funext x y
        show (!PySem.W.dataLt (enc4 y.2) (enc4 x.2)) = _
        rw [lt_enc4]
      rw [le_eq] at hcs
      have := List.pairwise_mergeSort (le := fun (x y : V × (List Int × List Int)) => !decide (Lt4 y.2 x.2)) (fun x y z h1 h2 => by
        rw [Bool.not_eq_true', decide_eq_false_iff_not] at h1 h2 ⊢
        unfold Lt4 at *; omega) (fun x y => by
        rw [Bool.or_eq_true, Bool.not_eq_true', Bool.not_eq_true', decide_eq_false_iff_not, decide_eq_false_iff_not]
        unfold Lt4; omega) (xs.zip ls)
      rw [hcs] at this
      exact this.imp fun {x y} h => by rw [Bool.not_eq_true', decide_eq_false_iff_not] at h; exact h
    have back : ∀ (out : List Value) (cs : List (V × (List Int × List Int))), PySem.W.EachIs (fun (v : Value) (b : V × (List Int × List Int)) => RelV b.1 v ∧ PPs H [b.1] [b.2]) out cs → Vals (cs.map (·.1)) out ∧ PPs H (cs.map (·.1)) (cs.map (·.2)) := by
      intro out cs e
      induction e with
      | nil => exact ⟨.nil, PPs.nil⟩
      | cons r _ ih =>
        refine ⟨.cons r.1 ih.1, by rw [List.length_map, List.length_map], fun i q hq => ?_⟩
        cases i with
        | zero => exact r.2.2 0 q hq
        | succ i => exact ih.2.2 i q hq
    obtain ⟨v1, v2⟩ := back out cs h2
    obtain ⟨ep, he⟩ := PyProof.Rows.sortedAll_at s.heap its out.toArray
    have hlen : (cs.map (·.1)).length ≤ sizeLine := by
      rw [List.length_map, hperm.length_eq, List.length_zip, len, Nat.min_self, ← len]; exact hz
    refine ⟨.ref _, upd H (s.heap.objs.size + 1) (.lst (cs.map (·.1))), I.laid (t' := s.toks) (fun _ _ => PyProof.Rows.sortedAll_old) (Nat.le_succ _) ⟨hlen, out, ep, v1, he⟩, rfl, q _ (cs.map (·.2)) _ (I.hok.fresh (Nat.le_succ _)) ?_ (List.pairwise_map.mpr hsort) v2⟩
    have := hperm.map (·.2)
    rw [List.map_snd_zip (by omega)] at this
    exact this
end LC
-- P3
namespace LC
variable [Tbl]
/-! who leans on whom -/
def phs (tch : List (List Int)) (i j : Int) : List Int := (tch.filter fun t => decide (t.drop 1 = [min i j, max i j])).map fun t => t[0]?.getD 0
/-- the least edition of partner j that exchange (i, a) leans on, 0 for none -/
def least (k : Clk) (i a j : Int) : Int := if j = i then a - 1 else if phs k.tch i j = [] then 0 else nd k.bok i a j
def lw1 (k : Clk) (i a : Int) (j : Nat) : List (List Int) := if 0 < least k i a j then [[(j : Int), least k i a j]] else []
def leanW (k : Clk) (i a : Int) (m : Nat) : List (List Int) := (List.range m).flatMap (lw1 k i a)
theorem leanW_succ (k : Clk) (i a : Int) (m : Nat) : leanW k i a (m + 1) = leanW k i a m ++ lw1 k i a m := by
  unfold leanW; rw [List.range_succ, List.flatMap_append, List.flatMap_singleton]
theorem leanW_len (k : Clk) (i a : Int) : ∀ m, (leanW k i a m).length ≤ m
  | 0 => Nat.le_refl _
  | m + 1 => by
    rw [leanW_succ, List.length_append]
    have := leanW_len k i a m
    have : (lw1 k i a m).length ≤ 1 := by unfold lw1; split <;> simp
    omega
def pairsOf (k : Clk) (u : List Int) : List (List Int × List Int) := (leanW k (u[0]?.getD 0) (u[1]?.getD 0) k.eds.length).map fun w => (u, w)
/-- all leans, in order -/
def leans (k : Clk) : List (List Int × List Int) := (due k.eds k.eds.length).flatMap (pairsOf k)
/-- the same, as the law finds them -/
def lawJ1 (k : Clk) (i a : Int) (j : Nat) : List (List Int × List Int) := if i ≠ j ∧ phs k.tch i j ≠ [] ∧ 0 < nd k.bok i a j then [([i, a], [(j : Int), nd k.bok i a j])] else []
def lawJ (k : Clk) (i a : Int) (m : Nat) : List (List Int × List Int) := (List.range m).flatMap (lawJ1 k i a)
def lawA0 (i a : Int) : List (List Int × List Int) := if 1 < a then [([i, a], [i, a - 1])] else []
def lawA (k : Clk) (i a : Int) : List (List Int × List Int) := lawA0 i a ++ lawJ k i a k.eds.length
def lawI (k : Clk) (i : Nat) (m : Nat) : List (List Int × List Int) := (List.range m).flatMap fun (a0 : Nat) => lawA k i (1 + (a0 : Int))
def lawN (k : Clk) (m : Nat) : List (List Int × List Int) := (List.range m).flatMap fun i => lawI k i (k.eds[i]?.getD 0).toNat
theorem lawJ_succ (k : Clk) (i a : Int) (m : Nat) : lawJ k i a (m + 1) = lawJ k i a m ++ lawJ1 k i a m := by
  unfold lawJ; rw [List.range_succ, List.flatMap_append, List.flatMap_singleton]
theorem lawI_succ (k : Clk) (i m : Nat) : lawI k i (m + 1) = lawI k i m ++ lawA k i (1 + (m : Int)) := by
  unfold lawI; rw [List.range_succ, List.flatMap_append, List.flatMap_singleton]
theorem lawN_succ (k : Clk) (m : Nat) : lawN k (m + 1) = lawN k m ++ lawI k m (k.eds[m]?.getD 0).toNat := by
  unfold lawN; rw [List.range_succ, List.flatMap_append, List.flatMap_singleton]
theorem flat_pull {α : Type} {f : Nat → List α} {i : Nat} : ∀ {n : Nat}, i < n → ((List.range n).flatMap f).Perm (f i ++ (List.range n).flatMap fun j => if j = i then [] else f j)
  | 0, h => absurd h (Nat.not_lt_zero _)
  | n + 1, h => by
    rw [List.range_succ, List.flatMap_append, List.flatMap_append, List.flatMap_singleton, List.flatMap_singleton]
    by_cases z : i = n
    · subst z
      rw [if_pos rfl, List.append_nil]
      have e : (List.range i).flatMap (fun j => if j = i then [] else f j) = (List.range i).flatMap f := by
        rw [List.flatMap_def, List.flatMap_def]
        congr 1
        exact List.map_congr_left fun j hj => if_neg (by rw [List.mem_range] at hj; omega)
      rw [e]
      exact List.perm_append_comm
    · rw [if_neg (fun w => z w.symm), ← List.append_assoc]
      exact (flat_pull (f := f) (by omega)).append_right _
theorem lawA_perm (k : Clk) {i : Nat} (hi : i < k.eds.length) (a : Int) : (lawA k i a).Perm (pairsOf k [(i : Int), a]) := by
  unfold pairsOf leanW
  show List.Perm _ (((List.range k.eds.length).flatMap (lw1 k i a)).map fun w => ([(i : Int), a], w))
  rw [List.map_flatMap]
  refine List.Perm.symm ((flat_pull (i := i) hi).trans ?_)
  unfold lawA lawJ
  have e1 : (lw1 k i a i).map (fun w => ([(i : Int), a], w)) = lawA0 i a := by
    unfold lw1 lawA0 least
    rw [if_pos rfl]
    by_cases z : 1 < a
    · rw [if_pos z, if_pos (by omega)]; rfl
    · rw [if_neg z, if_neg (by omega)]; rfl
  have e2 : (fun j => if j = i then [] else (lw1 k i a j).map fun w => ([(i : Int), a], w)) = lawJ1 k i a := by
    funext j
    unfold lw1 lawJ1 least
    by_cases z : j = i
    · subst z
      rw [if_pos rfl, if_neg (fun w => w.1 rfl)]
    · rw [if_neg z, if_neg (show ¬ ((j : Nat) : Int) = ((i : Nat) : Int) by omega)]
      by_cases w : phs k.tch i j = []
      · rw [if_pos w, if_neg (by omega), if_neg (fun y => y.2.1 w)]; rfl
      · rw [if_neg w]
        by_cases y : 0 < nd k.bok i a j
        · rw [if_pos y, if_pos ⟨by omega, w, y⟩]; rfl
        · rw [if_neg y, if_neg (fun x => y x.2.2)]; rfl
  rw [e1, e2]
theorem perm_flat {α β : Type} {f g : α → List β} : ∀ {l : List α}, (∀ x ∈ l, (f x).Perm (g x)) → (l.flatMap f).Perm (l.flatMap g)
  | [], _ => List.Perm.refl _
  | x :: l, h => by
    rw [List.flatMap_cons, List.flatMap_cons]
    exact (h x List.mem_cons_self).append (perm_flat fun y hy => h y (List.mem_cons_of_mem _ hy))
theorem lawN_perm (k : Clk) : (lawN k k.eds.length).Perm (leans k) := by
  unfold leans due lawN
  rw [List.flatMap_assoc]
  refine perm_flat fun i hi => ?_
  rw [List.mem_range] at hi
  unfold lawI dueW
  rw [List.flatMap_map]
  exact perm_flat fun a _ => lawA_perm k hi _
/-! in order -/
theorem due_lt (eds : List Int) (n : Nat) : (due eds n).Pairwise fun u w => u[0]?.getD 0 < w[0]?.getD 0 ∨ (u[0]?.getD 0 = w[0]?.getD 0 ∧ u[1]?.getD 0 < w[1]?.getD 0) := by
  unfold due
  rw [List.pairwise_flatMap]
  refine ⟨fun i _ => ?_, List.pairwise_lt_range.imp fun {i j} hij u hu w hw => ?_⟩
  · unfold dueW
    rw [List.pairwise_map]
    exact List.pairwise_lt_range.imp fun {a b} h => .inr ⟨rfl, by show 1 + (a : Int) < 1 + (b : Int); omega⟩
  · unfold dueW at hu hw
    obtain ⟨a, _, rfl⟩ := List.mem_map.mp hu
    obtain ⟨b, _, rfl⟩ := List.mem_map.mp hw
    exact .inl (by show (i : Int) < (j : Int); omega)
theorem mem_lw1 {k : Clk} {i a : Int} {j : Nat} {w : List Int} (h : w ∈ lw1 k i a j) : w = [(j : Int), least k i a j] ∧ 0 < least k i a j := by
  unfold lw1 at h
  by_cases z : 0 < least k i a j
  · rw [if_pos z, List.mem_singleton] at h; exact ⟨h, z⟩
  · rw [if_neg z] at h; exact nomatch h
theorem leanW_lt (k : Clk) (i a : Int) (m : Nat) : (leanW k i a m).Pairwise fun u w => u[0]?.getD 0 < w[0]?.getD 0 := by
  unfold leanW
  rw [List.pairwise_flatMap]
  refine ⟨fun j _ => ?_, List.pairwise_lt_range.imp fun {x y} hxy u hu w hw => ?_⟩
  · unfold lw1
    split
    · exact List.pairwise_singleton _ _
    · exact List.Pairwise.nil
  · rw [(mem_lw1 hu).1, (mem_lw1 hw).1]
    show (x : Int) < (y : Int)
    omega
theorem leans_lt (k : Clk) : (leans k).Pairwise Lt4 := by
  unfold leans
  rw [List.pairwise_flatMap]
  refine ⟨fun u _ => ?_, (due_lt k.eds k.eds.length).imp fun {u w} h p hp r hr => ?_⟩
  · unfold pairsOf
    rw [List.pairwise_map]
    exact (leanW_lt k _ _ _).imp fun {x y} h => .inr ⟨rfl, .inr ⟨rfl, .inl h⟩⟩
  · unfold pairsOf at hp hr
    obtain ⟨x, _, rfl⟩ := List.mem_map.mp hp
    obtain ⟨y, _, rfl⟩ := List.mem_map.mp hr
    rcases h with h | ⟨h1, h2⟩
    · exact .inl h
    · exact .inr ⟨h1, .inl h2⟩
theorem sort_one : ∀ {ls ms : List (List Int × List Int)}, ms.Perm ls → ls.Pairwise Lt4 → ms.Pairwise (fun x y => ¬ Lt4 y x) → ms = ls
  | [], ms, h, _, _ => h.eq_nil
  | p :: ls, [], h, _, _ => nomatch h.length_eq
  | p :: ls, m :: ms, h, h1, h2 => by
    rw [List.pairwise_cons] at h1 h2
    have e : m = p := by
      rcases List.mem_cons.mp (h.mem_iff.mp List.mem_cons_self) with e | e
      · exact e
      · rcases List.mem_cons.mp (h.mem_iff.mpr (List.mem_cons_self : p ∈ p :: ls)) with f | f
        · exact f.symm
        · exact absurd (h1.1 m e) (h2.1 p f)
    subst e
    rw [sort_one (List.Perm.cons_inv h) h1.2 h2.2]
theorem mem_due {eds u : List Int} {n : Nat} (h : u ∈ due eds n) : ∃ i a : Nat, u = [(i : Int), 1 + (a : Int)] ∧ i < n ∧ a < (eds[i]?.getD 0).toNat := by
  unfold due at h
  obtain ⟨i, hi, h2⟩ := List.mem_flatMap.mp h
  unfold dueW at h2
  obtain ⟨a, ha, rfl⟩ := List.mem_map.mp h2
  exact ⟨i, a, rfl, List.mem_range.mp hi, List.mem_range.mp ha⟩
theorem due_mem {eds : List Int} {n i a : Nat} (hi : i < n) (ha : a < (eds[i]?.getD 0).toNat) : [(i : Int), 1 + (a : Int)] ∈ due eds n := by
  unfold due
  refine List.mem_flatMap.mpr ⟨i, List.mem_range.mpr hi, ?_⟩
  unfold dueW
  exact List.mem_map.mpr ⟨a, List.mem_range.mpr ha, rfl⟩
theorem nd_le {bok : List (List Int)} {eds : List Int} {i a j : Int} (hb : ∀ t ∈ bok, BokOk eds t) (h : 0 < nd bok i a j) : nd bok i a j ≤ eds[j.toNat]?.getD 0 ∧ ∃ a0, 1 ≤ a0 ∧ a0 ≤ a := by
  rcases (nd_ln bok i a j).2 with e | ⟨t, ht, ho, e⟩
  · omega
  · obtain ⟨i1, a1, j1, b, rfl, _, _, _, _, _, h6, _, _, h9⟩ := hb t ht
    unfold entOk at ho
    rw [Bool.and_eq_true, Bool.and_eq_true] at ho
    have e2 : j1 = j := of_decide_eq_true ho.1.2
    have e3 : a1 ≤ a := of_decide_eq_true ho.2
    have e4 : b = nd bok i a j := e
    rw [← e4, ← e2]
    exact ⟨h9, a1, h6, e3⟩
/-- what a lean is -/
structure IsLean (k : Clk) (i a j b : Int) : Prop where
  i0 : 0 ≤ i ∧ i < k.eds.length
  a0 : 1 ≤ a ∧ a ≤ k.eds[i.toNat]?.getD 0
  j0 : 0 ≤ j ∧ j < k.eds.length
  b0 : 1 ≤ b ∧ b ≤ k.eds[j.toNat]?.getD 0
  st : (j = i ∧ b = a - 1) ∨ (j ≠ i ∧ phs k.tch i j ≠ [] ∧ b = nd k.bok i a j)
theorem mem_leans {k : Clk} (ok : k.Ok) {p : List Int × List Int} (h : p ∈ leans k) : ∃ i a j b : Int, p = ([i, a], [j, b]) ∧ IsLean k i a j b := by
  unfold leans at h
  obtain ⟨u, hu, h2⟩ := List.mem_flatMap.mp h
  obtain ⟨i, a, rfl, hi, ha⟩ := mem_due hu
  unfold pairsOf at h2
  obtain ⟨w, hw, rfl⟩ := List.mem_map.mp h2
  unfold leanW at hw
  obtain ⟨j, hj, hw⟩ := List.mem_flatMap.mp hw
  rw [List.mem_range] at hj
  obtain ⟨rfl, h0⟩ := mem_lw1 hw
  refine ⟨_, _, _, _, rfl, ⟨by show 0 ≤ (i : Int); omega, by show (i : Int) < _; omega⟩, ⟨by show 1 ≤ 1 + (a : Int); omega, ?_⟩, ⟨by omega, by omega⟩, ?_, ?_⟩
  · show 1 + (a : Int) ≤ k.eds[((i : Int)).toNat]?.getD 0
    rw [Int.toNat_natCast]; omega
  · show 1 ≤ least k i (1 + (a : Int)) j ∧ least k i (1 + (a : Int)) j ≤ k.eds[((j : Nat) : Int).toNat]?.getD 0
    refine ⟨by exact h0, ?_⟩
    have h0 : 0 < least k i (1 + (a : Int)) j := h0
    unfold least at h0 ⊢
    by_cases z : (j : Int) = i
    · rw [if_pos z, z, Int.toNat_natCast]; omega
    · rw [if_neg z] at h0 ⊢
      by_cases y : phs k.tch i j = []
      · rw [if_pos y] at h0; exact absurd h0 (by decide)
      · rw [if_neg y] at h0 ⊢
        exact (nd_le ok.bok h0).1
  · show ((j : Int) = i ∧ least k i (1 + (a : Int)) j = 1 + (a : Int) - 1) ∨ ((j : Int) ≠ i ∧ phs k.tch i j ≠ [] ∧ least k i (1 + (a : Int)) j = nd k.bok i (1 + (a : Int)) j)
    have h0 : 0 < least k i (1 + (a : Int)) j := h0
    unfold least at h0 ⊢
    by_cases z : (j : Int) = i
    · rw [if_pos z]; exact .inl ⟨z, rfl⟩
    · rw [if_neg z] at h0 ⊢
      by_cases y : phs k.tch i j = []
      · rw [if_pos y] at h0; exact absurd h0 (by decide)
      · rw [if_neg y]; exact .inr ⟨z, y, rfl⟩
theorem leans_mem {k : Clk} {i a j b : Int} (h : IsLean k i a j b) : ([i, a], [j, b]) ∈ leans k := by
  obtain ⟨⟨i0, i1⟩, ⟨a0, a1⟩, ⟨j0, j1⟩, ⟨b0, b1⟩, st⟩ := h
  obtain ⟨i, rfl⟩ := Int.eq_ofNat_of_zero_le i0
  obtain ⟨j, rfl⟩ := Int.eq_ofNat_of_zero_le j0
  obtain ⟨a', ha'⟩ := Int.eq_ofNat_of_zero_le (show 0 ≤ a - 1 by omega)
  have ea : a = 1 + (a' : Int) := by omega
  rw [Int.toNat_natCast] at a1
  unfold leans
  refine List.mem_flatMap.mpr ⟨[(i : Int), 1 + (a' : Int)], due_mem (by omega) (by omega), ?_⟩
  unfold pairsOf
  refine List.mem_map.mpr ⟨[(j : Int), b], ?_, by rw [← ea]⟩
  unfold leanW
  refine List.mem_flatMap.mpr ⟨j, List.mem_range.mpr (by omega), ?_⟩
  have el : least k i (1 + (a' : Int)) j = b := by
    unfold least
    rcases st with ⟨h1, h2⟩ | ⟨h1, h2, h3⟩
    · rw [if_pos h1]; omega
    · rw [if_neg h1, if_neg h2, ← ea]; exact h3.symm
  show [(j : Int), b] ∈ lw1 k ((i : Int)) (1 + (a' : Int)) j
  unfold lw1
  rw [el, if_pos (by omega)]
  exact List.mem_singleton.mpr rfl
theorem leans_len {k : Clk} (ok : k.Ok) : (leans k).length ≤ 600 := by
  have h1 := due_len k.eds ok.eds k.eds.length
  have h2 := ok.len.2
  have h3 : ∀ us : List (List Int), (us.flatMap (pairsOf k)).length ≤ 12 * us.length := fun us => by
    induction us with
    | nil => exact Nat.le_refl _
    | cons u us ih =>
      rw [List.flatMap_cons, List.length_append, List.length_cons]
      have : (pairsOf k u).length ≤ k.eds.length := by unfold pairsOf; rw [List.length_map]; exact leanW_len _ _ _ _
      omega
  have := h3 (due k.eds k.eds.length)
  unfold leans
  omega
end LC
-- P4
namespace LC
variable [Tbl]
/-! pushes -/
def GF (per : Int) (g : List Int) (low r : Int) : Prop := low ≤ r ∧ r % per ∈ g ∧ ∀ x, low ≤ x → x % per ∈ g → r ≤ x
theorem GF.uniq {per : Int} {g : List Int} {low r s : Int} (h : GF per g low r) (f : GF per g low s) : r = s := by
  have := h.2.2 s f.1 f.2.1
  have := f.2.2 r h.1 h.2.1
  omega
theorem mod_sub {per x y : Int} (h : x % per = y % per) (l : Int) : (x - l) % per = (y - l) % per := by
  rw [Int.sub_emod, h, ← Int.sub_emod]
theorem sub_mod {per x y : Int} (h : x % per = y % per) (l : Int) : (l - x) % per = (l - y) % per := by
  rw [Int.sub_emod, h, ← Int.sub_emod]
theorem mod_le {a b : Int} (h : 0 ≤ a) (hb : 0 < b) : a % b ≤ a := by
  have := Int.emod_add_mul_ediv a b
  have := Int.mul_nonneg (Int.le_of_lt hb) (Int.ediv_nonneg h (Int.le_of_lt hb))
  omega
theorem gf_min {per : Int} {g : List Int} {low m : Int} (p0 : 1 ≤ per) (hg : ∀ p ∈ g, 0 ≤ p ∧ p < per) (hm : m ∈ g.map fun p => (p - low) % per) (hn : ∀ y ∈ g.map (fun p => (p - low) % per), m ≤ y) : GF per g low (low + m) := by
  obtain ⟨p, hp, rfl⟩ := List.mem_map.mp hm
  obtain ⟨g0, g1⟩ := hg p hp
  refine ⟨by have := Int.emod_nonneg (p - low) (show per ≠ 0 by omega); omega, ?_, fun x hx hxg => ?_⟩
  · rw [Int.add_emod, Int.emod_emod_of_dvd _ (Int.dvd_refl _), ← Int.add_emod, show low + (p - low) = p by omega, Int.emod_eq_of_lt g0 g1]
    exact hp
  · have h1 := hn _ (List.mem_map.mpr ⟨_, hxg, rfl⟩)
    have h2 : (x % per - low) % per = (x - low) % per := mod_sub (Int.emod_emod_of_dvd _ (Int.dvd_refl _)) low
    have h3 : (x - low) % per ≤ x - low := mod_le (by omega) (by omega)
    omega
/-- b is one more than the last number below t at whose phase the two touch -/
def BF (per : Int) (ph : List Int) (t b : Int) : Prop := b ≤ t ∧ (b - 1) % per ∈ ph ∧ ∀ c, c < t → c % per ∈ ph → c < b
theorem BF.uniq {per : Int} {ph : List Int} {t b d : Int} (h : BF per ph t b) (f : BF per ph t d) : b = d := by
  have := h.2.2 (d - 1) (by have := f.1; omega) f.2.1
  have := f.2.2 (b - 1) (by have := h.1; omega) h.2.1
  omega
theorem bf_min {per : Int} {ph : List Int} {t m : Int} (p0 : 1 ≤ per) (hg : ∀ p ∈ ph, 0 ≤ p ∧ p < per) (hm : m ∈ ph.map fun p => (t - 1 - p) % per) (hn : ∀ y ∈ ph.map (fun p => (t - 1 - p) % per), m ≤ y) : BF per ph t (t - 1 - m + 1) := by
  obtain ⟨p, hp, rfl⟩ := List.mem_map.mp hm
  obtain ⟨g0, g1⟩ := hg p hp
  have h0 := Int.emod_nonneg (t - 1 - p) (show per ≠ 0 by omega)
  refine ⟨by omega, ?_, fun c hc hcp => ?_⟩
  · have e : (t - 1 - (t - 1 - p) % per + 1 - 1) % per = p % per := by
      rw [show t - 1 - (t - 1 - p) % per + 1 - 1 = t - 1 - (t - 1 - p) % per by omega]
      rw [sub_mod (Int.emod_emod_of_dvd (t - 1 - p) (Int.dvd_refl per)) (t - 1)]
      congr 1; omega
    rw [e, Int.emod_eq_of_lt g0 g1]; exact hp
  · have h1 := hn _ (List.mem_map.mpr ⟨_, hcp, rfl⟩)
    have h2 : (t - 1 - c % per) % per = (t - 1 - c) % per := sub_mod (Int.emod_emod_of_dvd _ (Int.dvd_refl _)) _
    have h3 : (t - 1 - c) % per ≤ t - 1 - c := mod_le (by omega) (by omega)
    omega
def PU (k : Clk) (i j t r : Int) : Prop := ∃ b, ((i = j ∧ b = t + 1) ∨ (i ≠ j ∧ BF k.per (phs k.tch i j) t b)) ∧ GF k.per (k.gps[i.toNat]?.getD []) b r
theorem PU.uniq {k : Clk} {i j t r s : Int} (h : PU k i j t r) (f : PU k i j t s) : r = s := by
  obtain ⟨b, h1, h2⟩ := h
  obtain ⟨d, f1, f2⟩ := f
  have e : b = d := by
    rcases h1 with ⟨h1, h3⟩ | ⟨h1, h3⟩
    · rcases f1 with ⟨f1, f3⟩ | ⟨f1, f3⟩
      · omega
      · exact absurd h1 f1
    · rcases f1 with ⟨f1, f3⟩ | ⟨f1, f3⟩
      · exact absurd f1 h1
      · exact h3.uniq f3
  subst e
  exact h2.uniq f2
theorem phs_bd {k : Clk} (ok : k.Ok) {i j : Int} : ∀ p ∈ phs k.tch i j, 0 ≤ p ∧ p < k.per := fun p hp => by
  unfold phs at hp
  obtain ⟨t, ht, rfl⟩ := List.mem_map.mp hp
  obtain ⟨q, x, y, rfl, h1, h2, _⟩ := ok.tch t (List.mem_filter.mp ht).1
  exact ⟨h1, h2⟩
theorem mem_phs {k : Clk} {i j p x y : Int} (h : [p, x, y] ∈ k.tch) (e : [x, y] = [min i j, max i j]) : p ∈ phs k.tch i j := by
  unfold phs
  exact List.mem_map.mpr ⟨[p, x, y], List.mem_filter.mpr ⟨h, decide_eq_true e⟩, rfl⟩
theorem phs_mem {k : Clk} (ok : k.Ok) {i j p : Int} (h : p ∈ phs k.tch i j) : [p, min i j, max i j] ∈ k.tch := by
  unfold phs at h
  obtain ⟨t, ht, rfl⟩ := List.mem_map.mp h
  obtain ⟨h1, h2⟩ := List.mem_filter.mp ht
  obtain ⟨q, x, y, rfl, _⟩ := ok.tch t h1
  have e : [x, y] = [min i j, max i j] := of_decide_eq_true h2
  show [q, min i j, max i j] ∈ k.tch
  rw [← e]; exact h1
theorem phs_comm (tch : List (List Int)) (i j : Int) : phs tch i j = phs tch j i := by
  unfold phs; rw [Int.min_comm, Int.max_comm]
theorem phs_self {k : Clk} (ok : k.Ok) (i : Int) : phs k.tch i i = [] := by
  cases h : phs k.tch i i with
  | nil => rfl
  | cons p ps =>
    have hp := phs_mem ok (show p ∈ phs k.tch i i by rw [h]; exact List.mem_cons_self)
    obtain ⟨q, x, y, e, _, _, _, h4, _⟩ := ok.tch _ hp
    simp only [List.cons.injEq] at e
    omega
/-! ticks and editions -/
theorem cnt_iff : ∀ {ts : List Int} {n : Nat} {x t : Int}, ts.Pairwise (· < ·) → ts[n]? = some x → (n < (ts.filter fun y => decide (y ≤ t)).length ↔ x ≤ t)
  | [], n, x, t, _, h => (nil_no h).elim
  | y :: ys, n, x, t, hp, h => by
    rw [List.pairwise_cons] at hp
    by_cases z : y ≤ t
    · rw [show (y :: ys).filter (fun y => decide (y ≤ t)) = y :: ys.filter (fun y => decide (y ≤ t)) from List.filter_cons_of_pos (decide_eq_true z), List.length_cons]
      cases n with
      | zero => cases h; exact ⟨fun _ => z, fun _ => by omega⟩
      | succ n =>
        have := cnt_iff (t := t) hp.2 (show ys[n]? = some x by simpa using h)
        omega
    · rw [show (y :: ys).filter (fun y => decide (y ≤ t)) = ys.filter (fun y => decide (y ≤ t)) from List.filter_cons_of_neg (by rw [decide_eq_false z]; exact Bool.false_ne_true)]
      have e : ys.filter (fun y => decide (y ≤ t)) = [] := List.filter_eq_nil_iff.mpr fun w hw => by
        have := hp.1 w hw
        rw [decide_eq_false (by omega)]; exact Bool.false_ne_true
      rw [e]
      refine ⟨fun w => absurd w (Nat.not_lt_zero _), fun w => ?_⟩
      cases n with
      | zero => cases h; exact absurd w z
      | succ n => have := hp.1 x (List.mem_of_getElem? (show ys[n]? = some x by simpa using h)); omega
/-- the tick of an exchange -/
def tk (pl : List (List Int)) (i a : Int) : Int := (pl[i.toNat]?.getD [])[(a - 1).toNat]?.getD 0
theorem nd_mono (bok : List (List Int)) {i a a' j : Int} (h : a ≤ a') : nd bok i a j ≤ nd bok i a' j := by
  rcases (nd_ln bok i a j).2 with e | ⟨t, ht, ho, e⟩
  · rw [e]; exact nd_pos ..
  · rw [← e]
    refine (nd_ln bok i a' j).1 t ht ?_
    unfold entOk at ho ⊢
    rw [Bool.and_eq_true] at ho ⊢
    exact ⟨ho.1, decide_eq_true (by have := of_decide_eq_true ho.2; omega)⟩
section
variable {k : Clk} {pl : List (List Int)}
theorem tk_get (po : PlOk k pl) {i a : Int} (h : 0 ≤ i ∧ i < k.eds.length) (ha : 1 ≤ a ∧ a ≤ k.eds[i.toNat]?.getD 0) :
    ∃ ts, pl[i.toNat]? = some ts ∧ ts[(a - 1).toNat]? = some (tk pl i a) ∧ ts.Pairwise (· < ·) ∧ 0 ≤ tk pl i a ∧ tk pl i a ≤ 100000 ∧ tk pl i a % k.per ∈ k.gps[i.toNat]?.getD [] := by
  have hl : i.toNat < pl.length := by rw [po.len]; omega
  obtain ⟨ts, e⟩ : ∃ z, pl[i.toNat]? = some z := ⟨_, List.getElem?_eq_getElem hl⟩
  obtain ⟨h1, h2, h3⟩ := po.row _ ts e
  have hl2 : (a - 1).toNat < ts.length := by omega
  obtain ⟨x, ex⟩ : ∃ z, ts[(a - 1).toNat]? = some z := ⟨_, List.getElem?_eq_getElem hl2⟩
  have et : tk pl i a = x := by unfold tk; rw [e]; show ts[(a - 1).toNat]?.getD 0 = x; rw [ex]; rfl
  rw [et]
  obtain ⟨g1, g2, g3⟩ := h2 x (List.mem_of_getElem? ex)
  exact ⟨ts, e, ex, h3, g1, g2, g3⟩
/-- an edition stands exactly from its exchange's tick on -/
theorem sg_iff (po : PlOk k pl) {i a t : Int} (h : 0 ≤ i ∧ i < k.eds.length) (ha : 1 ≤ a ∧ a ≤ k.eds[i.toNat]?.getD 0) : a ≤ sg (stand pl t) i ↔ tk pl i a ≤ t := by
  obtain ⟨ts, e1, e2, e3, _⟩ := tk_get po h ha
  have := cnt_iff (t := t) e3 e2
  unfold sg
  rw [stand_get e1]
  show a ≤ (((ts.filter fun x => decide (x ≤ t)).length : Nat) : Int) ↔ _
  omega
theorem sg_bd (po : PlOk k pl) {i t : Int} (h : 0 ≤ i ∧ i < k.eds.length) : 0 ≤ sg (stand pl t) i ∧ sg (stand pl t) i ≤ k.eds[i.toNat]?.getD 0 := by
  have hl : i.toNat < pl.length := by rw [po.len]; omega
  obtain ⟨ts, e⟩ : ∃ z, pl[i.toNat]? = some z := ⟨_, List.getElem?_eq_getElem hl⟩
  obtain ⟨h1, _⟩ := po.row _ ts e
  unfold sg
  rw [stand_get e]
  have := List.length_filter_le (fun x => decide (x ≤ t)) ts
  show 0 ≤ (((ts.filter fun x => decide (x ≤ t)).length : Nat) : Int) ∧ (((ts.filter fun x => decide (x ≤ t)).length : Nat) : Int) ≤ _
  omega
/-- a lean is kept -/
def okL (k : Clk) (pl : List (List Int)) (p : List Int × List Int) : Prop := ∀ r, PU k (q0 p) (q2 p) (tk pl (q2 p) (q3 p)) r → r ≤ tk pl (q0 p) (q1 p)
theorem okL_iff (po : PlOk k pl) {i a j b r : Int} (hl : IsLean k i a j b) (hr : PU k i j (tk pl j b) r) : okL k pl ([i, a], [j, b]) ↔ r ≤ tk pl i a :=
  ⟨fun h => h r hr, fun h s hs => by rw [PU.uniq (show PU k i j (tk pl j b) s from hs) hr]; exact h⟩
theorem pu_some (ok : k.Ok) {i a j b t : Int} (hl : IsLean k i a j b) : ∃ r, PU k i j t r := by
  have gm : ∀ (g : List Int) (f : Int → Int), g ≠ [] → ∃ m, m ∈ g.map f ∧ ∀ y ∈ g.map f, m ≤ y := fun g f hg => by
    induction g with
    | nil => exact absurd rfl hg
    | cons x xs ih =>
      by_cases z : xs = []
      · subst z; exact ⟨f x, by simp, fun y hy => by simp at hy; omega⟩
      · obtain ⟨m, h1, h2⟩ := ih z
        by_cases w : f x ≤ m
        · exact ⟨f x, by simp, fun y hy => by
            rw [List.map_cons] at hy
            rcases List.mem_cons.mp hy with e | e
            · omega
            · have := h2 y e; omega⟩
        · exact ⟨m, by rw [List.map_cons]; exact List.mem_cons_of_mem _ h1, fun y hy => by
            rw [List.map_cons] at hy
            rcases List.mem_cons.mp hy with e | e
            · omega
            · exact h2 y e⟩
  have p0 := ok.per.1
  have hi : i.toNat < k.eds.length := by have := hl.i0; omega
  obtain ⟨ed, ee⟩ : ∃ z, k.eds[i.toNat]? = some z := ⟨_, List.getElem?_eq_getElem hi⟩
  obtain ⟨g, eg⟩ : ∃ z, k.gps[i.toNat]? = some z := ⟨_, List.getElem?_eq_getElem (by rw [ok.gpsN]; exact hi)⟩
  obtain ⟨g1, g2, _⟩ := ok.gps _ ed g ee eg
  have hne : g ≠ [] := g1 (by have := hl.a0; rw [ee] at this; show 0 < ed; have : 1 ≤ a ∧ a ≤ ed := this; omega)
  have gf : ∀ b, ∃ r, GF k.per (k.gps[i.toNat]?.getD []) b r := fun b => by
    rw [eg]
    obtain ⟨m, m1, m2⟩ := gm g (fun p => (p - b) % k.per) hne
    exact ⟨_, gf_min p0 g2 m1 m2⟩
  rcases hl.st with ⟨h1, _⟩ | ⟨h1, h2, _⟩
  · obtain ⟨r, hr⟩ := gf (t + 1)
    exact ⟨r, t + 1, .inl ⟨h1.symm, rfl⟩, hr⟩
  · obtain ⟨m, m1, m2⟩ := gm _ (fun p => (t - 1 - p) % k.per) h2
    obtain ⟨r, hr⟩ := gf (t - 1 - m + 1)
    exact ⟨r, _, .inr ⟨fun z => h1 z.symm, bf_min p0 (phs_bd ok) m1 m2⟩, hr⟩
theorem okL_self (ok : k.Ok) (po : PlOk k pl) {i a j b : Int} (hl : IsLean k i a j b) (h : j = i) : okL k pl ([i, a], [j, b]) := by
  subst h
  have hb : b = a - 1 := by
    rcases hl.st with ⟨_, h⟩ | ⟨h, _⟩
    · exact h
    · exact absurd rfl h
  obtain ⟨r, hr⟩ := pu_some (t := tk pl j b) ok hl
  rw [okL_iff po hl hr]
  obtain ⟨d, h1, h2⟩ := hr
  rcases h1 with ⟨_, h1⟩ | ⟨h1, _⟩
  · obtain ⟨ts, e1, e2, e3, _, _, e4⟩ := tk_get po hl.i0 hl.a0
    obtain ⟨ts2, f1, f2, _⟩ := tk_get po hl.j0 hl.b0
    rw [e1] at f1; cases f1
    have h0 := hl.b0
    obtain ⟨l1, e5⟩ := List.getElem?_eq_some_iff.mp e2
    obtain ⟨l2, f5⟩ := List.getElem?_eq_some_iff.mp f2
    have := List.pairwise_iff_getElem.mp e3 _ _ l2 l1 (by omega)
    rw [e5, f5] at this
    exact h2.2.2 _ (by omega) e4
  · exact absurd rfl h1
theorem okL_other (ok : k.Ok) (po : PlOk k pl) {i a j b : Int} (hl : IsLean k i a j b) (h : j ≠ i) : okL k pl ([i, a], [j, b]) ↔ ∀ c, c < tk pl j b → c % k.per ∈ phs k.tch i j → c < tk pl i a := by
  obtain ⟨r, hr⟩ := pu_some (t := tk pl j b) ok hl
  rw [okL_iff po hl hr]
  obtain ⟨d, h1, h2⟩ := hr
  rcases h1 with ⟨h1, _⟩ | ⟨_, h1⟩
  · exact absurd h1.symm h
  · obtain ⟨ts, e1, e2, e3, _, _, e4⟩ := tk_get po hl.i0 hl.a0
    constructor
    · intro hle c hc hp
      have := h1.2.2 c hc hp
      have := h2.1
      omega
    · intro hall
      have := hall (d - 1) (by have := h1.1; omega) h1.2.1
      exact h2.2.2 _ (by omega) e4
theorem unfit_no {bok : List (List Int)} {st : List Int} {x y : Int} : unfit bok st [x, y] = false ↔ nd bok x (sg st x) y ≤ sg st y ∧ nd bok y (sg st y) x ≤ sg st x := by
  show (!(decide (nd bok x (sg st x) y ≤ sg st y) && decide (nd bok y (sg st y) x ≤ sg st x))) = false ↔ _
  rw [Bool.not_eq_false', Bool.and_eq_true, decide_eq_true_eq, decide_eq_true_eq]
theorem bad_nil {st : List Int} {t : Int} : badAt k st t = [] ↔ ∀ u ∈ k.tch, u[0]?.getD 0 = t % k.per → unfit k.bok st (u.drop 1) = false := by
  unfold badAt badOf tchAt
  rw [List.filter_eq_nil_iff]
  constructor
  · intro h u hu e
    have := h (u.drop 1) (List.mem_map.mpr ⟨u, List.mem_filter.mpr ⟨hu, decide_eq_true e⟩, rfl⟩)
    exact Bool.not_eq_true _ ▸ this
  · intro h p hp
    obtain ⟨u, hu, rfl⟩ := List.mem_map.mp hp
    obtain ⟨h1, h2⟩ := List.mem_filter.mp hu
    rw [h u h1 (of_decide_eq_true h2)]; exact Bool.false_ne_true
/-- point 4: a plan is right exactly if no push is above -/
theorem right_iff (ok : k.Ok) (po : PlOk k pl) : FB k pl none ↔ ∀ p ∈ leans k, okL k pl p := by
  have p0 := ok.per.1
  constructor
  · intro h p hp
    obtain ⟨i, a, j, b, rfl, hl⟩ := mem_leans ok hp
    by_cases z : j = i
    · exact okL_self ok po hl z
    · rw [okL_other ok po hl z]
      intro c hc hph
      obtain ⟨_, _, _, _, t0, _⟩ := tk_get po hl.i0 hl.a0
      by_cases c0 : c < 0
      · omega
      · by_cases w : c < tk pl i a
        · exact w
        · exfalso
          have hb : b = nd k.bok i a j := by
            rcases hl.st with ⟨h1, _⟩ | ⟨_, _, h1⟩
            · exact absurd h1 z
            · exact h1
          have hf := bad_nil.mp (h c (by omega)) _ (phs_mem ok hph) rfl
          have h1 := (sg_iff (t := c) po hl.i0 hl.a0).mpr (by omega)
          have h2 := nd_mono k.bok (i := i) (j := j) h1
          have h3 : nd k.bok i (sg (stand pl c) i) j ≤ sg (stand pl c) j := by
            have hf : unfit k.bok (stand pl c) [min i j, max i j] = false := hf
            rw [unfit_no] at hf
            by_cases y : i ≤ j
            · rw [Int.min_eq_left y, Int.max_eq_right y] at hf; exact hf.1
            · rw [Int.min_eq_right (by omega), Int.max_eq_left (by omega)] at hf; exact hf.2
          have h4 := (sg_iff (t := c) po hl.j0 hl.b0).mp (by omega)
          omega
  · intro h t t0
    rw [bad_nil]
    intro u hu e
    obtain ⟨p, x, y, rfl, p1, p2, x0, xy, y1⟩ := ok.tch u hu
    have e : p = t % k.per := e
    show unfit k.bok (stand pl t) [x, y] = false
    rw [unfit_no]
    have one : ∀ i j : Int, 0 ≤ i ∧ i < k.eds.length → 0 ≤ j ∧ j < k.eds.length → j ≠ i → [x, y] = [min i j, max i j] → nd k.bok i (sg (stand pl t) i) j ≤ sg (stand pl t) j := fun i j hi hj hne hxy => by
      by_cases z : 0 < nd k.bok i (sg (stand pl t) i) j
      · obtain ⟨n1, a0, n2, n3⟩ := nd_le ok.bok z
        have hsb := sg_bd (t := t) po hi
        have hp : p ∈ phs k.tch i j := mem_phs hu hxy
        have hl : IsLean k i (sg (stand pl t) i) j (nd k.bok i (sg (stand pl t) i) j) := ⟨hi, ⟨by omega, hsb.2⟩, hj, ⟨by omega, n1⟩, .inr ⟨hne, fun w => (by rw [w] at hp; exact nomatch hp), rfl⟩⟩
        have ho := (okL_other ok po hl hne).mp (h _ (leans_mem hl)) t
        have h1 := (sg_iff (t := t) po hl.i0 hl.a0).mp (Int.le_refl _)
        refine (sg_iff (t := t) po hl.j0 hl.b0).mpr ?_
        by_cases w : t < tk pl j (nd k.bok i (sg (stand pl t) i) j)
        · have := ho w (by rw [← e]; exact hp); omega
        · omega
      · have := sg_bd (t := t) po hj; omega
    exact ⟨one x y ⟨x0, by omega⟩ ⟨by omega, y1⟩ (by omega) (by rw [Int.min_eq_left (by omega), Int.max_eq_right (by omega)]), one y x ⟨by omega, y1⟩ ⟨x0, by omega⟩ (by omega) (by rw [Int.min_eq_right (by omega), Int.max_eq_left (by omega)])⟩
end
end LC
namespace LC
variable [Tbl]
open PySem PySem.Spec PyProof.Rows L2
theorem room65 {k : Nat} {A : Around} (r : Room k A) : A.units + 65 < cLine := by have := r.un; omega
theorem lean_W {k : Clk} {i a j b : Int} (h : IsLean k i a j b) : [j, b] ∈ leanW k i a k.eds.length := by
  have := leans_mem h
  unfold leans at this
  obtain ⟨u, hu, h2⟩ := List.mem_flatMap.mp this
  unfold pairsOf at h2
  obtain ⟨w, hw, e⟩ := List.mem_map.mp h2
  rw [Prod.mk.injEq] at e
  obtain ⟨rfl, rfl⟩ := e
  exact hw
theorem row_any {xss : List (List Int)} {j b : Int} (h : [j, b] ∈ xss) : ((rowsP xss).any fun z => PyData.eqv z (.tuple [.int j, .int b])) = true := by
  rw [List.any_eq_true]
  refine ⟨.tuple [.int j, .int b], List.mem_map.mpr ⟨[j, b], h, rfl⟩, ?_⟩
  show ((j == j) && ((b == b) && true)) = true
  rw [beq_self_eq_true, beq_self_eq_true]; rfl
end LC
namespace LC
variable [Tbl]
open PySem PySem.Spec PyProof.Rows L2 GenW RZ
theorem drvL {K : PySem.W.Frag} {a : Addr} {xs : List V} {H0 : Hp} {Qd : Hp → Prop} {B : (Hp → Prop) → V → Hp → Prop} (Pv : Nat → Hp → Prop) (h0 : Pv 0 H0) (hl : ∀ i H, i ≤ xs.length → Pv i H → SqL K H a xs)
    (hs : ∀ i x H, xs[i]? = some x → Pv i H → B (Pv (i + 1)) x H) (hd : ∀ H, Pv xs.length H → Qd H) :
    ∃ W : Nat → Nat → Hp → Prop, (∃ m, W 0 m H0) ∧ ∀ i m H, W i m H →
      ((Itl K a).stop i H ∧ Qd H) ∨ ((Itl K a).go i H ∧ ∃ Nx : Hp → Prop, (∀ H', Nx H' → ∃ m', m' < m ∧ W (i + 1) m' H') ∧ ∀ x H', (Itl K a).yld i H x H' → B Nx x H') := by
  refine ⟨fun i m H => m = xs.length - i ∧ i ≤ xs.length ∧ Pv i H, ⟨xs.length, by simp, Nat.zero_le _, h0⟩, ?_⟩
  rintro i m H ⟨rfl, hi, p⟩
  have q := hl i H hi p
  by_cases hlt : i < xs.length
  · refine .inr ⟨⟨xs, xs[i], q, by simp [hlt]⟩, Pv (i + 1), fun H' h' => ⟨xs.length - (i + 1), by omega, rfl, hlt, h'⟩, fun x H' y => ?_⟩
    obtain ⟨e, y⟩ := y
    subst e
    exact hs i x _ (y xs q) p
  · have e : i = xs.length := by omega
    subst e
    exact .inl ⟨⟨xs, q, Nat.le_refl _⟩, hd H p⟩
end LC
namespace LC
variable [Tbl]
open PySem PySem.Spec PyProof.Rows L2
/-- a pair of pairs is made and put at a list's end -/
theorem put_pair {H0 H : Hp} {L t1 t2 t3 : Addr} {rs : List V} {ls : List (List Int × List Int)} {i a j b : Int} (hL0 : H0 L = none) (hx : Xn H0 H) (hL : H L = some (.lst rs)) (hr : PPs H rs ls) (h1 : H t1 = none) (h2 : upd H t1 (.tup [.int i, .int a]) t2 = none) (h3 : upd (upd H t1 (.tup [.int i, .int a])) t2 (.tup [.int j, .int b]) t3 = none) :
    Xn H0 (upd (upd (upd (upd H t1 (.tup [.int i, .int a])) t2 (.tup [.int j, .int b])) t3 (.tup [.ref t1, .ref t2])) L (.lst (rs ++ [.ref t3]))) ∧ PPs (upd (upd (upd (upd H t1 (.tup [.int i, .int a])) t2 (.tup [.int j, .int b])) t3 (.tup [.ref t1, .ref t2])) L (.lst (rs ++ [.ref t3]))) (rs ++ [.ref t3]) (ls ++ [([i, a], [j, b])]) := by
  have l3 := upd_old (u := .tup [.ref t1, .ref t2]) (upd_old (u := .tup [.int j, .int b]) (upd_old (u := .tup [.int i, .int a]) hL h1) h2) h3
  have tk := (((Tk.refl.new (o := .tup [.int i, .int a]) h1).new (o := .tup [.int j, .int b]) h2).new (o := .tup [.ref t1, .ref t2]) h3).lst (o := .lst (rs ++ [.ref t3])) l3
  have n1 : L ≠ t1 := ne_none hL h1
  have n2 : L ≠ t2 := ne_none (upd_old hL h1) h2
  have n3 : L ≠ t3 := ne_none (upd_old (upd_old hL h1) h2) h3
  have e2 : upd (upd H t1 (.tup [.int i, .int a])) t2 (.tup [.int j, .int b]) t2 = some (.tup ([j, b].map V.int)) := upd_same
  have e1 : upd (upd H t1 (.tup [.int i, .int a])) t2 (.tup [.int j, .int b]) t1 = some (.tup ([i, a].map V.int)) := upd_old upd_same h2
  have tk2 := (Tk.refl.new (o := .tup [.ref t1, .ref t2]) h3).lst (o := .lst (rs ++ [.ref t3])) l3
  refine ⟨(((hx.trans (Xt.new h1)).trans (Xt.new h2)).trans (Xt.new h3)).young hL0, (hr.mono tk).snoc ?_ (tk2 _ _ e1) (tk2 _ _ e2)⟩
  rw [upd_ne (Ne.symm n3), upd_same]
end LC
theorem LC.stay {p : Prop} (h : p) : p := h
namespace LC
variable [Tbl]
open PySem PySem.Spec PyProof.Rows L2
/-- the same, the first of the two being there -/
theorem put_pair2 {H0 H : Hp} {L t1 t2 t3 : Addr} {rs : List V} {ls : List (List Int × List Int)} {i a j b : Int} (hL0 : H0 L = none) (hx : Xn H0 H) (hL : H L = some (.lst rs)) (hr : PPs H rs ls) (h1 : H t1 = some (.tup [.int i, .int a])) (h2 : H t2 = none) (h3 : upd H t2 (.tup [.int j, .int b]) t3 = none) :
    Xn H0 (upd (upd (upd H t2 (.tup [.int j, .int b])) t3 (.tup [.ref t1, .ref t2])) L (.lst (rs ++ [.ref t3]))) ∧ PPs (upd (upd (upd H t2 (.tup [.int j, .int b])) t3 (.tup [.ref t1, .ref t2])) L (.lst (rs ++ [.ref t3]))) (rs ++ [.ref t3]) (ls ++ [([i, a], [j, b])]) := by
  have l3 := upd_old (u := .tup [.ref t1, .ref t2]) (upd_old (u := .tup [.int j, .int b]) hL h2) h3
  have tk := ((Tk.refl.new (o := .tup [.int j, .int b]) h2).new (o := .tup [.ref t1, .ref t2]) h3).lst (o := .lst (rs ++ [.ref t3])) l3
  have n3 : L ≠ t3 := ne_none (upd_old hL h2) h3
  have e2 : upd H t2 (.tup [.int j, .int b]) t2 = some (.tup ([j, b].map V.int)) := upd_same
  have e1 : upd H t2 (.tup [.int j, .int b]) t1 = some (.tup ([i, a].map V.int)) := upd_old h1 h2
  have tk2 := (Tk.refl.new (o := .tup [.ref t1, .ref t2]) h3).lst (o := .lst (rs ++ [.ref t3])) l3
  refine ⟨((hx.trans (Xt.new h2)).trans (Xt.new h3)).young hL0, (hr.mono tk).snoc ?_ (tk2 _ _ e1) (tk2 _ _ e2)⟩
  rw [upd_ne (Ne.symm n3), upd_same]
end LC
namespace LC
variable [Tbl]
open PySem PySem.Spec PyProof.Rows L2
/-- while, whatever the test is -/
theorem while_dir {c : TT} {tb : TS} {D : Ends} {σ : L2.St} {H : Hp} (Pv : L2.St → Hp → Prop) (μ : L2.St → Hp → Nat) (h0 : Pv σ H)
    (hs : ∀ σ H, Pv σ H → c σ H fun b H1 => if b = true then ∃ N : L2.St → Hp → Prop, (∀ σ' H', N σ' H' → ∃ m', m' < μ σ H ∧ m' = μ σ' H' ∧ Pv σ' H') ∧ tb { D with nx := N, ct := N, bk := D.nx } σ H1 else D.nx σ H1) : tWhile c tb D σ H := by
  refine ⟨fun m σ H => m = μ σ H ∧ Pv σ H, ⟨_, rfl, h0⟩, ?_⟩
  rintro m σ H ⟨rfl, p⟩
  exact hs σ H p
/-- one turn is done -/
theorem while_nx {Pv : L2.St → Hp → Prop} {μ : L2.St → Hp → Nat} {tb : TS} {D : Ends} {σ : L2.St} {H H1 : Hp} (h : tb { D with nx := fun σ' H' => Pv σ' H' ∧ μ σ' H' < μ σ H, ct := fun σ' H' => Pv σ' H' ∧ μ σ' H' < μ σ H, bk := D.nx } σ H1) :
    ∃ N : L2.St → Hp → Prop, (∀ σ' H', N σ' H' → ∃ m', m' < μ σ H ∧ m' = μ σ' H' ∧ Pv σ' H') ∧ tb { D with nx := N, ct := N, bk := D.nx } σ H1 :=
  ⟨_, fun _ _ z => ⟨_, z.2, rfl, z.1⟩, h⟩
/-- the last touch, so far -/
def LP (per t : Int) (ph : List Int) (c m : Int) : Prop := (m = t - 2 * per ∧ ∀ x, t - per ≤ x → x < c → x % per ∉ ph) ∨ ((m - 1) % per ∈ ph ∧ t - per < m ∧ m ≤ c ∧ ∀ x, t - per ≤ x → x < c → x % per ∈ ph → x < m)
theorem LP.zero {per t : Int} {ph : List Int} : LP per t ph (t - per) (t - 2 * per) := .inl ⟨rfl, fun x _ _ => by omega⟩
theorem LP.no {per t c m : Int} {ph : List Int} (h : LP per t ph c m) (z : c % per ∉ ph) : LP per t ph (c + 1) m := by
  rcases h with ⟨h1, h2⟩ | ⟨h1, h2, h3, h4⟩
  · refine .inl ⟨h1, fun x x0 x1 => ?_⟩
    by_cases w : x = c
    · rw [w]; exact z
    · exact h2 x x0 (by omega)
  · refine .inr ⟨h1, h2, by omega, fun x x0 x1 hx => ?_⟩
    by_cases w : x = c
    · rw [w] at hx; exact absurd hx z
    · exact h4 x x0 (by omega) hx
theorem LP.yes {per t c m : Int} {ph : List Int} (p0 : 1 ≤ per) (h : LP per t ph c m) (hc : t - per ≤ c) (z : c % per ∈ ph) : LP per t ph (c + 1) (max m (c + 1)) := by
  have hm : m ≤ c + 1 := by
    rcases h with ⟨h1, _⟩ | ⟨_, _, h3, _⟩
    · omega
    · omega
  rw [Int.max_eq_right hm]
  refine .inr ⟨by rw [Int.add_sub_cancel]; exact z, by omega, by omega, fun x _ x1 _ => by omega⟩
theorem LP.bf {per t m : Int} {ph : List Int} (p0 : 1 ≤ per) (hb : ∀ p ∈ ph, 0 ≤ p ∧ p < per) (hne : ph ≠ []) (h : LP per t ph t m) : BF per ph t m := by
  rcases h with ⟨h1, h2⟩ | ⟨h1, h2, h3, h4⟩
  · exfalso
    obtain ⟨p, hp⟩ := List.exists_mem_of_ne_nil ph hne
    have hd := Int.emod_nonneg (t - 1 - p) (show per ≠ 0 by omega)
    have hd2 := Int.emod_lt_of_pos (t - 1 - p) (show 0 < per by omega)
    refine h2 (t - 1 - (t - 1 - p) % per) (by omega) (by omega) ?_
    have e : (t - 1 - (t - 1 - p) % per) % per = p % per := by
      rw [sub_mod (Int.emod_emod_of_dvd (t - 1 - p) (Int.dvd_refl per)) (t - 1)]
      congr 1; omega
    rw [e, Int.emod_eq_of_lt (hb p hp).1 (hb p hp).2]; exact hp
  · exact ⟨h3, h1, fun x x1 hx => by
      by_cases w : t - per ≤ x
      · exact h4 x w x1 hx
      · omega⟩
end LC
namespace LC
variable [Tbl]
open PySem PySem.Spec PyProof.Rows L2
theorem PPs.take {H : Hp} {rs : List V} {ls : List (List Int × List Int)} (h : PPs H rs ls) (n : Nat) : PPs H (rs.take n) (ls.take n) := ⟨by rw [List.length_take, List.length_take, h.1], fun i p e => by
  rw [List.getElem?_take] at e ⊢
  by_cases z : i < n
  · rw [if_pos z] at e ⊢; exact h.2 i p e
  · rw [if_neg z] at e; cases e⟩
theorem cut_take (xs : List V) (n : Nat) : cutV xs none (some (n : Int)) = xs.take n := by
  unfold cutV
  rw [HT.sIx_nat, HT.sIx_none, List.drop_zero, Nat.sub_zero]
  by_cases z : n ≤ xs.length
  · rw [Nat.min_eq_left z]
  · rw [Nat.min_eq_right (by omega), List.take_length, List.take_of_length_le (by omega)]
theorem dI_dep (rs : List Int) : (D.tup (rs.map D.int)).dep < 4 := by
  show D.deps (rs.map D.int) + 1 < 4
  rw [deps_ints]; decide
theorem dI_sm {rs : List Int} (h : rs.length ≤ 1000) : (D.tup (rs.map D.int)).sm = true := by
  show (decide ((rs.map D.int).length ≤ 1000) && D.sms (rs.map D.int)) = true
  rw [List.length_map, decide_eq_true h, sms_ints]; rfl
theorem leans_two {k : Clk} (ok : k.Ok) : ∀ p ∈ leans k, p.1.length ≤ 1000 ∧ p.2.length ≤ 1000 := fun p hp => by
  obtain ⟨i, a, j, b, rfl, _⟩ := mem_leans ok hp
  exact ⟨by show 2 ≤ 1000; decide, by show 2 ≤ 1000; decide⟩
end LC
-- X5
namespace LX
open PySem PySem.Spec PyProof.Rows L2 LC LamX NdefX
variable [Tbl]
/-! ### all that is no cell is kept -/
abbrev SC (H : Hp) : Addr → Prop := fun a => ∃ v, H a = some (CelO a v)
section
variable {H H1 H0 : Hp} {C : Addr → Prop} {a : Addr}
theorem xv_strip (hC : CellsOf H C) : Xt (SC H) H (strip H C) := by
  have out : ∀ {a : Addr} {o : HO}, H a = some o → (∀ c v, o ≠ CelO c v) → strip H C a = some o := fun e n => strip_some hC e n
  refine ⟨fun a xs e => out e fun c v z => celO_tup z.symm, fun a o ns nt e => ?_, fun P ⟨ps, e1, e2⟩ => ⟨ps, out e1 fun c v z => celO_tbl z.symm, e2⟩, fun a ps e => ⟨ps, out e fun c v z => celO_tbl z.symm⟩, fun P ps _ _ e => out e fun c v z => celO_tbl z.symm⟩
  rw [strip_out fun z => ns (hC a z)]; exact e
theorem xn_back (hC : CellsOf H C) (x : Xn (strip H C) H0) : Xn H (back H H0 C) := by
  have via : ∀ {a : Addr} {o : HO}, H a = some o → (∀ c v, o ≠ CelO c v) → strip H C a = some o ∧ back H H0 C a = H0 a := fun e n => ⟨strip_some hC e n, back_out (hC.out e n)⟩
  refine ⟨fun a xs e => ?_, fun a o ns nt e => ?_, fun P ⟨ps, e1, e2⟩ => ?_, fun a ps e => ?_, fun P ps n1 n2 e => ?_⟩
  · obtain ⟨e1, e2⟩ := via e fun c v z => celO_tup z.symm
    rw [e2]; exact x.tups a xs e1
  · by_cases z : C a
    · rw [back_in z]; exact e
    · rw [back_out z]; exact x.keep a o (fun z => z) nt (by rw [strip_out z]; exact e)
  · obtain ⟨e3, e4⟩ := via e1 fun c v z => celO_tbl z.symm
    obtain ⟨qs, e5, e6⟩ := x.tabs P ⟨ps, e3, e2⟩
    exact ⟨qs, by rw [e4]; exact e5, e6⟩
  · obtain ⟨e3, e4⟩ := via e fun c v z => celO_tbl z.symm
    obtain ⟨qs, e5⟩ := x.tbls a ps e3
    exact ⟨qs, by rw [e4]; exact e5⟩
  · obtain ⟨e3, e4⟩ := via e fun c v z => celO_tbl z.symm
    rw [e4]; exact x.tbk P ps n1 (fun z => z) e3
end

/-! ### values of which it is known what they are -/
inductive Shp (H : Hp) : V → Prop where
  | non : Shp H .non
  | bl (b : Bool) : Shp H (.bl b)
  | int (i : Int) : Shp H (.int i)
  | str (x : Str) : Shp H (.str x)
  | lst {a : Addr} {xs : List V} (e : H a = some (.lst xs)) : Shp H (.ref a)
  | tup {a : Addr} {xs : List V} (e : H a = some (.tup xs)) : Shp H (.ref a)
  | dT {a : Addr} {ks : List (List Key × V)} (e : H a = some (.dT ks)) : Shp H (.ref a)
  | dK {a : Addr} {ks : List (Key × V)} (e : H a = some (.dK ks)) : Shp H (.ref a)
theorem lst_cel {xs : List V} {c : Addr} {v : V} : HO.lst xs ≠ CelO c v := fun z => by
  have z' : HO.lst xs = HO.ext _ := z
  cases z'
theorem dT_cel {xs : List (List Key × V)} {c : Addr} {v : V} : HO.dT xs ≠ CelO c v := fun z => by
  have z' : HO.dT xs = HO.ext _ := z
  cases z'
theorem dK_cel {xs : List (Key × V)} {c : Addr} {v : V} : HO.dK xs ≠ CelO c v := fun z => by
  have z' : HO.dK xs = HO.ext _ := z
  cases z'
theorem xv_keep {H H1 : Hp} (x : Xt (SC H) H H1) {a : Addr} {o : HO} (e : H a = some o) (n : ∀ c v, o ≠ CelO c v) (t : ∀ ps, o ≠ .tbl ps) : H1 a = some o :=
  x.keep a o (fun ⟨v, z⟩ => n a v (Option.some.inj (e.symm.trans z))) t e
section
variable {K : PySem.W.Frag} {H H1 : Hp} {v : V}
theorem Shp.x (h : Shp H v) (x : Xt (SC H) H H1) : Shp H1 v := by
  cases h with
  | non => exact .non
  | bl b => exact .bl b
  | int i => exact .int i
  | str y => exact .str y
  | lst e => exact .lst (xv_keep x e (fun _ _ => lst_cel) (fun _ z => by cases z))
  | tup e => exact .tup (x.tups _ _ e)
  | dT e => exact .dT (xv_keep x e (fun _ _ => dT_cel) (fun _ z => by cases z))
  | dK e => exact .dK (xv_keep x e (fun _ _ => dK_cel) (fun _ z => by cases z))
theorem Shp.kd (h : Shp H v) : Kd K H v := by
  cases h with
  | non => exact kd_non
  | bl b => exact kd_bl
  | int i => exact kd_int
  | str y => exact kd_str
  | lst e => exact kd_lst e
  | tup e => exact kd_tup e
  | dT e => exact ⟨"dict", false, false, .base (.dT e), by decide +kernel, by decide +kernel, rfl⟩
  | dK e => exact ⟨"dict", false, false, .base (.dK e), by decide +kernel, by decide +kernel, rfl⟩
theorem tupOf_else {a : Addr} {o : HO} (e : H a = some o) (n : ∀ xs, o ≠ .tup xs) : tupOf H (.ref a) = none := by
  show (match H a with | some (.tup xs) => some xs | _ => none) = none
  rw [e]
  cases o with
  | tup xs => exact absurd rfl (n xs)
  | _ => rfl
theorem Shp.tupX (h : Shp H v) (x : Xt (SC H) H H1) : tupOf H1 v = tupOf H v := by
  have h1 := h.x x
  cases h with
  | non => rfl
  | bl b => rfl
  | int i => rfl
  | str y => rfl
  | lst e => rw [tupOf_else e (fun _ z => by cases z), tupOf_else (xv_keep x e (fun _ _ => lst_cel) (fun _ z => by cases z)) (fun _ z => by cases z)]
  | tup e => rw [tupOf_ref e, tupOf_ref (x.tups _ _ e)]
  | dT e => rw [tupOf_else e (fun _ z => by cases z), tupOf_else (xv_keep x e (fun _ _ => dT_cel) (fun _ z => by cases z)) (fun _ z => by cases z)]
  | dK e => rw [tupOf_else e (fun _ z => by cases z), tupOf_else (xv_keep x e (fun _ _ => dK_cel) (fun _ z => by cases z)) (fun _ z => by cases z)]
theorem Shp.kt (h : Shp H v) : Kt K H v := by
  cases h with
  | non => exact ⟨"NoneType", false, .base .non, by decide +kernel, rfl⟩
  | bl b => exact ⟨"bool", false, .base (.bl b), by decide +kernel, rfl⟩
  | int i => exact ⟨"int", false, .base (.int i), by decide +kernel, rfl⟩
  | str y => exact ⟨"str", false, .base (.str y), by decide +kernel, rfl⟩
  | lst e => exact ⟨"list", false, .base (.lst e), by decide +kernel, by rw [tupOf_else e (fun _ z => by cases z)]; rfl⟩
  | tup e => exact kt_tup e
  | dT e => exact ⟨"dict", false, .base (.dT e), by decide +kernel, by rw [tupOf_else e (fun _ z => by cases z)]; rfl⟩
  | dK e => exact ⟨"dict", false, .base (.dK e), by decide +kernel, by rw [tupOf_else e (fun _ z => by cases z)]; rfl⟩
end

/-- all but tables and cells is kept -/
def Kp (H H1 : Hp) : Prop := ∀ a o, (∀ ps, o ≠ .tbl ps) → (∀ c v, o ≠ CelO c v) → H a = some o → H1 a = some o
theorem kp_tab {H H1 : Hp} {PL : Addr} {ps : Array Value} (x : Xt (At1 PL) H H1) (h : H PL = some (.tbl ps)) : Kp H H1 := fun a o nt _ e => x.keep a o (fun z => by
  have z : a = PL := z
  rw [z, h] at e; cases e; exact nt _ rfl) nt e
section
variable {H H1 : Hp} {v : V}
theorem Shp.k (h : Shp H v) (x : Kp H H1) : Shp H1 v := by
  cases h with
  | non => exact .non
  | bl b => exact .bl b
  | int i => exact .int i
  | str y => exact .str y
  | lst e => exact .lst (x _ _ (fun _ z => by cases z) (fun _ _ => lst_cel) e)
  | tup e => exact .tup (x _ _ (fun _ z => by cases z) (fun c v z => celO_tup z.symm) e)
  | dT e => exact .dT (x _ _ (fun _ z => by cases z) (fun _ _ => dT_cel) e)
  | dK e => exact .dK (x _ _ (fun _ z => by cases z) (fun _ _ => dK_cel) e)
theorem Shp.tupK (h : Shp H v) (x : Kp H H1) : tupOf H1 v = tupOf H v := by
  cases h with
  | non => rfl
  | bl b => rfl
  | int i => rfl
  | str y => rfl
  | lst e => rw [tupOf_else e (fun _ z => by cases z), tupOf_else (x _ _ (fun _ z => by cases z) (fun _ _ => lst_cel) e) (fun _ z => by cases z)]
  | tup e => rw [tupOf_ref e, tupOf_ref (x _ _ (fun _ z => by cases z) (fun c v z => celO_tup z.symm) e)]
  | dT e => rw [tupOf_else e (fun _ z => by cases z), tupOf_else (x _ _ (fun _ z => by cases z) (fun _ _ => dT_cel) e) (fun _ z => by cases z)]
  | dK e => rw [tupOf_else e (fun _ z => by cases z), tupOf_else (x _ _ (fun _ z => by cases z) (fun _ _ => dK_cel) e) (fun _ z => by cases z)]
end
/-! ### a call that is refused -/
def ErrOf (ad : Str → Addr) (H : Hp) (x : Str) (fv : Option (Str × V)) (cls : Value) (d : Option Addr) : Prop := cls = .ref (ad x) ∧ match fv with
  | none => d = none
  | some (f, v) => ∃ dd, d = some dd ∧ H dd = some (.xd [(f, v)])
theorem ErrOf.hasD {ad : Str → Addr} {H : Hp} {x : Str} {fv : Option (Str × V)} {cls : Value} {d : Option Addr} (h : ErrOf ad H x fv cls d) : HasD H d := by
  obtain ⟨_, h⟩ := h
  cases fv with
  | none => rw [show d = none from h]; trivial
  | some p =>
    obtain ⟨dd, rfl, e⟩ := h
    exact ⟨_, e⟩
/-- arguments, and what is wrong with them: the error's class and field -/
abbrev BadP := Hp → List V → Str → Option (Str × V) → Prop
def spR (ad : Str → Addr) (B : BadP) : Sp := fun vs H _ E => ∃ x fv, B H vs x fv ∧ ∀ cls d H', Xn H H' → ErrOf ad H' x fv cls d → E cls d H'
section
variable {P : Program} {w : World} {K : PySem.W.Frag} {mg : Str → Option Value} {base : Heap} {N fr : List Str} {F : NF} {f : Addr} {e : Expr} {ws vs : List V} {k : Nat} {H H1 : Hp} {ad : Str → Addr} {B : BadP} {en : Str} {fv : Option (Str × V)}
theorem lam_tbl {ps : Array Value} : LamO f F e ≠ .tbl ps := fun z => by
  have z' : HO.ext _ = HO.tbl ps := z
  cases z'
theorem LamAt.mv (L : LamAt H f F e fr ws) (x : Xn H H1) : LamAt H1 f F e fr ws := by
  have cel : ∀ {c v}, H c = some (CelO c v) → H1 c = some (CelO c v) := fun q => x.keep _ _ (fun z => z) (fun _ => celO_tbl) q
  refine ⟨x.keep _ _ (fun z => z) (fun _ => lam_tbl) L.fn, x.keep _ _ (fun z => z) (fun ps => codeO_ne ps) L.cd, L.len, L.inj, fun y c z => ?_, fun i y z => ?_⟩
  · obtain ⟨v, q⟩ := L.all y c z
    exact ⟨v, cel q⟩
  · obtain ⟨c, q1, q2⟩ := L.has i y z
    exact ⟨c, q1, fun v q => cel (q2 v q)⟩
/-- the thing at f, called now or later, is refused so -/
def Refuses (P : Program) (w : World) (K : PySem.W.Frag) (mg : Str → Option Value) (base : Heap) (ad : Str → Addr) (k : Nat) (f : Addr) (H : Hp) (x : Str) (fv : Option (Str × V)) : Prop :=
  ∀ H1, Xn H H1 → Thunk P w K mg base k f H1 fun _ E => ∀ cls d H', Xn H1 H' → ErrOf ad H' x fv cls d → E cls d H'
theorem Refuses.mv (h : Refuses P w K mg base ad k f H en fv) (y : Xn H H1) : Refuses P w K mg base ad k f H1 en fv := fun H2 z => h H2 (y.trans z)
theorem refuses_of (S : NScope N [] fr F.scope) (hb : ∀ pm ctv : Value, bindArgs (PySem.W.kla_fn "<lambda>" F.qual F.params e F.scope F.cl pm (.ref F.c) ctv) ⟨[], []⟩ = pure []) (mono : ∀ {H H1 : Hp}, B H vs en fv → Xt (SC H) H H1 → B H1 vs en fv)
    (L : LamAt H f F e fr ws) (hB : B H vs en fv)
    (body : ∀ (A : Around) (outer : List Env) (s : Shared) (H0 : Hp) (E : XK), Room k (A.deeper (envF F f s.heap.objs.size)) → ∃ t : TE, PE (ncx (L2.CX P w) P w K mg base N F f A outer s H0 E) e t ∧ ∀ Q, spR ad B vs H0 Q E → t (startF N [] (ws.map some)) H0 Q) :
    Refuses P w K mg base ad (k + 1) f H en fv := fun H1 y => by
  have L1 := L.mv y
  refine L1.thunk S hb fun A outer s Q E hr hs => ?_
  obtain ⟨t, ht, hq⟩ := body A outer s (strip H1 (ClP F)) (fun cls d H0 => (∀ c, ClP F c → H0 c = none) → E cls d (back H1 H0 (ClP F))) hr
  refine ⟨t, ht, hq _ ⟨en, fv, mono (mono hB y.any) (xv_strip L1.cells), fun cls d H' z eo fB => hs cls d _ (xn_back L1.cells z) ?_⟩⟩
  obtain ⟨e1, e2⟩ := eo
  refine ⟨e1, ?_⟩
  cases fv with
  | none => exact e2
  | some p =>
    obtain ⟨dd, rfl, e3⟩ := e2
    refine ⟨dd, rfl, ?_⟩
    rw [back_out fun z => by rw [fB dd z] at e3; cases e3]
    exact e3
end
/-! ### data that is compared as a whole -/
mutual
def _root_.LC.D.py : LC.D → PyData
  | .non => .none
  | .bl b => .bool b
  | .int i => .int i
  | .str x => .str x
  | .tup ds => .tuple (LC.D.pys ds)
  | .lst ds => .list (LC.D.pys ds)
def _root_.LC.D.pys : List LC.D → List PyData
  | [] => []
  | d :: ds => d.py :: LC.D.pys ds
end
mutual
theorem dp_at {K : PySem.W.Frag} {H : Hp} : ∀ (d : LC.D) (v : V), At H d v → Dp K H v d.py
  | .non, v, h => by unfold At at h; subst h; unfold LC.D.py; exact .non
  | .bl b, v, h => by unfold At at h; subst h; unfold LC.D.py; exact .bl b
  | .int b, v, h => by unfold At at h; subst h; unfold LC.D.py; exact .int b
  | .str b, v, h => by unfold At at h; subst h; unfold LC.D.py; exact .str b
  | .tup ds, v, h => by
    obtain ⟨a, xs, rfl, e1, e2⟩ := at_tup.mp h
    unfold LC.D.py; exact .tup (SqT.of e1) (dp_ats ds xs e2)
  | .lst ds, v, h => by
    obtain ⟨a, xs, rfl, e1, e2⟩ := at_lst.mp h
    unfold LC.D.py; exact .lst (SqL.of e1) (dp_ats ds xs e2)
theorem dp_ats {K : PySem.W.Frag} {H : Hp} : ∀ (ds : List LC.D) (vs : List V), Ats H ds vs → DpAll K H vs (LC.D.pys ds)
  | [], vs, h => by unfold Ats at h; subst h; unfold LC.D.pys; exact .nil
  | d :: ds, vs, h => by
    unfold Ats at h
    obtain ⟨v, r, rfl, e1, e2⟩ := h
    unfold LC.D.pys; exact .cons (dp_at d v e1) (dp_ats ds r e2)
end
/-- != of two values that are the same data -/
theorem ne_same {K : PySem.W.Frag} {H : Hp} {Q : VK} {x y : V} (d : LC.D) (hx : At H d x) (hy : At H d y) (hs : SeqAt.shaped d.py = true) (he : PyData.eqv d.py d.py = true) (q : Q (.bl false) H) : rNeD K x y H Q :=
  ⟨d.py, d.py, dp_at d x hx, dp_at d y hy, hs, hs, by rw [he]; exact q⟩
theorem eq_same {K : PySem.W.Frag} {H : Hp} {Q : VK} {x y : V} (d : LC.D) (hx : At H d x) (hy : At H d y) (hs : SeqAt.shaped d.py = true) (he : PyData.eqv d.py d.py = true) (q : Q (.bl true) H) : rEqD K x y H Q :=
  ⟨d.py, d.py, dp_at d x hx, dp_at d y hy, hs, hs, by rw [he]; exact q⟩
end LX
-- X6
namespace LX
open PySem PySem.Spec PyProof.Rows L2 LC LamX NdefX
variable [Tbl]
/-! ### functions made one behind the other and kept in a list -/
def lamOf (ss : List Stmt) (i : Nat) : Expr := match ss[i]? with
  | some (.Expr (.Call _ [l] _ _) _) => l
  | _ => .Constant .none 0 ⟨0, 0, 0, 0⟩
def lamArgs : Expr → Arguments
  | .Lambda p _ _ _ => p
  | _ => { posonlyargs := [], args := [], vararg := none, kwonlyargs := [], kw_defaults := [], kwarg := none, defaults := [] }
def lamBody : Expr → Expr
  | .Lambda _ b _ _ => b
  | e => e
def lamScope : Expr → Scope
  | .Lambda _ _ s _ => s
  | _ => { kind := .function, names := [], isGenerator := false, isCoroutine := false, more := [] }
abbrev lamF (q : Str) (e : Expr) (cl : List (Str × Addr)) (c : Addr) : NF := ⟨"<lambda>", q, lamArgs e, [], lamScope e, cl, c⟩
theorem xt_all {S : Addr → Prop} {H H1 : Hp} (k : ∀ b o, H b = some o → H1 b = some o) : Xt S H H1 :=
  ⟨fun a xs e => k a _ e, fun a o _ _ e => k a o e, fun P ⟨ps, e1, e2⟩ => ⟨ps, k _ _ e1, e2⟩, fun a ps e => ⟨ps, k _ _ e⟩, fun P ps _ _ e => k _ _ e⟩
structure MadeOne (cells : List (Str × Addr)) (H : Hp) (q : Str) (e : Expr) (fr : List Str) (f : Addr) (F : NF) : Prop where
  fn : H f = some (LamO f F (lamBody e))
  cd : H F.c = some (CodeO F.c F.qual)
  ok : ClOk cells F fr
  is : ∃ cl c, F = lamF q e cl c
structure MadeL (cells : List (Str × Addr)) (PL : Addr) (q : Str) (H0 H : Hp) (L : Addr) (xs : List V) : Prop where
  x : Xt (At1 PL) H0 H
  l : H L = some (.lst xs)
  t : TabS H PL q
  nl : H0 L = none
section
variable {cells : List (Str × Addr)} {PL L f c' : Addr} {q : Str} {H0 H H1 : Hp} {xs : List V} {e : Expr} {fr : List Str} {F : NF}
theorem tabG_of {H : Hp} {P : Addr} {q : Str} (t : TabS H P q) : GxR.TabG H P := by
  obtain ⟨ps, h1, h2, _⟩ := t
  exact ⟨ps, h1, h2⟩
theorem MadeL.start (hT : TabS H0 PL q) (hL : H0 L = none) : MadeL cells PL q H0 (upd H0 L (.lst [])) L [] :=
  ⟨Xt.new hL, upd_same, hT.ext fun b o z => by rw [upd_ne (ne_of_none z hL)]; exact z, hL⟩
/-- what a new function leaves -/
theorem MadeL.mid (M : MadeL cells PL q H0 H L xs) (eN : ExtN H H1) : H1 L = some (.lst xs) := eN L _ M.l fun ps z => by cases z
theorem MadeL.snoc (M : MadeL cells PL q H0 H L xs) (eN : ExtN H H1) (hT : TabS H1 PL q) (tb : ∀ a ps, a ≠ PL → H a = some (.tbl ps) → H1 a = some (.tbl ps)) : MadeL cells PL q H0 (upd H1 L (.lst (xs ++ [.ref f]))) L (xs ++ [.ref f]) := by
  have hL1 := M.mid eN
  have y : Xt (At1 PL) H H1 := by
    refine ⟨fun a xs z => eN a _ z (fun _ w => by cases w), fun a o _ n z => eN a o z n, fun P ⟨ps, z1, z2⟩ => ?_, fun a ps z => ?_, fun P ps _ n z => tb P ps n z⟩
    · by_cases h : P = PL
      · rw [h]; exact tabG_of hT
      · exact ⟨ps, tb P ps h z1, z2⟩
    · by_cases h : a = PL
      · obtain ⟨qs, z1, _⟩ := hT
        exact ⟨qs, by rw [h]; exact z1⟩
      · exact ⟨ps, tb a ps h z⟩
  refine ⟨(M.x.trans y).young M.nl, upd_same, ?_, M.nl⟩
  obtain ⟨ps, z1, z2, z3⟩ := hT
  refine ⟨ps, by rw [upd_ne (ne_of z1 hL1 (fun w => by cases w))]; exact z1, z2, fun pos cv hcv => ?_⟩
  obtain ⟨c, w1, w2⟩ := z3 pos cv hcv
  exact ⟨c, w1, by rw [upd_ne (ne_of w2 hL1 (fun w => by cases w))]; exact w2⟩
theorem lamO_lst {f : Addr} {F : NF} {e : Expr} {xs : List V} : LamO f F e ≠ .lst xs := fun z => by
  have z' : HO.ext _ = HO.lst xs := z
  cases z'
theorem MadeOne.mk' (M : MadeL cells PL q H0 H L xs) (eN : ExtN H H1) (hf : H1 f = some (LamO f F (lamBody e))) (hc : H1 F.c = some (CodeO F.c F.qual)) (ok : ClOk cells F fr) (is : ∃ cl c, F = lamF q e cl c) (g : Addr) : MadeOne cells (upd H1 L (.lst (xs ++ [.ref g]))) q e fr f F := by
  have hL1 := M.mid eN
  exact ⟨by rw [upd_ne (ne_of hf hL1 lamO_lst)]; exact hf, by rw [upd_ne (ne_of hc hL1 (fun w => by cases w))]; exact hc, ok, is⟩
theorem MadeOne.next (O : MadeOne cells H q e fr f F) (M : MadeL cells PL q H0 H L xs) (eN : ExtN H H1) (g : Addr) : MadeOne cells (upd H1 L (.lst (xs ++ [.ref g]))) q e fr f F :=
  MadeOne.mk' M eN (eN _ _ O.fn fun ps => lam_tbl) (eN _ _ O.cd fun ps => codeO_ne ps) O.ok O.is g
/-- at the maker's end -/
theorem MadeOne.at {ps : List Str} {vs ws : List V} {H2 : Hp} (O : MadeOne cells H q e fr f F) (k1 : ∀ b o, H b = some o → H2 b = some o) (kc : ∀ (i : Nat) (z : Str) (b : Addr) (u : V), ps[i]? = some z → cells.lookup z = some b → vs[i]? = some u → H2 b = some (CelO b u))
    (len : ws.length = fr.length) (hw : ∀ (i : Nat) (y : Str) (v : V), fr[i]? = some y → ws[i]? = some v → ∃ j : Nat, ps[j]? = some y ∧ vs[j]? = some v) : LamAt H2 f F (lamBody e) fr ws := by
  have key : ∀ (i : Nat) (y : Str) (c : Addr), fr[i]? = some y → F.cl.lookup y = some c → ∀ v, ws[i]? = some v → H2 c = some (CelO c v) := fun i y c z1 z2 v z3 => by
    obtain ⟨j, w1, w2⟩ := hw i y v z1 z3
    exact kc j y c v w1 (O.ok.sub y c z2).2 w2
  refine ⟨k1 _ _ O.fn, k1 _ _ O.cd, len, O.ok.inj, fun y c z => ?_, fun i y z => ?_⟩
  · obtain ⟨i, hi⟩ := List.mem_iff_getElem?.mp (O.ok.sub y c z).1
    have hi2 : i < ws.length := by rw [len]; exact (List.getElem?_eq_some_iff.mp hi).1
    exact ⟨_, key i y c hi z _ (List.getElem?_eq_getElem hi2)⟩
  · obtain ⟨c, z1, z2⟩ := O.ok.has y (List.mem_of_getElem? z)
    exact ⟨c, z1, fun v w => key i y c z z1 v w⟩
end
theorem MadeOne.atE {cells : List (Str × Addr)} {H : Hp} {q : Str} {e : Expr} {fr : List Str} {f : Addr} {F : NF} {ps : List Str} {vs ws : List V} {H2 : Hp} (O : MadeOne cells H q e fr f F) (k1 : ∀ b o, H b = some o → H2 b = some o) (kc : ∀ (i : Nat) (z : Str) (b : Addr) (u : V), ps[i]? = some z → cells.lookup z = some b → vs[i]? = some u → H2 b = some (CelO b u))
    (len : ws.length = fr.length) (hw : ∀ (i : Nat) (y : Str) (v : V), fr[i]? = some y → ws[i]? = some v → ∃ j : Nat, ps[j]? = some y ∧ vs[j]? = some v) : ∃ cl c, LamAt H2 f (lamF q e cl c) (lamBody e) fr ws := by
  obtain ⟨cl, c, z⟩ := O.is
  exact ⟨cl, c, z ▸ O.at k1 kc len hw⟩
theorem slots_of {vs : List V} {tl : L2.St} {i : Nat} {u : V} (h : vs[i]? = some u) : (vs.map some ++ tl)[i]? = some (some u) := by
  rw [List.getElem?_append_left (by rw [List.length_map]; exact (List.getElem?_eq_some_iff.mp h).1), List.getElem?_map, h]; rfl
/-! ### the place of True -/
theorem index_true {K : PySem.W.Frag} {H : Hp} {a : Addr} {bs : List Bool} {Q : VK} (h : SqL K H a (bs.map V.bl)) (ht : bs.contains true = true) (q : Q (.int (bs.findIdx id : Nat)) H) : rIndex K (.ref a) [.bl true] H Q := by
  have hm : true ∈ bs := by simpa using ht
  have hlt : bs.findIdx id < bs.length := List.findIdx_lt_length_of_exists ⟨true, hm, rfl⟩
  have hv : bs[bs.findIdx id]'hlt = true := by simpa using List.findIdx_getElem (w := hlt)
  refine ⟨a, bs.map V.bl, .bl true, bs.findIdx id, .bl true, rfl, rfl, h, rfl, ?_, ?_, rfl, fun m z hm hz => ?_, q⟩
  · rw [List.all_eq_true]; intro y hy; obtain ⟨b, _, rfl⟩ := List.mem_map.mp hy; rfl
  · rw [List.getElem?_map, List.getElem?_eq_getElem hlt, hv]; rfl
  · rw [List.getElem?_map] at hz
    have hml : m < bs.length := by omega
    rw [List.getElem?_eq_getElem hml] at hz
    cases hz
    have hn := List.not_of_lt_findIdx hm
    have hb : bs[m] = false := by simpa using hn
    rw [hb]; rfl
end LX
namespace LX
theorem itT {c : Bool} {A B : Prop} (hc : c = true) (h : A) : if c = true then A else B := by rw [if_pos hc]; exact h
theorem itF {c : Bool} {A B : Prop} (hc : c = false) (h : B) : if c = true then A else B := by rw [hc, if_neg Bool.false_ne_true]; exact h
end LX
-- X7
namespace LX
open PySem PySem.Spec PyProof.Rows L2 LC LamX NdefX
variable [Tbl]
section
variable {K : PySem.W.Frag} {S : Addr → Prop} {H H1 : Hp} {PL row scr : Addr} {q : Str} {ns : List Int}
/-- what is known of a table stays, where neither it nor a code object is named -/
theorem tabS_x (h : TabS H PL q) (n : PL ∉ Tbl.ts) (x : Xt S H H1) (n1 : ¬ S PL) (n2 : ∀ c q', H c = some (CodeO c q') → ¬ S c) : TabS H1 PL q := by
  obtain ⟨ps, e1, e2, e3⟩ := h
  refine ⟨ps, x.tbk PL ps n n1 e1, e2, fun pos cv hc => ?_⟩
  obtain ⟨c, z1, z2⟩ := e3 pos cv hc
  exact ⟨c, z1, x.keep c _ (n2 c q z2) (fun ps => codeO_ne ps) z2⟩
/-- the state of a law between its statements: its row of draws, the tables -/
structure Sta (K : PySem.W.Frag) (Ts : List Addr) (PL : Addr) (q : Str) (H : Hp) (row scr : Addr) (ns : List Int) : Prop where
  r : RowAt K H row scr ns
  t : Tabs Ts H
  l : TabS H PL q
variable {Ts : List Addr}
theorem Sta.xn (s : Sta K Ts PL q H row scr ns) (n : PL ∉ Tbl.ts) (x : Xn H H1) : Sta K Ts PL q H1 row scr ns := ⟨s.r.x x, s.t.x x, tabS_x s.l n x (fun z => z) fun _ _ _ z => z⟩
theorem Sta.drawn (s : Sta K Ts PL q H row scr ns) (n : PL ∉ Tbl.ts) (x : Xt (At1 row) H H1) (r : RowAt K H1 row scr ns) : Sta K Ts PL q H1 row scr ns := by
  obtain ⟨i, y, rr, e, _⟩ := s.r.ex
  refine ⟨r, s.t.x x, tabS_x s.l n x (fun z => ?_) fun c q' z w => ?_⟩
  · obtain ⟨ps, e1, _⟩ := s.l
    rw [z, e] at e1; cases e1
  · rw [w, e] at z; cases z
theorem Sta.works (s : Sta K Ts PL q H row scr ns) (x : Xt (At1 PL) H H1) (l : TabS H1 PL q) : Sta K Ts PL q H1 row scr ns := by
  obtain ⟨i, y, rr, e, h⟩ := s.r.ex
  obtain ⟨ps, e1, _⟩ := s.l
  have ne : row ≠ PL := ne_of e e1 (fun z => by cases z)
  refine ⟨⟨⟨i, y, rr, x.keep row _ ne (fun _ z => by cases z) e, h⟩, ?_, s.r.ne⟩, s.t.x x, l⟩
  rcases s.r.sc with (g | ⟨o, g⟩) | g
  · exact .inl (.inl (x.keep scr _ (ne_of g e1 (fun z => by cases z)) (fun _ z => by cases z) g))
  · exact .inl (.inr ⟨o, x.keep scr _ (ne_of g e1 (fun z => by cases z)) (fun _ z => by cases z) g⟩)
  · exact .inr g
end
theorem Sta.kp {K : PySem.W.Frag} {Ts : List Addr} {H H1 : Hp} {PL row scr : Addr} {q : Str} {ns : List Int} (s : Sta K Ts PL q H row scr ns) (x : Xt (At1 PL) H H1) : Kp H H1 := by
  obtain ⟨ps, e, _⟩ := s.l
  exact kp_tab x e
/-- values without lists and dicts -/
inductive ShpT (H : Hp) : V → Prop where
  | non : ShpT H .non
  | bl (b : Bool) : ShpT H (.bl b)
  | int (i : Int) : ShpT H (.int i)
  | str (x : Str) : ShpT H (.str x)
  | tup {a : Addr} {xs : List V} (e : H a = some (.tup xs)) : ShpT H (.ref a)
theorem ShpT.x {S : Addr → Prop} {H H1 : Hp} {v : V} (h : ShpT H v) (x : Xt S H H1) : ShpT H1 v := by
  cases h with
  | non => exact .non
  | bl b => exact .bl b
  | int i => exact .int i
  | str y => exact .str y
  | tup e => exact .tup (x.tups _ _ e)
theorem ShpT.shp {H : Hp} {v : V} (h : ShpT H v) : Shp H v := by
  cases h with
  | non => exact .non
  | bl b => exact .bl b
  | int i => exact .int i
  | str y => exact .str y
  | tup e => exact .tup e
theorem rows_nil {H : Hp} : Rows H [] [] := ⟨rfl, fun i ns e => by simp at e⟩
theorem rows_cons {H : Hp} {a : Addr} {rs : List V} {ns : List Int} {xss : List (List Int)} (e : H a = some (.tup (ns.map V.int))) (r : Rows H rs xss) : Rows H (.ref a :: rs) (ns :: xss) := ⟨by rw [List.length_cons, List.length_cons, r.1], fun i xs z => by
  cases i with
  | zero => cases z; exact ⟨a, rfl, e⟩
  | succ i => exact r.2 i xs (by simpa using z)⟩
end LX
namespace LX
open PySem PySem.Spec PyProof.Rows L2 LC
/-- the first def of a class -/
def initOf : Stmt → Stmt
  | .ClassDef _ _ _ (b :: _) _ _ _ _ _ _ _ => b
  | s => s
/-- what the written part says of the class that the others call to be made -/
structure BaseI (K : PySem.W.Frag) (CB : Addr) : Prop where
  sp : PySem.W.specialIn K (.ref CB) "__getattribute__" = some (some (.builtin "type.__getattribute__"))
  mt : PySem.W.typeIn K (.ref CB) = some (.type "type")
  rd : PySem.W.readsIn K CB (.type "type") = true
  vV : PySem.W.findCls K (.ref CB) (.type "type") "__init__" = some (.val (.builtin "ValueError.__init__"))
theorem oexC_mk {K : PySem.W.Frag} {C : Addr} {nm q : Str} {N : Addr} {bs bm : List Value} {sn : List Str} {sub : List Value} {ab : Bool} {col : Option Bool} {dd : Option Addr} {k0 k1 k2 k3 k5 : Option Value}
    (l : K.lookup C = some (excClassObj nm q C N bs bm true sn sub ab col dd k0 k1 k2 k3 k5 "ValueError.__new__")) (hm : PySem.HandSPX.refsVE bm = true) (sa : PySem.W.findIn K (.ref C) "__setattr__" = some (some (.builtin "object.__setattr__"))) (e : ErrK K C) : OexC K C :=
  ⟨⟨nm, q, N, bs, bm, sn, sub, ab, col, dd, k0, k1, k2, k3, k5, l, hm⟩, sa, e.ba, e.ty, e.kp⟩
theorem errK_mk {K : PySem.W.Frag} {C : Addr} (kp : PySem.W.keepIn K (.ref C) = true) (ba : PySem.W.subIn K (.ref C) (.type "BaseException") = some true) (ty : PySem.W.typeIn K (.ref C) = some (.type "type")) (hd : PySem.W.hasDictIn K C = true)
    (ga : PySem.W.findIn K (.ref C) "__getattribute__" = some (some (.builtin "BaseException.__getattribute__"))) (gg : PySem.W.findIn K (.ref C) "__getattr__" = some none) (ca : PySem.W.findIn K (.ref C) "__class__" = some (some (.builtin "object.__class__")))
    (cg : PySem.W.specialIn K (.builtin "object.__class__") "__get__" = some (some (.builtin "getset_descriptor.__get__"))) (ct : PySem.W.takesIn K (.builtin "object.__class__") = some true) (ob : PySem.W.mroIn K C (.type "object") = some true) : ErrK K C := ⟨kp, ba, ty, hd, ga, gg, ca, cg, ct, ob⟩
theorem baseI_mk {K : PySem.W.Frag} {CB : Addr} (sp : PySem.W.specialIn K (.ref CB) "__getattribute__" = some (some (.builtin "type.__getattribute__"))) (mt : PySem.W.typeIn K (.ref CB) = some (.type "type")) (rd : PySem.W.readsIn K CB (.type "type") = true)
    (vV : PySem.W.findCls K (.ref CB) (.type "type") "__init__" = some (.val (.builtin "ValueError.__init__"))) : BaseI K CB := ⟨sp, mt, rd, vV⟩
end LX
-- X8
namespace LX
variable [LC.Tbl]
open PySem PySem.Spec PyProof.Rows L2 LC
/-- a statement that never comes to its end: what is behind it doesn't count -/
theorem pss_stop {X : Cx} {st : Stmt} {rest : List Stmt} {t : TS} (h1 : PS X st t) : PSs X (st :: rest) (fun D σ H => t { D with nx := fun _ _ => False } σ H) := by
  refine ⟨fun pins s σ H D I h => ?_⟩
  refine wpAny_execs_cons (thn (h1.run pins s σ H { D with nx := fun _ _ => False } I h) fun f s1 q => ?_)
  cases f with
  | next =>
    obtain ⟨_, _, _, q⟩ := q
    exact q.elim
  | ret v => exact q
  | brk => exact q
  | cont => exact q
theorem eqvs_ints : ∀ r : List Int, PyData.eqvAll (r.map PyData.int) (r.map PyData.int) = true
  | [] => rfl
  | a :: r => by
    show (PyData.eqv (.int a) (.int a) && PyData.eqvAll (r.map PyData.int) (r.map PyData.int)) = true
    rw [eqvs_ints r, Bool.and_true]
    show (a == a) = true
    exact beq_self_eq_true a
theorem shaped_ints (r : List Int) : SeqAt.shaped (.tuple (r.map PyData.int)) = true := by
  simp [SeqAt.shaped, PyData.canLay0, PyData.depth, PySem.W.ke_canLayAll0, PySem.W.ke_depthAll]
/-- two tuples of the same whole numbers -/
theorem eq_ints {K : PySem.W.Frag} {H : Hp} {Q : VK} {a b : Addr} {r : List Int} (ha : H a = some (.tup (r.map V.int))) (hb : H b = some (.tup (r.map V.int))) (q : Q (.bl true) H) : rEqD K (.ref a) (.ref b) H Q := by
  refine ⟨.tuple (r.map .int), .tuple (r.map .int), .tup (SqT.of ha) (dp_ints r), .tup (SqT.of hb) (dp_ints r), shaped_ints r, shaped_ints r, ?_⟩
  rw [show PyData.eqv (.tuple (r.map PyData.int)) (.tuple (r.map PyData.int)) = true from eqvs_ints r]
  exact q
/-- a table and another address may change -/
abbrev RP (row PL : Addr) : Addr → Prop := fun a => a = row ∨ a = PL
end LX
-- X9
namespace LX
variable [LC.Tbl]
open PySem PySem.Spec PyProof.Rows L2 LC
section
variable {K : PySem.W.Frag} {H : Hp} {Q : VK} {a b : Addr} {xs ys : List V} {k : Nat}
/-- a tuple's slice: it, or a new one -/
theorem slA {lo hi : Option Int} (h : H a = some (.tup xs)) (q : ∀ H' p, Xn H H' → H' p = some (.tup (cutV xs lo hi)) → Q (.ref p) H') : rSlA K (.ref a) lo hi H Q := by
  refine ⟨a, xs, rfl, SqT.of h, fun z => q H a Xt.refl ?_, fun _ p hp => q _ p (Xt.new hp) upd_same⟩
  have e : cutV xs lo hi = xs := by unfold cutV; rw [z.1, z.2, List.drop_zero, Nat.sub_zero, List.take_length]
  rw [e]; exact h
theorem sl_to (h : H a = some (.tup xs)) (hk : k ≤ xs.length) (q : ∀ H' p, Xn H H' → H' p = some (.tup (xs.take k)) → Q (.ref p) H') : rSlA K (.ref a) none (some (k : Int)) H Q := slA h fun H' p x e => q H' p x (by
  have z : cutV xs none (some (k : Int)) = xs.take k := by unfold cutV; rw [HT.sIx_nat, HT.sIx_none, List.drop_zero, Nat.sub_zero, Nat.min_eq_left hk]
  rw [← z]; exact e)
theorem sl_from (h : H a = some (.tup xs)) (hk : k ≤ xs.length) (q : ∀ H' p, Xn H H' → H' p = some (.tup (xs.drop k)) → Q (.ref p) H') : rSlA K (.ref a) (some (k : Int)) none H Q := slA h fun H' p x e => q H' p x (by
  have z : cutV xs (some (k : Int)) none = xs.drop k := by unfold cutV; rw [HT.sIx_nat, HT.sIx_none, Nat.min_eq_left hk, List.take_of_length_le (by rw [List.length_drop]; exact Nat.le_refl _)]
  rw [← z]; exact e)
theorem sl_fromN {σ : L2.St} {i : Int} (h : H a = some (.tup xs)) (e : i = (k : Int)) (hk : k ≤ xs.length) (q : ∀ H' p, Xn H H' → H' p = some (.tup (xs.drop k)) → Q (.ref p) H') : tNoPart σ H (fun u H3 => rSlA K (.ref a) (some i) u H3 Q) := e ▸ sl_from h hk q
theorem sl_last (h : H a = some (.tup xs)) (hk : xs ≠ []) (q : ∀ H' p, Xn H H' → H' p = some (.tup xs.dropLast) → Q (.ref p) H') : rSlA K (.ref a) none (some (-1)) H Q := slA h fun H' p x e => q H' p x (by
  have hl : 0 < xs.length := List.length_pos_iff.mpr hk
  have z : cutV xs none (some (-1)) = xs.dropLast := by
    unfold cutV
    rw [HT.sIx_none, List.drop_zero, Nat.sub_zero, List.dropLast_eq_take]
    have : HT.sIx xs.length xs.length (some (-1)) = xs.length - 1 := by
      show (if (-1 : Int) < 0 then (-1 + (xs.length : Int)).toNat else min (-1 : Int).toNat xs.length) = _
      rw [if_pos (by decide)]; omega
    rw [this]
  rw [← z]; exact e)
/-- two tuples joined: one of them, or a new one -/
theorem catA (ha : H a = some (.tup xs)) (hb : H b = some (.tup ys)) (hz : xs.length + ys.length ≤ 1000) (q : ∀ H' p, Xn H H' → H' p = some (.tup (xs ++ ys)) → Q (.ref p) H') : rCatA K (.ref a) (.ref b) H Q := by
  refine ⟨a, b, xs, ys, rfl, rfl, SqT.of ha, SqT.of hb, Nat.le_trans hz (by rw [sizeLine_eq]; decide), fun z => q H b Xt.refl (by rw [z]; exact hb), fun _ z => q H a Xt.refl (by rw [z, List.append_nil]; exact ha), fun _ _ p hp => q _ p (Xt.new hp) upd_same⟩
end
/-- a statement, behind it a state that is named: branches come together there -/
theorem pss_cut {X : Cx} {st : Stmt} {rest : List Stmt} {t u : TS} (h1 : PS X st t) (h2 : PSs X rest u) : PSs X (st :: rest) (fun D σ H => ∃ Post : L2.St → Hp → Prop, t { D with nx := Post } σ H ∧ ∀ σ' H', Post σ' H' → u D σ' H') := by
  refine ⟨fun pins s σ H D I ⟨Post, h, hp⟩ => ?_⟩
  refine wpAny_execs_cons (thn (h1.run pins s σ H { D with nx := Post } I h) fun f s1 q => ?_)
  cases f with
  | next =>
    obtain ⟨σ', H', I', q⟩ := q
    exact h2.run pins s1 σ' H' D I' (hp _ _ q)
  | ret v => exact q
  | brk => exact q
  | cont => exact q
/-- what an error says of a plan -/
structure DW (w : V) (dw : LC.D) : Prop where
  at' : ∀ H : Hp, At H dw w
  s1 : SeqAt.shaped (LC.D.tup [.str "plan", dw]).py = true
  e1 : PyData.eqv (LC.D.tup [.str "plan", dw]).py (LC.D.tup [.str "plan", dw]).py = true
  s5 : SeqAt.shaped (LC.D.lst (List.replicate 5 (LC.D.tup [.str "plan", dw]))).py = true
  e5 : PyData.eqv (LC.D.lst (List.replicate 5 (LC.D.tup [.str "plan", dw]))).py (LC.D.lst (List.replicate 5 (LC.D.tup [.str "plan", dw]))).py = true
  fx : (LC.D.tup [.str "plan", dw]).fix = true
theorem dw_non : DW .non .non := ⟨fun _ => by unfold At; rfl, by decide +kernel, by decide +kernel, by decide +kernel, by decide +kernel, rfl⟩
theorem dw_int (a : Int) : DW (.int a) (.int a) := by
  have e1 : PyData.eqv (LC.D.tup [.str "plan", .int a]).py (LC.D.tup [.str "plan", .int a]).py = true := by
    show ((("plan" : Str) == ("plan" : Str)) && ((a == a) && true)) = true
    rw [beq_self_eq_true, beq_self_eq_true]; rfl
  refine ⟨fun _ => by unfold At; rfl, ?_, e1, ?_, ?_, rfl⟩
  · simp [SeqAt.shaped, LC.D.py, LC.D.pys, PyData.canLay0, PyData.canLayAll0, PyData.depth, PyData.depthAll]; decide +kernel
  · simp [SeqAt.shaped, LC.D.py, LC.D.pys, PyData.canLay0, PyData.canLayAll0, PyData.depth, PyData.depthAll, List.replicate]; decide +kernel
  · show (PyData.eqv _ _ && (PyData.eqv _ _ && (PyData.eqv _ _ && (PyData.eqv _ _ && (PyData.eqv _ _ && true))))) = true
    simp only [e1, Bool.and_self, Bool.and_true]
/-- the draws' row and the tables between a law's statements, its clock and its plan -/
structure Cp (K : PySem.W.Frag) (Ts : List Addr) (PL : Addr) (q : Str) (row scr : Addr) (ns : List Int) (cv : V) (k : Clk) (pa : Addr) (rs : List V) (pl : List (List Int)) (H : Hp) : Prop where
  s : Sta K Ts PL q H row scr ns
  c : ClkAt H cv k
  p : H pa = some (.tup rs)
  r : Rows H rs pl
section
variable {K : PySem.W.Frag} {Ts : List Addr} {PL : Addr} {q : Str} {row scr : Addr} {ns : List Int} {cv : V} {k : Clk} {pa : Addr} {rs : List V} {pl : List (List Int)} {H H1 : Hp}
theorem Cp.xn (h : Cp K Ts PL q row scr ns cv k pa rs pl H) (n : PL ∉ Tbl.ts) (x : Xn H H1) : Cp K Ts PL q row scr ns cv k pa rs pl H1 := ⟨h.s.xn n x, h.c.x x, x.tups _ _ h.p, h.r.x x⟩
theorem Cp.drawn (h : Cp K Ts PL q row scr ns cv k pa rs pl H) (n : PL ∉ Tbl.ts) (x : Xt (At1 row) H H1) (r : RowAt K H1 row scr ns) : Cp K Ts PL q row scr ns cv k pa rs pl H1 := ⟨h.s.drawn n x r, h.c.x x, x.tups _ _ h.p, h.r.x x⟩
theorem Cp.works (h : Cp K Ts PL q row scr ns cv k pa rs pl H) (x : Xt (At1 PL) H H1) (l : LamX.TabS H1 PL q) : Cp K Ts PL q row scr ns cv k pa rs pl H1 := ⟨h.s.works x l, h.c.x x, x.tups _ _ h.p, h.r.x x⟩
/-- what stands at an address that is neither the draws' row nor the table stays -/
theorem Cp.apart (h : Cp K Ts PL q row scr ns cv k pa rs pl H) {a : Addr} {o : HO} (e : H a = some o) (n : ∀ ps, o ≠ .tbl ps) (nr : a ≠ row) (x : Xt (RP row PL) H H1) : H1 a = some o := x.keep a o (fun z => z.elim nr fun z => by
  obtain ⟨ps, e1, _⟩ := h.s.l
  rw [z, e1] at e
  cases e
  exact n _ rfl) n e
end
end LX
-- K02_r0
namespace K02
open PySem PySem.Spec PyProof.Rows L2 LC
variable [Tbl]
variable {P : Program} {w : World} {K : PySem.W.Frag} {mg : Str → Option Value} {base : Heap} {f c : Addr} {fd : FuncData} {Ts : List Addr} {TP : Addr} {ad : Str → Addr}
abbrev askedL : List Str := ["BadClock", "BadWheel", "BadEdition", "BadTick"]
abbrev plainL : List Str := ["BadWheel", "BadEdition", "BadTick"]
def AnsR (x : Str) (fv : Option (Str × V)) (d : LC.D) : Prop := (x = "BadClock" ∧ ∃ (u : V) (du : LC.D), fv = some (("part" : Str), u) ∧ (∀ H : Hp, At H du u) ∧ d = .tup [.str "clock", du]) ∨ (x = "BadWheel" ∧ fv = none ∧ d = .str "wheel") ∨ (x = "BadEdition" ∧ fv = none ∧ d = .str "edition") ∨ (x = "BadTick" ∧ fv = none ∧ d = .str "tick")
def sp_law_refused (P : Program) (w : World) (K : PySem.W.Frag) (mg : Str → Option Value) (base : Heap) (ad : Str → Addr) (kk : Nat) : Sp := fun vs H Q _ => ∃ (f : Addr) (x : Str) (fv : Option (Str × V)) (d : LC.D), vs = [.ref f] ∧ LX.Refuses P w K mg base ad kk f H x fv ∧ AnsR x fv d ∧ ∀ H' v, Xn H H' → At H' d v → Q v H'
theorem ok_law_refused {kk : Nat} (T : Txt mg) (TE : LX.ErrT K mg ad askedL plainL) (NF_BadClock : PySem.W.findIn K (.ref (ad "BadClock")) "part" = some none) (F : FunC K "_law_refused" s_law_refused f fd c) : FnOk P w K mg base CX0 (kk + 1) f fd ["work"] (sp_law_refused P w K mg base ad kk) := by
  refine F.ok sc_law_refused (fun vs H Q E h => ?_) (fun A outer s H vs Q E hr h => ⟨_, (pss_cons (ps_set (i := 1) sc_law_refused.nd rfl (Or.inl rfl) pe_non)
    (pss_cons (ps_try_as (i := 2) rfl rfl sc_law_refused.nd rfl rfl ⟨rfl, by decide, .inl TE.top⟩ takes0 (fun W pn xe tk _ => by exact (pss_one (ps_expr (LX.pe_thunk (P := P) (w := w) (K := K) (mg := mg) (base := base) (i := 0) rfl rfl rfl rfl rfl hr (by rfl) (Or.inl (by rfl)) tk))))
    (fun a oe cls d pn hz hf => by exact (pss_cons (ps_set (i := 3) sc_law_refused.nd rfl (Or.inl rfl) (pe_lst pa_nil))
    (pss_cons (ps_expr (LX.pe_bmK (K := K) (fun _ => rAppend) PySem.F.plainAttrs_list PySem.F.slot_list_append PySem.F.type_list_append mt_append (pv 3) (pa_cons (pe_callB (LX.call_isX hz hf) (by rfl) T.g_isinstance (by decide +kernel) (pa_cons (pv 2) (pa_cons (LX.pe_cls (TE.cls "BadClock" (by decide)) (by rfl)) pa_nil))) pa_nil) (by rfl)))
    (pss_cons (ps_expr (LX.pe_bmK (K := K) (fun _ => rAppend) PySem.F.plainAttrs_list PySem.F.slot_list_append PySem.F.type_list_append mt_append (pv 3) (pa_cons (pe_callB (LX.call_isX hz hf) (by rfl) T.g_isinstance (by decide +kernel) (pa_cons (pv 2) (pa_cons (LX.pe_cls (TE.cls "BadWheel" (by decide)) (by rfl)) pa_nil))) pa_nil) (by rfl)))
    (pss_cons (ps_expr (LX.pe_bmK (K := K) (fun _ => rAppend) PySem.F.plainAttrs_list PySem.F.slot_list_append PySem.F.type_list_append mt_append (pv 3) (pa_cons (pe_callB (LX.call_isX hz hf) (by rfl) T.g_isinstance (by decide +kernel) (pa_cons (pv 2) (pa_cons (LX.pe_cls (TE.cls "BadEdition" (by decide)) (by rfl)) pa_nil))) pa_nil) (by rfl)))
    (pss_cons (ps_expr (LX.pe_bmK (K := K) (fun _ => rAppend) PySem.F.plainAttrs_list PySem.F.slot_list_append PySem.F.type_list_append mt_append (pv 3) (pa_cons (pe_callB (LX.call_isX hz hf) (by rfl) T.g_isinstance (by decide +kernel) (pa_cons (pv 2) (pa_cons (LX.pe_cls (TE.cls "BadTick" (by decide)) (by rfl)) pa_nil))) pa_nil) (by rfl)))
    (pss_cons (ps_set (i := 4) sc_law_refused.nd rfl (Or.inl rfl) (pe_lst (pa_cons pe_str (pa_cons pe_str (pa_cons pe_str (pa_cons pe_str pa_nil))))))
    (pss_cons (ps_set (i := 1) sc_law_refused.nd rfl (Or.inl rfl) (pe_ifExp (pt_cmpR op_eq (LX.pe_bmK (K := K) (LX.rCntB) PySem.F.plainAttrs_list PySem.F.slot_list_count PySem.F.type_list_count LX.mt_countB (pv 3) (pa_cons pe_bl pa_nil) (by rfl)) pe_int (nomark _)) (pe_ix (ixK (K := K) rIxL ix_list rfl) (pv 4) (LX.pe_bmK (K := K) (rIndex) PySem.F.plainAttrs_list PySem.F.slot_list_index PySem.F.type_list_index mt_index (pv 3) (pa_cons pe_bl pa_nil) (by rfl)) (fun _ _ => rfl)) pe_str))
    (pss_one (ps_set (i := 1) sc_law_refused.nd rfl (Or.inl rfl) (pe_ifExp (pt_cmpR op_eq (pv 1) pe_str (nomark _)) (pe_tup (pa_cons pe_str (pa_cons (LX.pe_xfX hz hf (pv 2)) pa_nil))) (pv 1)))))))))))))
    (pss_one (ps_ret (pv 1))))), ?_⟩)
  · obtain ⟨f, x, fv, d, rfl, _⟩ := h; rfl
  · obtain ⟨f, x, fv, d, rfl, hR, hans, q⟩ := h
    refine ⟨f, _, rfl, hR H Xt.refl, fun cls e0 H1 x1 eo => ?_⟩
    have hD := LX.ErrOf.hasD eo
    obtain ⟨rfl, hd⟩ := eo
    rcases hans with ⟨rfl, u, du, rfl, hu, rfl⟩ | ⟨rfl, rfl, rfl⟩ | ⟨rfl, rfl, rfl⟩ | ⟨rfl, rfl, rfl⟩
    · refine ⟨true, TE.exm "BadClock" (by decide), fun _ a ha => ?_, fun z => nomatch z⟩
      obtain ⟨dd, rfl, hdd⟩ := hd
      refine ⟨by show 0 ≤ sizeLine; decide, fun L hL => ?_⟩
      have hl0 : upd H1 L (.lst ([] : List V)) L = some (.lst []) := upd_same
      have hdd := upd_old (u := .lst ([] : List V)) hdd hL
      have y0 : Xn H (upd H1 L (.lst ([] : List V))) := x1.trans (Xt.new hL)
      generalize upd H1 L (.lst ([] : List V)) = G0 at hl0 y0 hdd ⊢
      refine ⟨_, rfl, .inl ⟨rfl, _, SqL.of hl0⟩, _, rfl, _, _, _, true, rfl, (TE.cls "BadClock" (by decide)).toErrK, ⟨_, hdd⟩, rfl, (fun _ r => r), (TE.kit "BadClock" (by decide) "BadClock" (by decide)).trans (congrArg some (by decide)), L, _, _, rfl, rfl, hl0, by show 0 < sizeLine; decide, ?_⟩
      have hl1 : upd G0 L (.lst ([.bl true] : List V)) L = some (.lst ([.bl true] : List V)) := upd_same
      have y1 : Xn H (upd G0 L (.lst ([.bl true] : List V))) := y0.young (x1.backN hL)
      have hdd : upd G0 L (.lst ([.bl true] : List V)) dd = _ := (upd_ne (ne_of hdd hl0 (fun z => by cases z))).trans hdd
      generalize hG1 : upd G0 L (.lst ([.bl true] : List V)) = G1 at hl1 y1 hdd
      replace hG1 : upd G0 L (.lst (([] : List V) ++ [V.bl true])) = G1 := hG1
      rw [hG1]
      refine ⟨_, rfl, .inl ⟨rfl, _, SqL.of hl1⟩, _, rfl, _, _, _, false, rfl, (TE.cls "BadClock" (by decide)).toErrK, ⟨_, hdd⟩, rfl, (fun _ r => r), (TE.kit "BadClock" (by decide) "BadWheel" (by decide)).trans (congrArg some (by decide)), L, _, _, rfl, rfl, hl1, by show 1 < sizeLine; decide, ?_⟩
      have hl2 : upd G1 L (.lst ([.bl true, .bl false] : List V)) L = some (.lst ([.bl true, .bl false] : List V)) := upd_same
      have y2 : Xn H (upd G1 L (.lst ([.bl true, .bl false] : List V))) := y1.young (x1.backN hL)
      have hdd : upd G1 L (.lst ([.bl true, .bl false] : List V)) dd = _ := (upd_ne (ne_of hdd hl1 (fun z => by cases z))).trans hdd
      generalize hG2 : upd G1 L (.lst ([.bl true, .bl false] : List V)) = G2 at hl2 y2 hdd
      replace hG2 : upd G1 L (.lst (([.bl true] : List V) ++ [V.bl false])) = G2 := hG2
      rw [hG2]
      refine ⟨_, rfl, .inl ⟨rfl, _, SqL.of hl2⟩, _, rfl, _, _, _, false, rfl, (TE.cls "BadClock" (by decide)).toErrK, ⟨_, hdd⟩, rfl, (fun _ r => r), (TE.kit "BadClock" (by decide) "BadEdition" (by decide)).trans (congrArg some (by decide)), L, _, _, rfl, rfl, hl2, by show 2 < sizeLine; decide, ?_⟩
      have hl3 : upd G2 L (.lst ([.bl true, .bl false, .bl false] : List V)) L = some (.lst ([.bl true, .bl false, .bl false] : List V)) := upd_same
      have y3 : Xn H (upd G2 L (.lst ([.bl true, .bl false, .bl false] : List V))) := y2.young (x1.backN hL)
      have hdd : upd G2 L (.lst ([.bl true, .bl false, .bl false] : List V)) dd = _ := (upd_ne (ne_of hdd hl2 (fun z => by cases z))).trans hdd
      generalize hG3 : upd G2 L (.lst ([.bl true, .bl false, .bl false] : List V)) = G3 at hl3 y3 hdd
      replace hG3 : upd G2 L (.lst (([.bl true, .bl false] : List V) ++ [V.bl false])) = G3 := hG3
      rw [hG3]
      refine ⟨_, rfl, .inl ⟨rfl, _, SqL.of hl3⟩, _, rfl, _, _, _, false, rfl, (TE.cls "BadClock" (by decide)).toErrK, ⟨_, hdd⟩, rfl, (fun _ r => r), (TE.kit "BadClock" (by decide) "BadTick" (by decide)).trans (congrArg some (by decide)), L, _, _, rfl, rfl, hl3, by show 3 < sizeLine; decide, ?_⟩
      have hl4 : upd G3 L (.lst ([.bl true, .bl false, .bl false, .bl false] : List V)) L = some (.lst ([.bl true, .bl false, .bl false, .bl false] : List V)) := upd_same
      have y4 : Xn H (upd G3 L (.lst ([.bl true, .bl false, .bl false, .bl false] : List V))) := y3.young (x1.backN hL)
      have hdd : upd G3 L (.lst ([.bl true, .bl false, .bl false, .bl false] : List V)) dd = _ := (upd_ne (ne_of hdd hl3 (fun z => by cases z))).trans hdd
      generalize hG4 : upd G3 L (.lst ([.bl true, .bl false, .bl false, .bl false] : List V)) = G4 at hl4 y4 hdd
      replace hG4 : upd G3 L (.lst (([.bl true, .bl false, .bl false] : List V) ++ [V.bl false])) = G4 := hG4
      rw [hG4]
      refine ⟨by show 4 ≤ sizeLine; decide, fun Ln hLn => ?_⟩
      have hk := upd_old (u := .lst [.str "clock", .str "wheel", .str "edition", .str "tick"]) hl4 hLn
      have hn : upd G4 Ln (.lst [V.str "clock", V.str "wheel", V.str "edition", V.str "tick"]) Ln = _ := upd_same
      have yn := y4.trans (Xt.new (S := No) (o := .lst [V.str "clock", V.str "wheel", V.str "edition", V.str "tick"]) hLn)
      have hdn := upd_old (u := .lst [V.str "clock", V.str "wheel", V.str "edition", V.str "tick"]) hdd hLn
      refine ⟨_, rfl, .inl ⟨rfl, _, SqL.of hk⟩, L, [true, false, false, false], true, rfl, rfl, SqL.of hk, rfl, _, rfl, LX.itT (by decide) ?_⟩
      refine ⟨_, rfl, _, rfl, .inl ⟨rfl, _, SqL.of hk⟩, ?_⟩
      dsimp only [tCons, tC, tNil]
      refine LX.index_true (bs := [true, false, false, false]) (SqL.of hk) rfl ?_
      refine rixL 0 (SqL.of hn) rfl rfl ?_
      refine ⟨_, rfl, rfl, _, rfl, LX.itT (by decide +kernel) ⟨_, rfl, rfl, _, dd, _, u, rfl, (TE.cls "BadClock" (by decide)).toErrK, NF_BadClock, rfl, hdn, rfl, by show 2 ≤ sizeLine; decide, fun p hp => ?_⟩⟩
      have yn := yn.trans (Xt.new (S := No) (o := .tup [.str "clock", u]) hp)
      exact ⟨_, rfl, q _ _ yn (at_tup.mpr ⟨p, _, rfl, upd_same, Ats.cons (by unfold At; rfl) (Ats.cons (hu _) Ats.nil)⟩)⟩
    · refine ⟨true, TE.exm "BadWheel" (by decide), fun _ a ha => ?_, fun z => nomatch z⟩
      refine ⟨by show 0 ≤ sizeLine; decide, fun L hL => ?_⟩
      have hl0 : upd H1 L (.lst ([] : List V)) L = some (.lst []) := upd_same
      have y0 : Xn H (upd H1 L (.lst ([] : List V))) := x1.trans (Xt.new hL)
      generalize upd H1 L (.lst ([] : List V)) = G0 at hl0 y0  ⊢
      obtain rfl : e0 = none := hd
      have hDn : ∀ G : Hp, LX.HasD G none := fun _ => True.intro
      refine ⟨_, rfl, .inl ⟨rfl, _, SqL.of hl0⟩, _, rfl, _, _, _, false, rfl, (TE.cls "BadWheel" (by decide)).toErrK, (hDn _), rfl, (fun _ r => r), (TE.kit "BadWheel" (by decide) "BadClock" (by decide)).trans (congrArg some (by decide)), L, _, _, rfl, rfl, hl0, by show 0 < sizeLine; decide, ?_⟩
      have hl1 : upd G0 L (.lst ([.bl false] : List V)) L = some (.lst ([.bl false] : List V)) := upd_same
      have y1 : Xn H (upd G0 L (.lst ([.bl false] : List V))) := y0.young (x1.backN hL)
      generalize hG1 : upd G0 L (.lst ([.bl false] : List V)) = G1 at hl1 y1 
      replace hG1 : upd G0 L (.lst (([] : List V) ++ [V.bl false])) = G1 := hG1
      rw [hG1]
      refine ⟨_, rfl, .inl ⟨rfl, _, SqL.of hl1⟩, _, rfl, _, _, _, true, rfl, (TE.cls "BadWheel" (by decide)).toErrK, (hDn _), rfl, (fun _ r => r), (TE.kit "BadWheel" (by decide) "BadWheel" (by decide)).trans (congrArg some (by decide)), L, _, _, rfl, rfl, hl1, by show 1 < sizeLine; decide, ?_⟩
      have hl2 : upd G1 L (.lst ([.bl false, .bl true] : List V)) L = some (.lst ([.bl false, .bl true] : List V)) := upd_same
      have y2 : Xn H (upd G1 L (.lst ([.bl false, .bl true] : List V))) := y1.young (x1.backN hL)
      generalize hG2 : upd G1 L (.lst ([.bl false, .bl true] : List V)) = G2 at hl2 y2 
      replace hG2 : upd G1 L (.lst (([.bl false] : List V) ++ [V.bl true])) = G2 := hG2
      rw [hG2]
      refine ⟨_, rfl, .inl ⟨rfl, _, SqL.of hl2⟩, _, rfl, _, _, _, false, rfl, (TE.cls "BadWheel" (by decide)).toErrK, (hDn _), rfl, (fun _ r => r), (TE.kit "BadWheel" (by decide) "BadEdition" (by decide)).trans (congrArg some (by decide)), L, _, _, rfl, rfl, hl2, by show 2 < sizeLine; decide, ?_⟩
      have hl3 : upd G2 L (.lst ([.bl false, .bl true, .bl false] : List V)) L = some (.lst ([.bl false, .bl true, .bl false] : List V)) := upd_same
      have y3 : Xn H (upd G2 L (.lst ([.bl false, .bl true, .bl false] : List V))) := y2.young (x1.backN hL)
      generalize hG3 : upd G2 L (.lst ([.bl false, .bl true, .bl false] : List V)) = G3 at hl3 y3 
      replace hG3 : upd G2 L (.lst (([.bl false, .bl true] : List V) ++ [V.bl false])) = G3 := hG3
      rw [hG3]
      refine ⟨_, rfl, .inl ⟨rfl, _, SqL.of hl3⟩, _, rfl, _, _, _, false, rfl, (TE.cls "BadWheel" (by decide)).toErrK, (hDn _), rfl, (fun _ r => r), (TE.kit "BadWheel" (by decide) "BadTick" (by decide)).trans (congrArg some (by decide)), L, _, _, rfl, rfl, hl3, by show 3 < sizeLine; decide, ?_⟩
      have hl4 : upd G3 L (.lst ([.bl false, .bl true, .bl false, .bl false] : List V)) L = some (.lst ([.bl false, .bl true, .bl false, .bl false] : List V)) := upd_same
      have y4 : Xn H (upd G3 L (.lst ([.bl false, .bl true, .bl false, .bl false] : List V))) := y3.young (x1.backN hL)
      generalize hG4 : upd G3 L (.lst ([.bl false, .bl true, .bl false, .bl false] : List V)) = G4 at hl4 y4 
      replace hG4 : upd G3 L (.lst (([.bl false, .bl true, .bl false] : List V) ++ [V.bl false])) = G4 := hG4
      rw [hG4]
      refine ⟨by show 4 ≤ sizeLine; decide, fun Ln hLn => ?_⟩
      have hk := upd_old (u := .lst [.str "clock", .str "wheel", .str "edition", .str "tick"]) hl4 hLn
      have hn : upd G4 Ln (.lst [V.str "clock", V.str "wheel", V.str "edition", V.str "tick"]) Ln = _ := upd_same
      have yn := y4.trans (Xt.new (S := No) (o := .lst [V.str "clock", V.str "wheel", V.str "edition", V.str "tick"]) hLn)
      refine ⟨_, rfl, .inl ⟨rfl, _, SqL.of hk⟩, L, [false, true, false, false], true, rfl, rfl, SqL.of hk, rfl, _, rfl, LX.itT (by decide) ?_⟩
      refine ⟨_, rfl, _, rfl, .inl ⟨rfl, _, SqL.of hk⟩, ?_⟩
      dsimp only [tCons, tC, tNil]
      refine LX.index_true (bs := [false, true, false, false]) (SqL.of hk) rfl ?_
      refine rixL 1 (SqL.of hn) rfl rfl ?_
      refine ⟨_, rfl, rfl, _, rfl, LX.itF (by decide +kernel) ⟨_, rfl, ?_⟩⟩
      exact ⟨_, rfl, q _ _ yn (by unfold At; rfl)⟩
    · refine ⟨true, TE.exm "BadEdition" (by decide), fun _ a ha => ?_, fun z => nomatch z⟩
      refine ⟨by show 0 ≤ sizeLine; decide, fun L hL => ?_⟩
      have hl0 : upd H1 L (.lst ([] : List V)) L = some (.lst []) := upd_same
      have y0 : Xn H (upd H1 L (.lst ([] : List V))) := x1.trans (Xt.new hL)
      generalize upd H1 L (.lst ([] : List V)) = G0 at hl0 y0  ⊢
      obtain rfl : e0 = none := hd
      have hDn : ∀ G : Hp, LX.HasD G none := fun _ => True.intro
      refine ⟨_, rfl, .inl ⟨rfl, _, SqL.of hl0⟩, _, rfl, _, _, _, false, rfl, (TE.cls "BadEdition" (by decide)).toErrK, (hDn _), rfl, (fun _ r => r), (TE.kit "BadEdition" (by decide) "BadClock" (by decide)).trans (congrArg some (by decide)), L, _, _, rfl, rfl, hl0, by show 0 < sizeLine; decide, ?_⟩
      have hl1 : upd G0 L (.lst ([.bl false] : List V)) L = some (.lst ([.bl false] : List V)) := upd_same
      have y1 : Xn H (upd G0 L (.lst ([.bl false] : List V))) := y0.young (x1.backN hL)
      generalize hG1 : upd G0 L (.lst ([.bl false] : List V)) = G1 at hl1 y1 
      replace hG1 : upd G0 L (.lst (([] : List V) ++ [V.bl false])) = G1 := hG1
      rw [hG1]
      refine ⟨_, rfl, .inl ⟨rfl, _, SqL.of hl1⟩, _, rfl, _, _, _, false, rfl, (TE.cls "BadEdition" (by decide)).toErrK, (hDn _), rfl, (fun _ r => r), (TE.kit "BadEdition" (by decide) "BadWheel" (by decide)).trans (congrArg some (by decide)), L, _, _, rfl, rfl, hl1, by show 1 < sizeLine; decide, ?_⟩
      have hl2 : upd G1 L (.lst ([.bl false, .bl false] : List V)) L = some (.lst ([.bl false, .bl false] : List V)) := upd_same
      have y2 : Xn H (upd G1 L (.lst ([.bl false, .bl false] : List V))) := y1.young (x1.backN hL)
      generalize hG2 : upd G1 L (.lst ([.bl false, .bl false] : List V)) = G2 at hl2 y2 
      replace hG2 : upd G1 L (.lst (([.bl false] : List V) ++ [V.bl false])) = G2 := hG2
      rw [hG2]
      refine ⟨_, rfl, .inl ⟨rfl, _, SqL.of hl2⟩, _, rfl, _, _, _, true, rfl, (TE.cls "BadEdition" (by decide)).toErrK, (hDn _), rfl, (fun _ r => r), (TE.kit "BadEdition" (by decide) "BadEdition" (by decide)).trans (congrArg some (by decide)), L, _, _, rfl, rfl, hl2, by show 2 < sizeLine; decide, ?_⟩
      have hl3 : upd G2 L (.lst ([.bl false, .bl false, .bl true] : List V)) L = some (.lst ([.bl false, .bl false, .bl true] : List V)) := upd_same
      have y3 : Xn H (upd G2 L (.lst ([.bl false, .bl false, .bl true] : List V))) := y2.young (x1.backN hL)
      generalize hG3 : upd G2 L (.lst ([.bl false, .bl false, .bl true] : List V)) = G3 at hl3 y3 
      replace hG3 : upd G2 L (.lst (([.bl false, .bl false] : List V) ++ [V.bl true])) = G3 := hG3
      rw [hG3]
      refine ⟨_, rfl, .inl ⟨rfl, _, SqL.of hl3⟩, _, rfl, _, _, _, false, rfl, (TE.cls "BadEdition" (by decide)).toErrK, (hDn _), rfl, (fun _ r => r), (TE.kit "BadEdition" (by decide) "BadTick" (by decide)).trans (congrArg some (by decide)), L, _, _, rfl, rfl, hl3, by show 3 < sizeLine; decide, ?_⟩
      have hl4 : upd G3 L (.lst ([.bl false, .bl false, .bl true, .bl false] : List V)) L = some (.lst ([.bl false, .bl false, .bl true, .bl false] : List V)) := upd_same
      have y4 : Xn H (upd G3 L (.lst ([.bl false, .bl false, .bl true, .bl false] : List V))) := y3.young (x1.backN hL)
      generalize hG4 : upd G3 L (.lst ([.bl false, .bl false, .bl true, .bl false] : List V)) = G4 at hl4 y4 
      replace hG4 : upd G3 L (.lst (([.bl false, .bl false, .bl true] : List V) ++ [V.bl false])) = G4 := hG4
      rw [hG4]
      refine ⟨by show 4 ≤ sizeLine; decide, fun Ln hLn => ?_⟩
      have hk := upd_old (u := .lst [.str "clock", .str "wheel", .str "edition", .str "tick"]) hl4 hLn
      have hn : upd G4 Ln (.lst [V.str "clock", V.str "wheel", V.str "edition", V.str "tick"]) Ln = _ := upd_same
      have yn := y4.trans (Xt.new (S := No) (o := .lst [V.str "clock", V.str "wheel", V.str "edition", V.str "tick"]) hLn)
      refine ⟨_, rfl, .inl ⟨rfl, _, SqL.of hk⟩, L, [false, false, true, false], true, rfl, rfl, SqL.of hk, rfl, _, rfl, LX.itT (by decide) ?_⟩
      refine ⟨_, rfl, _, rfl, .inl ⟨rfl, _, SqL.of hk⟩, ?_⟩
      dsimp only [tCons, tC, tNil]
      refine LX.index_true (bs := [false, false, true, false]) (SqL.of hk) rfl ?_
      refine rixL 2 (SqL.of hn) rfl rfl ?_
      refine ⟨_, rfl, rfl, _, rfl, LX.itF (by decide +kernel) ⟨_, rfl, ?_⟩⟩
      exact ⟨_, rfl, q _ _ yn (by unfold At; rfl)⟩
    · refine ⟨true, TE.exm "BadTick" (by decide), fun _ a ha => ?_, fun z => nomatch z⟩
      refine ⟨by show 0 ≤ sizeLine; decide, fun L hL => ?_⟩
      have hl0 : upd H1 L (.lst ([] : List V)) L = some (.lst []) := upd_same
      have y0 : Xn H (upd H1 L (.lst ([] : List V))) := x1.trans (Xt.new hL)
      generalize upd H1 L (.lst ([] : List V)) = G0 at hl0 y0  ⊢
      obtain rfl : e0 = none := hd
      have hDn : ∀ G : Hp, LX.HasD G none := fun _ => True.intro
      refine ⟨_, rfl, .inl ⟨rfl, _, SqL.of hl0⟩, _, rfl, _, _, _, false, rfl, (TE.cls "BadTick" (by decide)).toErrK, (hDn _), rfl, (fun _ r => r), (TE.kit "BadTick" (by decide) "BadClock" (by decide)).trans (congrArg some (by decide)), L, _, _, rfl, rfl, hl0, by show 0 < sizeLine; decide, ?_⟩
      have hl1 : upd G0 L (.lst ([.bl false] : List V)) L = some (.lst ([.bl false] : List V)) := upd_same
      have y1 : Xn H (upd G0 L (.lst ([.bl false] : List V))) := y0.young (x1.backN hL)
      generalize hG1 : upd G0 L (.lst ([.bl false] : List V)) = G1 at hl1 y1 
      replace hG1 : upd G0 L (.lst (([] : List V) ++ [V.bl false])) = G1 := hG1
      rw [hG1]
      refine ⟨_, rfl, .inl ⟨rfl, _, SqL.of hl1⟩, _, rfl, _, _, _, false, rfl, (TE.cls "BadTick" (by decide)).toErrK, (hDn _), rfl, (fun _ r => r), (TE.kit "BadTick" (by decide) "BadWheel" (by decide)).trans (congrArg some (by decide)), L, _, _, rfl, rfl, hl1, by show 1 < sizeLine; decide, ?_⟩
      have hl2 : upd G1 L (.lst ([.bl false, .bl false] : List V)) L = some (.lst ([.bl false, .bl false] : List V)) := upd_same
      have y2 : Xn H (upd G1 L (.lst ([.bl false, .bl false] : List V))) := y1.young (x1.backN hL)
      generalize hG2 : upd G1 L (.lst ([.bl false, .bl false] : List V)) = G2 at hl2 y2 
      replace hG2 : upd G1 L (.lst (([.bl false] : List V) ++ [V.bl false])) = G2 := hG2
      rw [hG2]
      refine ⟨_, rfl, .inl ⟨rfl, _, SqL.of hl2⟩, _, rfl, _, _, _, false, rfl, (TE.cls "BadTick" (by decide)).toErrK, (hDn _), rfl, (fun _ r => r), (TE.kit "BadTick" (by decide) "BadEdition" (by decide)).trans (congrArg some (by decide)), L, _, _, rfl, rfl, hl2, by show 2 < sizeLine; decide, ?_⟩
      have hl3 : upd G2 L (.lst ([.bl false, .bl false, .bl false] : List V)) L = some (.lst ([.bl false, .bl false, .bl false] : List V)) := upd_same
      have y3 : Xn H (upd G2 L (.lst ([.bl false, .bl false, .bl false] : List V))) := y2.young (x1.backN hL)
      generalize hG3 : upd G2 L (.lst ([.bl false, .bl false, .bl false] : List V)) = G3 at hl3 y3 
      replace hG3 : upd G2 L (.lst (([.bl false, .bl false] : List V) ++ [V.bl false])) = G3 := hG3
      rw [hG3]
      refine ⟨_, rfl, .inl ⟨rfl, _, SqL.of hl3⟩, _, rfl, _, _, _, true, rfl, (TE.cls "BadTick" (by decide)).toErrK, (hDn _), rfl, (fun _ r => r), (TE.kit "BadTick" (by decide) "BadTick" (by decide)).trans (congrArg some (by decide)), L, _, _, rfl, rfl, hl3, by show 3 < sizeLine; decide, ?_⟩
      have hl4 : upd G3 L (.lst ([.bl false, .bl false, .bl false, .bl true] : List V)) L = some (.lst ([.bl false, .bl false, .bl false, .bl true] : List V)) := upd_same
      have y4 : Xn H (upd G3 L (.lst ([.bl false, .bl false, .bl false, .bl true] : List V))) := y3.young (x1.backN hL)
      generalize hG4 : upd G3 L (.lst ([.bl false, .bl false, .bl false, .bl true] : List V)) = G4 at hl4 y4 
      replace hG4 : upd G3 L (.lst (([.bl false, .bl false, .bl false] : List V) ++ [V.bl true])) = G4 := hG4
      rw [hG4]
      refine ⟨by show 4 ≤ sizeLine; decide, fun Ln hLn => ?_⟩
      have hk := upd_old (u := .lst [.str "clock", .str "wheel", .str "edition", .str "tick"]) hl4 hLn
      have hn : upd G4 Ln (.lst [V.str "clock", V.str "wheel", V.str "edition", V.str "tick"]) Ln = _ := upd_same
      have yn := y4.trans (Xt.new (S := No) (o := .lst [V.str "clock", V.str "wheel", V.str "edition", V.str "tick"]) hLn)
      refine ⟨_, rfl, .inl ⟨rfl, _, SqL.of hk⟩, L, [false, false, false, true], true, rfl, rfl, SqL.of hk, rfl, _, rfl, LX.itT (by decide) ?_⟩
      refine ⟨_, rfl, _, rfl, .inl ⟨rfl, _, SqL.of hk⟩, ?_⟩
      dsimp only [tCons, tC, tNil]
      refine LX.index_true (bs := [false, false, false, true]) (SqL.of hk) rfl ?_
      refine rixL 3 (SqL.of hn) rfl rfl ?_
      refine ⟨_, rfl, rfl, _, rfl, LX.itF (by decide +kernel) ⟨_, rfl, ?_⟩⟩
      exact ⟨_, rfl, q _ _ yn (by unfold At; rfl)⟩

def q_works : Str := ((PySem.Str.ofString "_law_works") ++ ".<locals>.") ++ "<lambda>"
abbrev lam0 : Expr := LX.lamOf (defBody s_law_works) 1
theorem scL0 : NdefX.NScope ["one"] [] ["one"] (LX.lamScope lam0) := NdefX.nscope_by (by decide +kernel)
theorem bdL0 (q : Str) (cl : List (Str × Addr)) (c : Addr) (pm ctv : Value) : bindArgs (PySem.W.kla_fn "<lambda>" q (LX.lamArgs lam0) (LX.lamBody lam0) (LX.lamScope lam0) cl pm (.ref c) ctv) ⟨[], []⟩ = pure [] := rfl
abbrev lam1 : Expr := LX.lamOf (defBody s_law_works) 2
theorem scL1 : NdefX.NScope ["one"] [] ["one"] (LX.lamScope lam1) := NdefX.nscope_by (by decide +kernel)
theorem bdL1 (q : Str) (cl : List (Str × Addr)) (c : Addr) (pm ctv : Value) : bindArgs (PySem.W.kla_fn "<lambda>" q (LX.lamArgs lam1) (LX.lamBody lam1) (LX.lamScope lam1) cl pm (.ref c) ctv) ⟨[], []⟩ = pure [] := rfl
abbrev lam2 : Expr := LX.lamOf (defBody s_law_works) 3
theorem scL2 : NdefX.NScope ["one"] [] ["one"] (LX.lamScope lam2) := NdefX.nscope_by (by decide +kernel)
theorem bdL2 (q : Str) (cl : List (Str × Addr)) (c : Addr) (pm ctv : Value) : bindArgs (PySem.W.kla_fn "<lambda>" q (LX.lamArgs lam2) (LX.lamBody lam2) (LX.lamScope lam2) cl pm (.ref c) ctv) ⟨[], []⟩ = pure [] := rfl
abbrev lam3 : Expr := LX.lamOf (defBody s_law_works) 4
theorem scL3 : NdefX.NScope ["one"] [] ["one"] (LX.lamScope lam3) := NdefX.nscope_by (by decide +kernel)
theorem bdL3 (q : Str) (cl : List (Str × Addr)) (c : Addr) (pm ctv : Value) : bindArgs (PySem.W.kla_fn "<lambda>" q (LX.lamArgs lam3) (LX.lamBody lam3) (LX.lamScope lam3) cl pm (.ref c) ctv) ⟨[], []⟩ = pure [] := rfl
abbrev lam4 : Expr := LX.lamOf (defBody s_law_works) 5
theorem scL4 : NdefX.NScope ["one", "other"] [] ["one", "other"] (LX.lamScope lam4) := NdefX.nscope_by (by decide +kernel)
theorem bdL4 (q : Str) (cl : List (Str × Addr)) (c : Addr) (pm ctv : Value) : bindArgs (PySem.W.kla_fn "<lambda>" q (LX.lamArgs lam4) (LX.lamBody lam4) (LX.lamScope lam4) cl pm (.ref c) ctv) ⟨[], []⟩ = pure [] := rfl
abbrev lam5 : Expr := LX.lamOf (defBody s_law_works) 6
theorem scL5 : NdefX.NScope ["one", "other", "third", "fourth"] [] ["one", "other", "third", "fourth"] (LX.lamScope lam5) := NdefX.nscope_by (by decide +kernel)
theorem bdL5 (q : Str) (cl : List (Str × Addr)) (c : Addr) (pm ctv : Value) : bindArgs (PySem.W.kla_fn "<lambda>" q (LX.lamArgs lam5) (LX.lamBody lam5) (LX.lamScope lam5) cl pm (.ref c) ctv) ⟨[], []⟩ = pure [] := rfl
def sp_law_works (PL : Addr) : Sp := fun vs H Q _ => ∃ (a0 a1 a2 a3 : V), vs = [a0, a1, a2, a3] ∧ LamX.TabS H PL q_works ∧ ∀ (H' : Hp) (L f0 f1 f2 f3 f4 f5 : Addr), Xt (At1 PL) H H' → H L = none → H' L = some (.lst [.ref f0, .ref f1, .ref f2, .ref f3, .ref f4, .ref f5]) → LamX.TabS H' PL q_works → (∃ cl c, LX.LamAt H' f0 (LX.lamF q_works lam0 cl c) (LX.lamBody lam0) ["one"] [a0]) → (∃ cl c, LX.LamAt H' f1 (LX.lamF q_works lam1 cl c) (LX.lamBody lam1) ["one"] [a0]) → (∃ cl c, LX.LamAt H' f2 (LX.lamF q_works lam2 cl c) (LX.lamBody lam2) ["one"] [a0]) → (∃ cl c, LX.LamAt H' f3 (LX.lamF q_works lam3 cl c) (LX.lamBody lam3) ["one"] [a0]) → (∃ cl c, LX.LamAt H' f4 (LX.lamF q_works lam4 cl c) (LX.lamBody lam4) ["one", "other"] [a0, a1]) → (∃ cl c, LX.LamAt H' f5 (LX.lamF q_works lam5 cl c) (LX.lamBody lam5) ["one", "other", "third", "fourth"] [a0, a1, a2, a3]) → Q (.ref L) H'
theorem ok_law_works {PL : Addr} (T : Txt mg) (TB : LamX.TabB base mg c PL) (F : FunC K "_law_works" s_law_works f fd c) : FnOk P w K mg base CX0 1 f fd ["one", "other", "third", "fourth"] (sp_law_works PL) := by
  refine LX.okCells (pre := (defBody s_law_works).dropLast) (y := "works") (j := 4) F sc_law_works (fun vs H Q E h => ?_) rfl rfl (.inl rfl) (by decide +kernel) (fun A outer s H vs Q E hr h => ⟨_, (pss_cons (ps_set (i := 4) sc_law_works.nd rfl (Or.inl rfl) (pe_lst pa_nil))
    (pss_cons (ps_expr (pe_bm PySem.F.plainAttrs_list PySem.F.slot_list_append PySem.F.type_list_append mt_append (pv 4) (pa_cons (LX.pe_mklam (sc := defScope s_law_works) (fr := ["one"]) rfl TB rfl (by decide +kernel) rfl) pa_nil)))
    (pss_cons (ps_expr (pe_bm PySem.F.plainAttrs_list PySem.F.slot_list_append PySem.F.type_list_append mt_append (pv 4) (pa_cons (LX.pe_mklam (sc := defScope s_law_works) (fr := ["one"]) rfl TB rfl (by decide +kernel) rfl) pa_nil)))
    (pss_cons (ps_expr (pe_bm PySem.F.plainAttrs_list PySem.F.slot_list_append PySem.F.type_list_append mt_append (pv 4) (pa_cons (LX.pe_mklam (sc := defScope s_law_works) (fr := ["one"]) rfl TB rfl (by decide +kernel) rfl) pa_nil)))
    (pss_cons (ps_expr (pe_bm PySem.F.plainAttrs_list PySem.F.slot_list_append PySem.F.type_list_append mt_append (pv 4) (pa_cons (LX.pe_mklam (sc := defScope s_law_works) (fr := ["one"]) rfl TB rfl (by decide +kernel) rfl) pa_nil)))
    (pss_cons (ps_expr (pe_bm PySem.F.plainAttrs_list PySem.F.slot_list_append PySem.F.type_list_append mt_append (pv 4) (pa_cons (LX.pe_mklam (sc := defScope s_law_works) (fr := ["one", "other"]) rfl TB rfl (by decide +kernel) rfl) pa_nil)))
    (pss_one (ps_expr (pe_bm PySem.F.plainAttrs_list PySem.F.slot_list_append PySem.F.type_list_append mt_append (pv 4) (pa_cons (LX.pe_mklam (sc := defScope s_law_works) (fr := ["one", "other", "third", "fourth"]) rfl TB rfl (by decide +kernel) rfl) pa_nil)))))))))), ?_⟩)
  · obtain ⟨a0, a1, a2, a3, rfl, _⟩ := h; rfl
  · obtain ⟨a0, a1, a2, a3, rfl, hT, q⟩ := h
    refine ⟨by show 0 ≤ sizeLine; decide, fun L hL => ?_⟩
    have M0 := LX.MadeL.start (cells := LX.cellsAt s (defScope s_law_works)) hT hL
    refine ⟨_, rfl, .inl ⟨rfl, _, SqL.of M0.l⟩, M0.t, fun f0 c0 H0 eN0 _ hT0 _ hf0 hc0 ck0 tb0 => ⟨L, _, _, rfl, rfl, M0.mid eN0, by show 0 < sizeLine; decide, ?_⟩⟩
    have O0_0 := LX.MadeOne.mk' (q := q_works) (e := lam0) (fr := ["one"]) M0 eN0 hf0 hc0 ck0 ⟨_, _, rfl⟩ f0
    have M1 := M0.snoc (f := f0) eN0 hT0 tb0
    refine ⟨_, rfl, .inl ⟨rfl, _, SqL.of M1.l⟩, M1.t, fun f1 c1 H1 eN1 _ hT1 _ hf1 hc1 ck1 tb1 => ⟨L, _, _, rfl, rfl, M1.mid eN1, by show 1 < sizeLine; decide, ?_⟩⟩
    have O1_1 := LX.MadeOne.mk' (q := q_works) (e := lam1) (fr := ["one"]) M1 eN1 hf1 hc1 ck1 ⟨_, _, rfl⟩ f1
    have O0_1 := O0_0.next M1 eN1 f1
    have M2 := M1.snoc (f := f1) eN1 hT1 tb1
    refine ⟨_, rfl, .inl ⟨rfl, _, SqL.of M2.l⟩, M2.t, fun f2 c2 H2 eN2 _ hT2 _ hf2 hc2 ck2 tb2 => ⟨L, _, _, rfl, rfl, M2.mid eN2, by show 2 < sizeLine; decide, ?_⟩⟩
    have O2_2 := LX.MadeOne.mk' (q := q_works) (e := lam2) (fr := ["one"]) M2 eN2 hf2 hc2 ck2 ⟨_, _, rfl⟩ f2
    have O0_2 := O0_1.next M2 eN2 f2
    have O1_2 := O1_1.next M2 eN2 f2
    have M3 := M2.snoc (f := f2) eN2 hT2 tb2
    refine ⟨_, rfl, .inl ⟨rfl, _, SqL.of M3.l⟩, M3.t, fun f3 c3 H3 eN3 _ hT3 _ hf3 hc3 ck3 tb3 => ⟨L, _, _, rfl, rfl, M3.mid eN3, by show 3 < sizeLine; decide, ?_⟩⟩
    have O3_3 := LX.MadeOne.mk' (q := q_works) (e := lam3) (fr := ["one"]) M3 eN3 hf3 hc3 ck3 ⟨_, _, rfl⟩ f3
    have O0_3 := O0_2.next M3 eN3 f3
    have O1_3 := O1_2.next M3 eN3 f3
    have O2_3 := O2_2.next M3 eN3 f3
    have M4 := M3.snoc (f := f3) eN3 hT3 tb3
    refine ⟨_, rfl, .inl ⟨rfl, _, SqL.of M4.l⟩, M4.t, fun f4 c4 H4 eN4 _ hT4 _ hf4 hc4 ck4 tb4 => ⟨L, _, _, rfl, rfl, M4.mid eN4, by show 4 < sizeLine; decide, ?_⟩⟩
    have O4_4 := LX.MadeOne.mk' (q := q_works) (e := lam4) (fr := ["one", "other"]) M4 eN4 hf4 hc4 ck4 ⟨_, _, rfl⟩ f4
    have O0_4 := O0_3.next M4 eN4 f4
    have O1_4 := O1_3.next M4 eN4 f4
    have O2_4 := O2_3.next M4 eN4 f4
    have O3_4 := O3_3.next M4 eN4 f4
    have M5 := M4.snoc (f := f4) eN4 hT4 tb4
    refine ⟨_, rfl, .inl ⟨rfl, _, SqL.of M5.l⟩, M5.t, fun f5 c5 H5 eN5 _ hT5 _ hf5 hc5 ck5 tb5 => ⟨L, _, _, rfl, rfl, M5.mid eN5, by show 5 < sizeLine; decide, ?_⟩⟩
    have O5_5 := LX.MadeOne.mk' (q := q_works) (e := lam5) (fr := ["one", "other", "third", "fourth"]) M5 eN5 hf5 hc5 ck5 ⟨_, _, rfl⟩ f5
    have O0_5 := O0_4.next M5 eN5 f5
    have O1_5 := O1_4.next M5 eN5 f5
    have O2_5 := O2_4.next M5 eN5 f5
    have O3_5 := O3_4.next M5 eN5 f5
    have O4_5 := O4_4.next M5 eN5 f5
    have M6 := M5.snoc (f := f5) eN5 hT5 tb5
    refine ⟨.ref L, rfl, fun i u e => LX.slots_of (vs := [a0, a1, a2, a3]) e, fun H2 k1 _ kc => q H2 L f0 f1 f2 f3 f4 f5 (M6.x.trans (LX.xt_all k1)) hL (k1 _ _ M6.l) (M6.t.ext k1) (O0_5.atE (ps := ["one", "other", "third", "fourth"]) (vs := [a0, a1, a2, a3]) (ws := [a0]) k1 kc rfl (fun i y v h1 h2 => match i, h1, h2 with | 0, h1, h2 => ⟨0, h1, h2⟩ | i + 1, h1, _ => absurd h1 (by simp))) (O1_5.atE (ps := ["one", "other", "third", "fourth"]) (vs := [a0, a1, a2, a3]) (ws := [a0]) k1 kc rfl (fun i y v h1 h2 => match i, h1, h2 with | 0, h1, h2 => ⟨0, h1, h2⟩ | i + 1, h1, _ => absurd h1 (by simp))) (O2_5.atE (ps := ["one", "other", "third", "fourth"]) (vs := [a0, a1, a2, a3]) (ws := [a0]) k1 kc rfl (fun i y v h1 h2 => match i, h1, h2 with | 0, h1, h2 => ⟨0, h1, h2⟩ | i + 1, h1, _ => absurd h1 (by simp))) (O3_5.atE (ps := ["one", "other", "third", "fourth"]) (vs := [a0, a1, a2, a3]) (ws := [a0]) k1 kc rfl (fun i y v h1 h2 => match i, h1, h2 with | 0, h1, h2 => ⟨0, h1, h2⟩ | i + 1, h1, _ => absurd h1 (by simp))) (O4_5.atE (ps := ["one", "other", "third", "fourth"]) (vs := [a0, a1, a2, a3]) (ws := [a0, a1]) k1 kc rfl (fun i y v h1 h2 => match i, h1, h2 with | 0, h1, h2 => ⟨0, h1, h2⟩ | 1, h1, h2 => ⟨1, h1, h2⟩ | i + 2, h1, _ => absurd h1 (by simp))) (O5_5.atE (ps := ["one", "other", "third", "fourth"]) (vs := [a0, a1, a2, a3]) (ws := [a0, a1, a2, a3]) k1 kc rfl (fun i y v h1 h2 => match i, h1, h2 with | 0, h1, h2 => ⟨0, h1, h2⟩ | 1, h1, h2 => ⟨1, h1, h2⟩ | 2, h1, h2 => ⟨2, h1, h2⟩ | 3, h1, h2 => ⟨3, h1, h2⟩ | i + 4, h1, _ => absurd h1 (by simp)))⟩

abbrev s_init_BadClock : Stmt := LX.initOf (topS 2)
theorem sc_init_BadClock : FnScope ["self", "part"] ["self", "part"] (defScope s_init_BadClock) := ⟨rfl, rfl, rfl, by decide +kernel, rfl, by decide +kernel, by decide +kernel⟩
theorem ok_init_BadClock {fI CB C : Addr} {oc kV doc pm cdv ct : Value} {od an : Option Addr} {osl : Array (Option Value)} (lk : K.lookup fI = some ⟨oc, od, .func (PySem.W.fnOf "__init__" "BadClock.__init__" (defArgs s_init_BadClock) (defBody s_init_BadClock) (defScope s_init_BadClock) .none kV doc pm an cdv ct), osl⟩) (hcd : PySem.W.codeIn K cdv "BadClock.__init__" = true) (gB : mg "ClockError" = some (.ref CB)) (B : LX.BaseI K CB) :
    FnOk P w K mg base CX0 2 fI (PySem.W.fnOf "__init__" "BadClock.__init__" (defArgs s_init_BadClock) (defBody s_init_BadClock) (defScope s_init_BadClock) .none kV doc pm an cdv ct) ["self", "part"] (LX.sp_init K C "part") := by
  refine fn_of lk hcd sc_init_BadClock (fun vs H Q E h => ?_) (fun A outer s H vs Q E hr h => ⟨_, (pss_cons (ps_expr (pe_oinit (by rfl) gB B.sp B.mt B.rd B.vV (pa_cons (pv 0) (pa_cons (pe_joined (.cons pe_str (.cons (LX.pe_fmtX (pv 1)) (.cons pe_str .nil)))) pa_nil)))) (pss_one (ps_ost (pv 0) (pv 1)))), ?_⟩)
  · obtain ⟨a, v, rfl, _⟩ := h; rfl
  · obtain ⟨a, v, rfl, fv, ox, nf, ea, q⟩ := h
    obtain ⟨y, ey, ly⟩ := LX.fmt_ok fv
    have c_ : Str.empty.length = 0 := by decide +kernel
    have c0 : ("no clock: its " : Str).length = 14 := by decide +kernel
    have c2 : (" is wrong" : Str).length = 9 := by decide +kernel
    refine ⟨_, rfl, ?_⟩
    refine ⟨_, rfl, ?_, ?_⟩
    · simp only [PySem.Str.length_append]; rw [sizeLine_eq]; omega
    refine ⟨_, rfl, fv, y, ey, _, rfl, ?_, ?_⟩
    · simp only [PySem.Str.length_append]; rw [sizeLine_eq]; omega
    refine ⟨_, rfl, ?_, ?_⟩
    · simp only [PySem.Str.length_append]; rw [sizeLine_eq]; omega
    refine ⟨a, C, _, rfl, by show 1 ≤ 1000; decide, ox, ea, ?_⟩
    refine ⟨_, rfl, _, rfl, a, C, rfl, ox, nf, .inl ⟨ea, fun d hd hda => q d hd hda⟩⟩

end K02
-- K02_u1
namespace K02
open PySem PySem.Spec PyProof.Rows L2 LC
variable [Tbl]
variable {P : Program} {w : World} {K : PySem.W.Frag} {mg : Str → Option Value} {base : Heap} {f c : Addr} {fd : FuncData} {Ts : List Addr} {TP : Addr} {ad : Str → Addr} {asked plain : List Str}

/-- no tuple of so many things -/
def NotTup (H : Hp) (v : V) (n : Nat) : Prop := LX.Shp H v ∧ ∀ xs, tupOf H v = some xs → xs.length ≠ n
theorem NotTup.x {H H1 : Hp} {v : V} {n : Nat} (h : NotTup H v n) (x : Xt (LX.SC H) H H1) : NotTup H1 v n := ⟨h.1.x x, fun xs e => h.2 xs (by rw [← h.1.tupX x]; exact e)⟩
theorem NotTup.no {H : Hp} {v : V} {n : Nat} (h : NotTup H v n) : (match tupOf H v with | some xs => decide ((xs.length : Int) = (n : Int)) | none => false) = false := by
  cases e : tupOf H v with
  | none => rfl
  | some xs =>
    have := h.2 xs e
    show decide ((xs.length : Int) = (n : Int)) = false
    exact decide_eq_false (by omega)
/-- no tuple at all -/
def NoTup (H : Hp) (v : V) : Prop := LX.Shp H v ∧ tupOf H v = none
theorem NoTup.x {H H1 : Hp} {v : V} (h : NoTup H v) (x : Xt (LX.SC H) H H1) : NoTup H1 v := ⟨h.1.x x, by rw [h.1.tupX x]; exact h.2⟩
theorem NoTup.ty {H : Hp} {v : V} (h : NoTup H v) : ∃ t, TyX K H v (.type t) ∧ kitB t "tuple" = some false := by
  obtain ⟨t, b, ht, hb, e⟩ := h.1.kt (K := K)
  rw [h.2] at e
  cases b with
  | false => exact ⟨t, ht, hb⟩
  | true => cases e

/-! the promises with the answer named -/
def se_tuple_of (K : PySem.W.Frag) : Sp := fun vs H Q _ => ∃ (x : V) (n : Int) (b : Bool), vs = [x, .int n] ∧ Kt K H x ∧ (match tupOf H x with | some xs => decide ((xs.length : Int) = n) | none => false) = b ∧ Q (.bl b) H
theorem tuple_ofE (C : Callee P w K mg base "is_tuple_of" 1 ["value", "many"] (sp_is_tuple_of K)) : Callee P w K mg base "is_tuple_of" 1 ["value", "many"] (se_tuple_of K) := C.imp fun vs H Q E h => by
  obtain ⟨x, n, b, rfl, h1, rfl, q⟩ := h
  exact ⟨x, n, rfl, h1, q⟩
def se_between (K : PySem.W.Frag) : Sp := fun vs H Q _ => ∃ (x : V) (lo hi : Int) (b : Bool), vs = [x, .int lo, .int hi] ∧ Kd K H x ∧ btw x lo hi = b ∧ Q (.bl b) H
theorem betweenE (C : Callee P w K mg base "is_between" 2 ["value", "low", "high"] (sp_is_between K)) : Callee P w K mg base "is_between" 2 ["value", "low", "high"] (se_between K) := C.imp fun vs H Q E h => by
  obtain ⟨x, lo, hi, b, rfl, h1, rfl, q⟩ := h
  exact ⟨x, lo, hi, rfl, h1, q⟩
theorem btw_out {i lo hi : Int} (h : ¬ (lo ≤ i ∧ i ≤ hi)) : btw (.int i) lo hi = false := by
  cases e : btw (.int i) lo hi with
  | false => rfl
  | true =>
    unfold btw at e
    simp only [Bool.and_eq_true, decide_eq_true_eq] at e
    exact absurd e h

/-! ### editions -/
def BadEd (H : Hp) (v : V) : Prop := NoTup H v ∨ ∃ (u : Addr) (xs : List V), v = .ref u ∧ H u = some (.tup xs) ∧ xs.length ≤ 1000 ∧
  ((xs.length = 0 ∨ 12 < xs.length) ∨ (1 ≤ xs.length ∧ xs.length ≤ 12 ∧ (∀ x ∈ xs, LX.Shp H x) ∧ ((∃ x ∈ xs, btw x 0 4 = false) ∨ ∃ ns : List Int, xs = ns.map V.int ∧ 24 < ns.sum)))
theorem BadEd.x {H H1 : Hp} {v : V} (h : BadEd H v) (x : Xt (LX.SC H) H H1) : BadEd H1 v := by
  rcases h with h | ⟨u, xs, e, h1, h2, h3 | ⟨h3, h4, h5, h6⟩⟩
  · exact .inl (h.x x)
  · exact .inr ⟨u, xs, e, x.tups _ _ h1, h2, .inl h3⟩
  · exact .inr ⟨u, xs, e, x.tups _ _ h1, h2, .inr ⟨h3, h4, fun y hy => (h5 y hy).x x, h6⟩⟩
def sn_are_editions (Ts : List Addr) : Sp := fun vs H Q _ => ∃ v, vs = [v] ∧ BadEd H v ∧ Tabs Ts H ∧ ∀ H', Xn H H' → Q (.bl false) H'
theorem ok_are_editions_b (T : Txt mg) (TB : GxR.TabB base mg c TP) (hT : TP ∈ Ts) (C_is_between : Callee P w K mg base "is_between" 2 ["value", "low", "high"] (se_between K)) (F : FunC K "are_editions" s_are_editions f fd c) : FnOk P w K mg base CX0 5 f fd ["value"] (sn_are_editions Ts) := by
  refine F.ok sc_are_editions (fun vs H Q E h => ?_) (fun A outer s H vs Q E hr h => ⟨_, (pss_cons (ps_if (PW.pt (pw_or (pt_not (pt_val (pe_callB (crK (K := K) rIsi call_isi rfl) (by rfl) T.g_isinstance (by decide +kernel) (pa_cons (pv 0) (pa_cons (pe_bltn (v := .ty "tuple") (by rfl) T.g_tuple boot_tuple rfl) pa_nil))))) (pw_or1 (pt_not (pt_chain op_le op_le pe_int (pe_callB (crK (K := K) rLenQ cr_len rfl) (by rfl) T.g_len (by decide +kernel) (pa_cons (pv 0) pa_nil)) (pe_gI rfl T.m_MOST_WHEELS)))))) (pss_one (ps_ret pe_bl)) pss_nil)
    (pss_one (ps_ret (pe_and (pe_allG (own := [("last", 1)]) hr rfl sc_are_editions.nd (by rfl) T.g_all (by decide +kernel) TB rfl (piK (K := K) iTup (pi_tup (pv 0)) rfl) (gscp_by (N := N_are_editions) (sc := defScope s_are_editions) (own := [("last", 1)]) (by decide +kernel)) (fun _ _ _ _ _ _ => (pg_name (i := 1) sc_are_editions.nd rfl (Or.inl rfl))) (fun _ _ _ _ _ _ hr9 => pts_nil) (fun _ _ _ _ _ _ hr9 => (pe_callC C_is_between hr9 (by rfl) (pa_cons (pv 1) (pa_cons pe_int (pa_cons (pe_gI rfl T.m_MOST_EDITION) pa_nil)))))) (pe_one (pe_cmpR op_le (pe_callB (crK (K := K) rSumT (cr_sumT rfl) rfl) (by rfl) T.g_sum (by decide +kernel) (pa_cons (pv 0) pa_nil)) (pe_gI rfl T.m_MOST_EXCHANGES) (nomark _))))))), ?_⟩)
  · obtain ⟨v, rfl, _⟩ := h; rfl
  · obtain ⟨v, rfl, hv, hTs, q⟩ := h
    rcases hv with hv | ⟨e, xs, rfl, he, hl, hv⟩
    · obtain ⟨t, ht, hb⟩ := hv.ty (K := K)
      exact ⟨_, rfl, v, .ty "tuple", .type t, .type "tuple", false, rfl, .ty _, ht, kit_ty hb, false, rfl, iteT (iteT (q H Xt.refl))⟩
    refine ⟨_, rfl, .ref _, .ty "tuple", .type "tuple", .type "tuple", true, rfl, .ty _, .base (.tup he), kit_ty (by decide +kernel), true, rfl, ?_⟩
    refine iteF ⟨_, rfl, e, _, rfl, .inr (SqT.of he), _, _, rfl, rfl, _, rfl, ?_⟩
    rcases hv with hv | ⟨h1, h2, hsh, hv⟩
    · by_cases z : 1 ≤ xs.length
      · rw [decide_eq_true (by omega : (1 : Int) ≤ (xs.length : Int))]
        refine iteT ⟨_, _, rfl, rfl, _, rfl, ?_⟩
        rw [decide_eq_false (by omega : ¬ (xs.length : Int) ≤ 12)]
        exact iteT (q H Xt.refl)
      · rw [decide_eq_false (by omega : ¬ (1 : Int) ≤ (xs.length : Int))]
        exact iteF ⟨_, rfl, iteT (q H Xt.refl)⟩
    rw [decide_eq_true (by omega : (1 : Int) ≤ (xs.length : Int))]
    refine iteT ⟨_, _, rfl, rfl, _, rfl, ?_⟩
    rw [decide_eq_true (by omega : (xs.length : Int) ≤ 12)]
    refine iteF ?_
    refine ⟨_, rfl, e, rfl, ⟨_, SqT.of he⟩, hTs _ hT, fun H4 ht => ?_⟩
    have x4 := Xt.tabbed (S := No) (hTs _ hT) ht
    refine allG_tup (xs := xs) (fun i H' => Xn H H' ∧ ∀ y ∈ xs.take i, btw y 0 4 = true) ⟨x4, fun y hy => by simp at hy⟩ (fun i H' _ x => SqT.of (x.1.tups _ _ he)) (fun i y H' ey x => ?_) (fun H' x => ?_)
    · obtain ⟨x, hbs⟩ := x
      have hk := ((hsh y (List.mem_of_getElem? ey)).x x.any).kd (K := K)
      refine ⟨rfl, yes_of ⟨_, rfl, y, _, _, _, rfl, hk, rfl, _, rfl, ?_⟩⟩
      cases hv : btw y 0 4 with
      | true =>
        refine iteT ⟨x, fun z hz => ?_⟩
        rw [take_snocE ey] at hz
        rcases List.mem_append.mp hz with hz | hz
        · exact hbs z hz
        · rw [List.mem_singleton] at hz; rw [hz]; exact hv
      | false => exact iteF ⟨false, rfl, iteF (q _ x)⟩
    · obtain ⟨x, hbs⟩ := x
      rw [List.take_length] at hbs
      rcases hv with ⟨y, hy, hb⟩ | ⟨ns, rfl, hs⟩
      · rw [hbs y hy] at hb; cases hb
      · refine ⟨true, rfl, iteT ⟨_, rfl, e, ns, rfl, .inl (SqT.of (x.tups _ _ he)), _, _, rfl, rfl, ?_⟩⟩
        show Q (.bl (decide (ns.sum ≤ 24))) H'
        rw [decide_eq_false (by omega)]
        exact q H' x

/-! ### touches -/
def BadT1 (H : Hp) (per : Int) (n : Nat) (v : V) : Prop := NotTup H v 3 ∨ ∃ (u : Addr) (p i j : Int), v = .ref u ∧ H u = some (.tup [.int p, .int i, .int j]) ∧ ¬ ((0 ≤ p ∧ p ≤ per - 1) ∧ (0 ≤ i ∧ i ≤ (n : Int) - 1) ∧ (i + 1 ≤ j ∧ j ≤ (n : Int) - 1))
theorem BadT1.x {H H1 : Hp} {per : Int} {n : Nat} {v : V} (h : BadT1 H per n v) (x : Xt (LX.SC H) H H1) : BadT1 H1 per n v := by
  rcases h with h | ⟨u, p, i, j, e, h1, h2⟩
  · exact .inl (h.x x)
  · exact .inr ⟨u, p, i, j, e, x.tups _ _ h1, h2⟩
def sn_is_touch : Sp := fun vs H Q _ => ∃ (per : Int) (e : Addr) (v : V) (eds : List Int), vs = [.int per, .ref e, v] ∧ H e = some (.tup (eds.map V.int)) ∧ BadT1 H per eds.length v ∧ Q (.bl false) H
theorem ok_is_touch_b (T : Txt mg) (C_is_between : Callee P w K mg base "is_between" 2 ["value", "low", "high"] (se_between K)) (C_is_tuple_of : Callee P w K mg base "is_tuple_of" 1 ["value", "many"] (se_tuple_of K)) (F : FunC K "is_touch" s_is_touch f fd c) : FnOk P w K mg base CX0 3 f fd ["period", "editions", "value"] sn_is_touch := by
  refine F.ok sc_is_touch (fun vs H Q E h => ?_) (fun A outer s H vs Q E hr h => ⟨_, (pss_cons (ps_if (pt_not (pt_val (pe_callC C_is_tuple_of hr (by rfl) (pa_cons (pv 2) (pa_cons pe_int pa_nil))))) (pss_one (ps_ret pe_bl)) pss_nil)
    (pss_cons (ps_asg (pv 2) (pg_tup rfl (pgs_cons (pg_name (i := 4) sc_is_touch.nd rfl (Or.inl rfl)) (pgs_cons (pg_name (i := 5) sc_is_touch.nd rfl (Or.inl rfl)) (pgs_cons (pg_name (i := 6) sc_is_touch.nd rfl (Or.inl rfl)) pgs_nil)))))
    (pss_cons (ps_set (i := 3) sc_is_touch.nd rfl (Or.inl rfl) (pe_op op_sub (pe_callB (crK (K := K) rLenQ cr_len rfl) (by rfl) T.g_len (by decide +kernel) (pa_cons (pv 1) pa_nil)) pe_int))
    (pss_one (ps_ret (pe_and (pe_callC C_is_between hr (by rfl) (pa_cons (pv 4) (pa_cons pe_int (pa_cons (pe_op op_sub (pv 0) pe_int) pa_nil)))) (pe_and (pe_callC C_is_between hr (by rfl) (pa_cons (pv 5) (pa_cons pe_int (pa_cons (pv 3) pa_nil)))) (pe_one (pe_callC C_is_between hr (by rfl) (pa_cons (pv 6) (pa_cons (pe_op op_add (pv 5) pe_int) (pa_cons (pv 3) pa_nil)))))))))))), ?_⟩)
  · obtain ⟨per, e, v, eds, rfl, _⟩ := h; rfl
  · obtain ⟨per, e, v, eds, rfl, he, hv, q⟩ := h
    rcases hv with hv | ⟨t, p, i, j, rfl, ht, hn⟩
    · exact ⟨_, rfl, v, 3, false, rfl, hv.1.kt, hv.no (n := 3), false, rfl, iteT q⟩
    refine ⟨_, rfl, _, 3, true, rfl, kt_tup ht, by rw [tupOf_ref ht]; rfl, true, rfl, iteF ?_⟩
    refine ⟨_, rfl, t, _, rfl, SqT.of ht, rfl, _, _, rfl, _, _, rfl, _, _, rfl, rfl, ?_⟩
    refine ⟨_, rfl, e, _, rfl, .inr (SqT.of he), _, _, rfl, rfl, ?_⟩
    rw [List.length_map]
    by_cases a1 : 0 ≤ p ∧ p ≤ per - 1
    · refine ⟨_, rfl, _, rfl, _, _, rfl, rfl, _, 0, per - 1, true, rfl, kd_int, btw_int a1.1 a1.2, true, rfl, ?_⟩
      by_cases a2 : 0 ≤ i ∧ i ≤ (eds.length : Int) - 1
      · refine iteT ⟨_, rfl, _, rfl, _, 0, (eds.length : Int) - 1, true, rfl, kd_int, btw_int a2.1 a2.2, true, rfl, ?_⟩
        exact iteT ⟨_, rfl, _, rfl, _, _, rfl, rfl, _, rfl, _, i + 1, (eds.length : Int) - 1, false, rfl, kd_int, btw_out fun z => hn ⟨a1, a2, z⟩, q⟩
      · exact iteT ⟨_, rfl, _, rfl, _, 0, (eds.length : Int) - 1, false, rfl, kd_int, btw_out a2, false, rfl, iteF q⟩
    · exact ⟨_, rfl, _, rfl, _, _, rfl, rfl, _, 0, per - 1, false, rfl, kd_int, btw_out a1, false, rfl, iteF q⟩

def BadTs (H : Hp) (per : Int) (eds : List Int) (v : V) : Prop := NoTup H v ∨ ∃ (u : Addr) (rt : List V), v = .ref u ∧ H u = some (.tup rt) ∧ ((∃ t, rt = [t] ∧ BadT1 H per eds.length t) ∨ ∃ tch, Rows H rt tch ∧ (∀ t ∈ tch, TchOk per eds t) ∧ rising tch = false ∧ tch.length ≤ 1000)
theorem BadTs.x {H H1 : Hp} {per : Int} {eds : List Int} {v : V} (h : BadTs H per eds v) (x : Xt (LX.SC H) H H1) : BadTs H1 per eds v := by
  rcases h with h | ⟨u, rt, e, h1, ⟨t, h2, h3⟩ | ⟨tch, h2, h3⟩⟩
  · exact .inl (h.x x)
  · exact .inr ⟨u, rt, e, x.tups _ _ h1, .inl ⟨t, h2, h3.x x⟩⟩
  · exact .inr ⟨u, rt, e, x.tups _ _ h1, .inr ⟨tch, h2.x x, h3⟩⟩
def sn_are_touches (Ts : List Addr) : Sp := fun vs H Q _ => ∃ (per : Int) (e : Addr) (v : V) (eds : List Int), vs = [.int per, .ref e, v] ∧ H e = some (.tup (eds.map V.int)) ∧ BadTs H per eds v ∧ Tabs Ts H ∧ ∀ H', Xn H H' → Q (.bl false) H'
theorem ok_are_touches_b (T : Txt mg) (TB : GxR.TabB base mg c TP) (hT : TP ∈ Ts) (C_is_touch : Callee P w K mg base "is_touch" 3 ["period", "editions", "value"] (fun vs H Q E => sp_is_touch vs H Q E ∨ sn_is_touch vs H Q E)) (C_is_rising : Callee P w K mg base "is_rising" 1 ["things"] (sp_is_rising K)) (F : FunC K "are_touches" s_are_touches f fd c) : FnOk P w K mg base CX0 6 f fd ["period", "editions", "value"] (sn_are_touches Ts) := by
  refine F.ok sc_are_touches (fun vs H Q E h => ?_) (fun A outer s H vs Q E hr h => ⟨_, (pss_cons (ps_if (pt_not (pt_val (pe_callB (crK (K := K) rIsi call_isi rfl) (by rfl) T.g_isinstance (by decide +kernel) (pa_cons (pv 2) (pa_cons (pe_bltn (v := .ty "tuple") (by rfl) T.g_tuple boot_tuple rfl) pa_nil))))) (pss_one (ps_ret pe_bl)) pss_nil)
    (pss_one (ps_ret (pe_and (pe_allG (own := [("touch", 3)]) hr rfl sc_are_touches.nd (by rfl) T.g_all (by decide +kernel) TB rfl (piK (K := K) iTup (pi_tup (pv 2)) rfl) (gscp_by (N := N_are_touches) (sc := defScope s_are_touches) (own := [("touch", 3)]) (by decide +kernel)) (fun _ _ _ _ _ _ => (pg_name (i := 3) sc_are_touches.nd rfl (Or.inl rfl))) (fun _ _ _ _ _ _ hr9 => pts_nil) (fun _ _ _ _ _ _ hr9 => (pe_callC C_is_touch hr9 (by rfl) (pa_cons (pv 0) (pa_cons (pv 1) (pa_cons (pv 3) pa_nil)))))) (pe_one (pe_callC C_is_rising hr (by rfl) (pa_cons (pv 2) pa_nil))))))), ?_⟩)
  · obtain ⟨per, e, v, eds, rfl, _⟩ := h; rfl
  · obtain ⟨per, e, v, eds, rfl, he, hv, hTs, q⟩ := h
    rcases hv with hv | ⟨t, rt, rfl, ht, hv⟩
    · obtain ⟨t, ht, hb⟩ := hv.ty (K := K)
      exact ⟨_, rfl, v, .ty "tuple", .type t, .type "tuple", false, rfl, .ty _, ht, kit_ty hb, false, rfl, iteT (q H Xt.refl)⟩
    refine ⟨_, rfl, .ref _, .ty "tuple", .type "tuple", .type "tuple", true, rfl, .ty _, .base (.tup ht), kit_ty (by decide +kernel), true, rfl, ?_⟩
    refine iteF ?_
    refine ⟨_, rfl, t, rfl, ⟨_, SqT.of ht⟩, hTs _ hT, fun H4 htb => ?_⟩
    have x4 := Xt.tabbed (S := No) (hTs _ hT) htb
    rcases hv with ⟨y, rfl, hy⟩ | ⟨tch, hrt, hok, hri, hlen⟩
    · refine allG_tup (xs := [y]) (fun i H' => Xn H H' ∧ i = 0) ⟨x4, rfl⟩ (fun i H' _ x => SqT.of (x.1.tups _ _ ht)) (fun i v H' ev x => ?_) (fun H' x => nomatch x.2)
      obtain ⟨x, rfl⟩ := x
      cases ev
      exact ⟨rfl, yes_of ⟨_, rfl, _, rfl, _, rfl, .inr ⟨per, e, y, eds, rfl, x.tups _ _ he, hy.x x.any, false, rfl, iteF ⟨false, rfl, iteF (q _ x)⟩⟩⟩⟩
    · refine allG_tup (fun _ H' => Xn H H') x4 (fun i H' _ x => SqT.of (x.tups _ _ ht)) (fun i v H' ev x => ?_) (fun H' x => ?_)
      · obtain ⟨b, ns, rfl, e1, e2⟩ := hrt.get ev
        exact ⟨rfl, yes_of ⟨_, rfl, _, rfl, _, rfl, .inl ⟨per, e, b, eds, ns, rfl, x.tups _ _ he, x.tups _ _ e2, hok ns (List.mem_of_getElem? e1), true, rfl, iteT x⟩⟩⟩
      · exact ⟨true, rfl, iteT ⟨_, rfl, t, rt, tch, rfl, .inr (SqT.of (x.tups _ _ ht)), kys_rows (hrt.x x), by rw [hrt.1]; exact hlen, fun H'' x2 => by rw [hri]; exact q H'' (x.trans x2)⟩⟩

/-! ### gaps -/
def BadG1 (per : Int) (ns : List Int) : Prop := ns ≠ [] ∧ ns.length ≤ 1000 ∧ ((∃ n ∈ ns, ¬ (0 ≤ n ∧ n ≤ per - 1)) ∨ rising (ns.map fun n => [n]) = false)
def sn_are_wheel_gaps (Ts : List Addr) : Sp := fun vs H Q _ => ∃ (per last : Int) (g : Addr) (ns : List Int), vs = [.int per, .int last, .ref g] ∧ H g = some (.tup (ns.map V.int)) ∧ BadG1 per ns ∧ Tabs Ts H ∧ ∀ H', Xn H H' → Q (.bl false) H'
theorem ok_are_wheel_gaps_b (T : Txt mg) (TB : GxR.TabB base mg c TP) (hT : TP ∈ Ts) (C_is_between : Callee P w K mg base "is_between" 2 ["value", "low", "high"] (se_between K)) (C_is_rising : Callee P w K mg base "is_rising" 1 ["things"] (sp_is_rising K)) (F : FunC K "are_wheel_gaps" s_are_wheel_gaps f fd c) : FnOk P w K mg base CX0 5 f fd ["period", "last", "value"] (sn_are_wheel_gaps Ts) := by
  refine F.ok sc_are_wheel_gaps (fun vs H Q E h => ?_) (fun A outer s H vs Q E hr h => ⟨_, (pss_cons (ps_if (PW.pt (pw_or (pt_not (pt_val (pe_callB (crK (K := K) rIsi call_isi rfl) (by rfl) T.g_isinstance (by decide +kernel) (pa_cons (pv 2) (pa_cons (pe_bltn (v := .ty "tuple") (by rfl) T.g_tuple boot_tuple rfl) pa_nil))))) (pw_or1 (PW.pt (pw_and (pt_cmpR op_gt (pv 1) pe_int (nomark _)) (pw_and1 (pt_not (pt_truth (pv 2) (by intro _; rfl))))))))) (pss_one (ps_ret pe_bl)) pss_nil)
    (pss_one (ps_ret (pe_and (pe_allG (own := [("phase", 3)]) hr rfl sc_are_wheel_gaps.nd (by rfl) T.g_all (by decide +kernel) TB rfl (piK (K := K) iTup (pi_tup (pv 2)) rfl) (gscp_by (N := N_are_wheel_gaps) (sc := defScope s_are_wheel_gaps) (own := [("phase", 3)]) (by decide +kernel)) (fun _ _ _ _ _ _ => (pg_name (i := 3) sc_are_wheel_gaps.nd rfl (Or.inl rfl))) (fun _ _ _ _ _ _ hr9 => pts_nil) (fun _ _ _ _ _ _ hr9 => (pe_callC C_is_between hr9 (by rfl) (pa_cons (pv 3) (pa_cons pe_int (pa_cons (pe_op op_sub (pv 0) pe_int) pa_nil)))))) (pe_one (pe_callC C_is_rising hr (by rfl) (pa_cons (pv 2) pa_nil))))))), ?_⟩)
  · obtain ⟨per, last, g, ns, rfl, _⟩ := h; rfl
  · obtain ⟨per, last, g, ns, rfl, hg, ⟨g1, g4, hbad⟩, hTs, q⟩ := h
    refine ⟨_, rfl, .ref _, .ty "tuple", .type "tuple", .type "tuple", true, rfl, .ty _, .base (.tup hg), kit_ty (by decide +kernel), true, rfl, ?_⟩
    refine iteF ⟨_, rfl, _, _, rfl, rfl, _, rfl, ?_⟩
    by_cases h0 : last > 0
    rw [decide_eq_true h0]
    refine iteT ⟨_, rfl, true, .inr (.inl ⟨_, SqT.of hg, ?_⟩), iteF ?_⟩
    · cases ns with
      | nil => exact absurd rfl g1
      | cons x xs => rfl
    rotate_left
    rw [decide_eq_false h0]
    refine iteF (iteF ?_)
    all_goals
      refine ⟨_, rfl, g, rfl, ⟨_, SqT.of hg⟩, hTs _ hT, fun H4 htb => ?_⟩
      have x4 := Xt.tabbed (S := No) (hTs _ hT) htb
      refine allG_tup (xs := ns.map V.int) (fun i H' => Xn H H' ∧ ∀ y ∈ ns.take i, 0 ≤ y ∧ y ≤ per - 1) ⟨x4, fun y hy => by simp at hy⟩ (fun i H' _ x => SqT.of (x.1.tups _ _ hg)) (fun i v H' ev x => ?_) (fun H' x => ?_)
      · obtain ⟨x, hbs⟩ := x
        obtain ⟨n, en, rfl⟩ := getI ev
        refine ⟨rfl, yes_of ⟨_, rfl, _, rfl, _, _, rfl, rfl, _, 0, per - 1, _, rfl, kd_int, rfl, _, rfl, ?_⟩⟩
        by_cases z : 0 ≤ n ∧ n ≤ per - 1
        · rw [btw_int z.1 z.2]
          refine iteT ⟨x, fun y hy => ?_⟩
          rw [take_snocE en] at hy
          rcases List.mem_append.mp hy with hy | hy
          · exact hbs y hy
          · rw [List.mem_singleton] at hy; rw [hy]; exact z
        · rw [btw_out z]
          exact iteF ⟨false, rfl, iteF (q _ x)⟩
      · obtain ⟨x, hbs⟩ := x
        rw [List.length_map, List.take_length] at hbs
        refine ⟨true, rfl, iteT ⟨_, rfl, g, _, _, rfl, .inr (SqT.of (x.tups _ _ hg)), kys_ints, by rw [List.length_map]; exact g4, fun H'' x2 => ?_⟩⟩
        rcases hbad with ⟨n, hn, hb⟩ | hr
        · exact absurd (hbs n hn) hb
        · rw [hr]; exact q H'' (x.trans x2)

def BadGs (H : Hp) (per : Int) (eds : List Int) (v : V) : Prop := NotTup H v eds.length ∨ ∃ (u : Addr) (rg : List V) (ns : List Int) (gps : List (List Int)), v = .ref u ∧ H u = some (.tup rg) ∧ Rows H rg (ns :: gps) ∧ gps.length + 1 = eds.length ∧ BadG1 per ns ∧ ∀ (i : Nat) (e : Int) (g : List Int), eds[i + 1]? = some e → gps[i]? = some g → GpsOk per e g
theorem BadGs.x {H H1 : Hp} {per : Int} {eds : List Int} {v : V} (h : BadGs H per eds v) (x : Xt (LX.SC H) H H1) : BadGs H1 per eds v := by
  rcases h with h | ⟨u, rg, ns, gps, e, h1, h2, h3⟩
  · exact .inl (h.x x)
  · exact .inr ⟨u, rg, ns, gps, e, x.tups _ _ h1, h2.x x, h3⟩
def sn_are_gaps (Ts : List Addr) : Sp := fun vs H Q _ => ∃ (per : Int) (e : Addr) (v : V) (eds : List Int), vs = [.int per, .ref e, v] ∧ H e = some (.tup (eds.map V.int)) ∧ 1 ≤ eds.length ∧ eds.length ≤ 12 ∧ BadGs H per eds v ∧ Tabs Ts H ∧ ∀ H', Xn H H' → Q (.bl false) H'
theorem ok_are_gaps_b (T : Txt mg) (C_are_wheel_gaps : Callee P w K mg base "are_wheel_gaps" 5 ["period", "last", "value"] (fun vs H Q E => sp_are_wheel_gaps Ts vs H Q E ∨ sn_are_wheel_gaps Ts vs H Q E)) (C_is_tuple_of : Callee P w K mg base "is_tuple_of" 1 ["value", "many"] (se_tuple_of K)) (F : FunC K "are_gaps" s_are_gaps f fd c) : FnOk P w K mg base CX0 6 f fd ["period", "editions", "value"] (sn_are_gaps Ts) := by
  refine F.ok sc_are_gaps (fun vs H Q E h => ?_) (fun A outer s H vs Q E hr h => ⟨_, (pss_cons (ps_if (pt_not (pt_val (pe_callC C_is_tuple_of hr (by rfl) (pa_cons (pv 2) (pa_cons (pe_callB (crK (K := K) rLenQ cr_len rfl) (by rfl) T.g_len (by decide +kernel) (pa_cons (pv 1) pa_nil)) pa_nil))))) (pss_one (ps_ret pe_bl)) pss_nil)
    (pss_one (ps_ret (pe_callB (crK (K := K) rAll (cr_all rfl) rfl) (by rfl) T.g_all (by decide +kernel) (pa_cons (pe_lc (own := [("last", 3), ("phases", 4)]) rfl sc_are_gaps.nd (piA (K := K) RZ.iZipA (RZ.pi_zipA (by rfl) T.g_zip (pa_cons (pv 1) (pa_cons (pv 2) pa_nil))) rfl) (blkOk_by (N := N_are_gaps) (sc := defScope s_are_gaps) (own := [("last", 3), ("phases", 4)]) (by decide +kernel)) (fun _ _ _ _ _ => (pg_tupK (K := K) (n := 2) rfl rfl (pgs_cons (pg_name (i := 3) sc_are_gaps.nd rfl (Or.inl rfl) (hf := Or.inr rfl)) (pgs_cons (pg_name (i := 4) sc_are_gaps.nd rfl (Or.inl rfl) (hf := Or.inr rfl)) pgs_nil)) rfl rfl)) (fun _ _ _ _ _ => pts_nil) (fun _ _ _ _ _ => (pe_callC C_are_wheel_gaps hr (by rfl) (pa_cons (pv 0) (pa_cons (pv 3) (pa_cons (pv 4) pa_nil)))))) pa_nil))))), ?_⟩)
  · obtain ⟨per, e, v, eds, rfl, _⟩ := h; rfl
  · obtain ⟨per, e, v, eds, rfl, he, h1, h12, hv, hTs, q⟩ := h
    refine ⟨_, rfl, _, rfl, e, _, rfl, .inr (SqT.of he), ?_⟩
    rw [List.length_map]
    rcases hv with hv | ⟨g, rg, n0, gps, rfl, hg, hrg, hn, hbad, hok⟩
    · exact ⟨v, _, false, rfl, hv.1.kt, hv.no, false, rfl, iteT (q H Xt.refl)⟩
    have hl : rg.length = eds.length := by rw [hrg.1]; exact hn
    refine ⟨_, _, true, rfl, kt_tup hg, by rw [tupOf_ref hg]; exact decide_eq_true (by omega), true, rfl, iteF ?_⟩
    refine ⟨_, rfl, _, rfl, e, g, _, _, rfl, .inr ⟨SqT.of he, SqT.of hg, fun D hD => ?_⟩⟩
    refine lc_zipT (xs := eds.map V.int) (ys := rg) (by rw [List.length_map, hl]) (fun i H' => Xn H H' ∧ ∃ bs : List Bool, H' D = some (.lst (bs.map V.bl)) ∧ bs.length = i ∧ (1 ≤ i → false ∈ bs)) ⟨Xt.new hD, [], upd_same, rfl, fun z => absurd z (by decide)⟩ (fun i H' _ hp => ⟨SqT.of (hp.1.tups _ _ he), SqT.of (hp.1.tups _ _ hg)⟩) (fun i x y TT H' ex ey hp hTT => ?_) (fun H' hp => ?_)
    · obtain ⟨hx, bs, hD', hbl, hbf⟩ := hp
      obtain ⟨b, ns, rfl, e1, e2⟩ := hrg.get ey
      obtain ⟨last, el, rfl⟩ := getI ex
      have hi : i < eds.length := (List.getElem?_eq_some_iff.mp el).1
      have x1 : Xn H (upd H' TT (.tup [V.int last, V.ref b])) := hx.trans (Xt.new hTT)
      have hDT : D ≠ TT := fun z => by rw [z, hTT] at hD'; cases hD'
      refine ⟨TT, _, rfl, SqT.of upd_same, rfl, _, _, rfl, _, _, rfl, rfl, rfl, yes_of ⟨_, rfl, _, rfl, _, rfl, ?_⟩⟩
      have fin : ∀ (bb : Bool) (H2 : Hp), Xn (upd H' TT (.tup [V.int last, V.ref b])) H2 → (i = 0 → bb = false) → ∃ acc, H2 D = some (.lst acc) ∧ acc.length < sizeLine ∧ Xn H (upd H2 D (.lst (acc ++ [V.bl bb]))) ∧ ∃ bs' : List Bool, upd H2 D (.lst (acc ++ [V.bl bb])) D = some (.lst (bs'.map V.bl)) ∧ bs'.length = i + 1 ∧ (1 ≤ i + 1 → false ∈ bs') := fun bb H2 x2 hb => by
        have hD2 : H2 D = some (.lst (bs.map V.bl)) := x2.keep D _ (fun z => z) (fun _ z => by cases z) (by rw [upd_ne hDT]; exact hD')
        refine ⟨_, hD2, sz_lt (by rw [List.length_map, hbl]; omega), (x1.trans x2).young hD, bs ++ [bb], by rw [upd_same, List.map_append]; rfl, by rw [List.length_append, hbl]; rfl, fun _ => ?_⟩
        by_cases z : i = 0
        · rw [hb z]; exact List.mem_append_right _ (List.mem_singleton.mpr rfl)
        · exact List.mem_append_left _ (hbf (by omega))
      cases i with
      | zero =>
        cases e1
        exact .inr ⟨per, last, b, n0, rfl, x1.tups _ _ e2, hbad, hTs.x x1, fun H2 x2 => fin false H2 x2 fun _ => rfl⟩
      | succ i => exact .inl ⟨per, last, b, ns, rfl, x1.tups _ _ e2, hok i last ns el e1, hTs.x x1, fun H2 x2 => fin true H2 x2 fun z => nomatch z⟩
    · obtain ⟨hx, bs, hD', hbl, hbf⟩ := hp
      refine ⟨D, bs, rfl, SqL.of hD', ?_⟩
      have hf := hbf (by rw [List.length_map]; exact h1)
      have : bs.all (fun b => b) = false := by
        rw [List.all_eq_false]
        exact ⟨false, hf, Bool.false_ne_true⟩
      show Q (.bl _) H'
      first
        | rw [this]; exact q H' hx
        | (have e2 : bs.all id = false := this; rw [e2]; exact q H' hx)

/-! ### the book -/
def BadB1 (H : Hp) (eds : List Int) (v : V) : Prop := NotTup H v 4 ∨ ∃ (u : Addr) (x : V) (a j b : Int), v = .ref u ∧ H u = some (.tup [x, .int a, .int j, .int b]) ∧ LX.Shp H x ∧
  (btw x 0 ((eds.length : Int) - 1) = false ∨ ∃ i : Int, x = .int i ∧ (0 ≤ i ∧ i ≤ (eds.length : Int) - 1) ∧ (¬ (0 ≤ j ∧ j ≤ (eds.length : Int) - 1) ∨ ((0 ≤ j ∧ j ≤ (eds.length : Int) - 1) ∧ (i = j ∨ (i ≠ j ∧ ¬ (1 ≤ a ∧ a ≤ eds[i.toNat]?.getD 0))))))
theorem BadB1.x {H H1 : Hp} {eds : List Int} {v : V} (h : BadB1 H eds v) (x : Xt (LX.SC H) H H1) : BadB1 H1 eds v := by
  rcases h with h | ⟨u, y, a, j, b, e, h1, h2, h3⟩
  · exact .inl (h.x x)
  · exact .inr ⟨u, y, a, j, b, e, x.tups _ _ h1, h2.x x, h3⟩
def sn_is_entry : Sp := fun vs H Q _ => ∃ (e : Addr) (v : V) (eds : List Int), vs = [.ref e, v] ∧ H e = some (.tup (eds.map V.int)) ∧ BadB1 H eds v ∧ Q (.bl false) H
theorem ok_is_entry_b (T : Txt mg) (C_is_between : Callee P w K mg base "is_between" 2 ["value", "low", "high"] (se_between K)) (C_is_tuple_of : Callee P w K mg base "is_tuple_of" 1 ["value", "many"] (se_tuple_of K)) (F : FunC K "is_entry" s_is_entry f fd c) : FnOk P w K mg base CX0 3 f fd ["editions", "value"] sn_is_entry := by
  refine F.ok sc_is_entry (fun vs H Q E h => ?_) (fun A outer s H vs Q E hr h => ⟨_, (pss_cons (ps_if (pt_not (pt_val (pe_callC C_is_tuple_of hr (by rfl) (pa_cons (pv 1) (pa_cons pe_int pa_nil))))) (pss_one (ps_ret pe_bl)) pss_nil)
    (pss_cons (ps_asg (pv 1) (pg_tup rfl (pgs_cons (pg_name (i := 3) sc_is_entry.nd rfl (Or.inl rfl)) (pgs_cons (pg_name (i := 4) sc_is_entry.nd rfl (Or.inl rfl)) (pgs_cons (pg_name (i := 5) sc_is_entry.nd rfl (Or.inl rfl)) (pgs_cons (pg_name (i := 6) sc_is_entry.nd rfl (Or.inl rfl)) pgs_nil))))))
    (pss_cons (ps_set (i := 2) sc_is_entry.nd rfl (Or.inl rfl) (pe_op op_sub (pe_callB (crK (K := K) rLenQ cr_len rfl) (by rfl) T.g_len (by decide +kernel) (pa_cons (pv 0) pa_nil)) pe_int))
    (pss_cons (ps_if (PW.pt (pw_or (pt_not (pt_val (pe_callC C_is_between hr (by rfl) (pa_cons (pv 3) (pa_cons pe_int (pa_cons (pv 2) pa_nil)))))) (pw_or (pt_not (pt_val (pe_callC C_is_between hr (by rfl) (pa_cons (pv 5) (pa_cons pe_int (pa_cons (pv 2) pa_nil)))))) (pw_or1 (pt_cmpR op_eq (pv 3) (pv 5) (nomark _)))))) (pss_one (ps_ret pe_bl)) pss_nil)
    (pss_one (ps_ret (pe_and (pe_callC C_is_between hr (by rfl) (pa_cons (pv 4) (pa_cons pe_int (pa_cons (pe_ix (ixK (K := K) rIxT ix_tup rfl) (pv 0) (pv 3) (fun _ _ => rfl)) pa_nil)))) (pe_one (pe_callC C_is_between hr (by rfl) (pa_cons (pv 6) (pa_cons pe_int (pa_cons (pe_ix (ixK (K := K) rIxT ix_tup rfl) (pv 0) (pv 5) (fun _ _ => rfl)) pa_nil)))))))))))), ?_⟩)
  · obtain ⟨e, v, eds, rfl, _⟩ := h; rfl
  · obtain ⟨e, v, eds, rfl, he, hv, q⟩ := h
    rcases hv with hv | ⟨t, x, a, j, b, rfl, ht, hx, hv⟩
    · exact ⟨_, rfl, v, 4, false, rfl, hv.1.kt, hv.no (n := 4), false, rfl, iteT q⟩
    refine ⟨_, rfl, _, 4, true, rfl, kt_tup ht, by rw [tupOf_ref ht]; rfl, true, rfl, iteF ?_⟩
    refine ⟨_, rfl, t, _, rfl, SqT.of ht, rfl, _, _, rfl, _, _, rfl, _, _, rfl, _, _, rfl, rfl, ?_⟩
    refine ⟨_, rfl, e, _, rfl, .inr (SqT.of he), _, _, rfl, rfl, ?_⟩
    rw [List.length_map]
    rcases hv with hb | ⟨i, rfl, hi, hv⟩
    · exact ⟨_, rfl, _, rfl, x, 0, (eds.length : Int) - 1, false, rfl, hx.kd, hb, false, rfl, iteT (iteT q)⟩
    refine ⟨_, rfl, _, rfl, _, 0, (eds.length : Int) - 1, true, rfl, kd_int, btw_int hi.1 hi.2, true, rfl, iteF ?_⟩
    rcases hv with hj | ⟨hj, hv⟩
    · exact ⟨_, rfl, _, rfl, _, 0, (eds.length : Int) - 1, false, rfl, kd_int, btw_out hj, false, rfl, iteT (iteT q)⟩
    refine ⟨_, rfl, _, rfl, _, 0, (eds.length : Int) - 1, true, rfl, kd_int, btw_int hj.1 hj.2, true, rfl, iteF ?_⟩
    refine ⟨_, rfl, _, rfl, rfl, ?_⟩
    rcases hv with hv | ⟨hv, ha⟩
    · rw [decide_eq_true (congrArg V.int hv)]
      exact ⟨_, rfl, iteT q⟩
    · rw [show decide (V.int i = V.int j) = false by rw [dec_int]; exact (beq_eq_false_iff_ne.mpr hv)]
      refine ⟨_, rfl, ?_⟩
      have ei : (eds.map V.int)[i.toNat]? = some (.int (eds[i.toNat]?.getD 0)) := by
        rw [List.getElem?_map, List.getElem?_eq_getElem (by omega : i.toNat < eds.length)]; rfl
      exact iteF ⟨_, rfl, _, rfl, _, rfl, rixT_of he (by omega : i = ((i.toNat : Nat) : Int)) ei ⟨_, 1, _, false, rfl, kd_int, btw_out ha, false, rfl, iteF q⟩⟩

def BadBk (H : Hp) (eds : List Int) (v : V) : Prop := NoTup H v ∨ ∃ (u : Addr) (y : V), v = .ref u ∧ H u = some (.tup [y]) ∧ BadB1 H eds y
theorem BadBk.x {H H1 : Hp} {eds : List Int} {v : V} (h : BadBk H eds v) (x : Xt (LX.SC H) H H1) : BadBk H1 eds v := by
  rcases h with h | ⟨u, y, e, h1, h2⟩
  · exact .inl (h.x x)
  · exact .inr ⟨u, y, e, x.tups _ _ h1, h2.x x⟩
def sn_is_book (Ts : List Addr) : Sp := fun vs H Q _ => ∃ (e : Addr) (v : V) (eds : List Int), vs = [.ref e, v] ∧ H e = some (.tup (eds.map V.int)) ∧ BadBk H eds v ∧ Tabs Ts H ∧ ∀ H', Xn H H' → Q (.bl false) H'
theorem ok_is_book_b (T : Txt mg) (TB : GxR.TabB base mg c TP) (hT : TP ∈ Ts) (C_is_entry : Callee P w K mg base "is_entry" 3 ["editions", "value"] sn_is_entry) (C_is_rising : Callee P w K mg base "is_rising" 1 ["things"] (sp_is_rising K)) (F : FunC K "is_book" s_is_book f fd c) : FnOk P w K mg base CX0 6 f fd ["editions", "value"] (sn_is_book Ts) := by
  refine F.ok sc_is_book (fun vs H Q E h => ?_) (fun A outer s H vs Q E hr h => ⟨_, (pss_cons (ps_if (PW.pt (pw_or (pt_not (pt_val (pe_callB (crK (K := K) rIsi call_isi rfl) (by rfl) T.g_isinstance (by decide +kernel) (pa_cons (pv 1) (pa_cons (pe_bltn (v := .ty "tuple") (by rfl) T.g_tuple boot_tuple rfl) pa_nil))))) (pw_or1 (pt_not (pt_val (pe_allG (own := [("entry", 2)]) hr rfl sc_is_book.nd (by rfl) T.g_all (by decide +kernel) TB rfl (piK (K := K) iTup (pi_tup (pv 1)) rfl) (gscp_by (N := N_is_book) (sc := defScope s_is_book) (own := [("entry", 2)]) (by decide +kernel)) (fun _ _ _ _ _ _ => (pg_name (i := 2) sc_is_book.nd rfl (Or.inl rfl))) (fun _ _ _ _ _ _ hr9 => pts_nil) (fun _ _ _ _ _ _ hr9 => (pe_callC C_is_entry hr9 (by rfl) (pa_cons (pv 0) (pa_cons (pv 2) pa_nil)))))))))) (pss_one (ps_ret pe_bl)) pss_nil)
    (pss_one (ps_ret (pe_callC C_is_rising hr (by rfl) (pa_cons (pe_lc (own := [("entry", 2)]) rfl sc_is_book.nd (piK (K := K) iTup (pi_tup (pv 1)) rfl) (blkOk_by (N := N_is_book) (sc := defScope s_is_book) (own := [("entry", 2)]) (by decide +kernel)) (fun _ _ _ _ _ => (pg_name (i := 2) sc_is_book.nd rfl (Or.inl rfl))) (fun _ _ _ _ _ => pts_nil) (fun _ _ _ _ _ => (pe_slice (slK (K := K) rSlA sl_tupA rfl) (pv 2) po_none (po_some pe_int)))) pa_nil))))), ?_⟩)
  · obtain ⟨e, v, eds, rfl, _⟩ := h; rfl
  · obtain ⟨e, v, eds, rfl, he, hv, hTs, q⟩ := h
    rcases hv with hv | ⟨b, y, rfl, hb, hy⟩
    · obtain ⟨t, ht, hb⟩ := hv.ty (K := K)
      exact ⟨_, rfl, v, .ty "tuple", .type t, .type "tuple", false, rfl, .ty _, ht, kit_ty hb, false, rfl, iteT (iteT (q H Xt.refl))⟩
    refine ⟨_, rfl, .ref _, .ty "tuple", .type "tuple", .type "tuple", true, rfl, .ty _, .base (.tup hb), kit_ty (by decide +kernel), true, rfl, ?_⟩
    refine iteF ⟨_, rfl, b, rfl, ⟨_, SqT.of hb⟩, hTs _ hT, fun H4 htb => ?_⟩
    have x4 := Xt.tabbed (S := No) (hTs _ hT) htb
    refine allG_tup (xs := [y]) (fun i H' => Xn H H' ∧ i = 0) ⟨x4, rfl⟩ (fun i H' _ x => SqT.of (x.1.tups _ _ hb)) (fun i v H' ev x => ?_) (fun H' x => nomatch x.2)
    obtain ⟨x, rfl⟩ := x
    cases ev
    exact ⟨rfl, yes_of ⟨_, rfl, _, rfl, e, y, eds, rfl, x.tups _ _ he, hy.x x.any, false, rfl, iteF ⟨false, rfl, iteT (q _ x)⟩⟩⟩

/-! ### clocks that are none: which part is named -/
inductive BadCk (H : Hp) : V → Str → Prop where
  | clock {v : V} (h : NotTup H v 5) : BadCk H v "clock"
  | period {u : Addr} {p e t g b : V} (h : H u = some (.tup [p, e, t, g, b])) (hs : LX.Shp H p) (hb : btw p 1 12 = false) : BadCk H (.ref u) "period"
  | editions {u : Addr} {per : Int} {e t g b : V} (h : H u = some (.tup [.int per, e, t, g, b])) (hp : 1 ≤ per ∧ per ≤ 12) (hb : BadEd H e) : BadCk H (.ref u) "editions"
  | touches {u ea : Addr} {k : Clk} {t g b : V} (h : H u = some (.tup [.int k.per, .ref ea, t, g, b])) (ok : k.Ok) (he : H ea = some (.tup (k.eds.map V.int))) (hb : BadTs H k.per k.eds t) : BadCk H (.ref u) "touches"
  | gaps {u ea ta : Addr} {k : Clk} {rt : List V} {g b : V} (h : H u = some (.tup [.int k.per, .ref ea, .ref ta, g, b])) (ok : k.Ok) (he : H ea = some (.tup (k.eds.map V.int))) (ht : H ta = some (.tup rt)) (hrt : Rows H rt k.tch) (hb : BadGs H k.per k.eds g) : BadCk H (.ref u) "gaps"
  | book {u ea ta ga : Addr} {k : Clk} {rt rg : List V} {b : V} (h : H u = some (.tup [.int k.per, .ref ea, .ref ta, .ref ga, b])) (ok : k.Ok) (he : H ea = some (.tup (k.eds.map V.int))) (ht : H ta = some (.tup rt)) (hrt : Rows H rt k.tch) (hg : H ga = some (.tup rg)) (hrg : Rows H rg k.gps) (hb : BadBk H k.eds b) : BadCk H (.ref u) "book"
theorem BadCk.x {H H1 : Hp} {v : V} {z : Str} (h : BadCk H v z) (x : Xt (LX.SC H) H H1) : BadCk H1 v z := by
  cases h with
  | clock h => exact .clock (h.x x)
  | period h hs hb => exact .period (x.tups _ _ h) (hs.x x) hb
  | editions h hp hb => exact .editions (x.tups _ _ h) hp (hb.x x)
  | touches h ok he hb => exact .touches (x.tups _ _ h) ok (x.tups _ _ he) (hb.x x)
  | gaps h ok he ht hrt hb => exact .gaps (x.tups _ _ h) ok (x.tups _ _ he) (x.tups _ _ ht) (hrt.x x) (hb.x x)
  | book h ok he ht hrt hg hrg hb => exact .book (x.tups _ _ h) ok (x.tups _ _ he) (x.tups _ _ ht) (hrt.x x) (x.tups _ _ hg) (hrg.x x) (hb.x x)
theorem BadCk.len {H : Hp} {v : V} {z : Str} (h : BadCk H v z) : z.length ≤ 1000 := by
  cases h <;> decide +kernel
def orP (A B : Sp) : Sp := fun vs H Q E => A vs H Q E ∨ B vs H Q E
def sn_wrong_part (Ts : List Addr) : Sp := fun vs H Q _ => ∃ (v : V) (z : Str), vs = [v] ∧ BadCk H v z ∧ Tabs Ts H ∧ ∀ H', Xn H H' → Q (.str z) H'
theorem ok_wrong_part_b (T : Txt mg) (C_is_tuple_of : Callee P w K mg base "is_tuple_of" 1 ["value", "many"] (se_tuple_of K)) (C_is_between : Callee P w K mg base "is_between" 2 ["value", "low", "high"] (se_between K)) (C_are_editions : Callee P w K mg base "are_editions" 5 ["value"] (orP (sp_are_editions Ts) (sn_are_editions Ts))) (C_are_touches : Callee P w K mg base "are_touches" 6 ["period", "editions", "value"] (orP (sp_are_touches Ts) (sn_are_touches Ts))) (C_are_gaps : Callee P w K mg base "are_gaps" 6 ["period", "editions", "value"] (orP (sp_are_gaps Ts) (sn_are_gaps Ts))) (C_is_book : Callee P w K mg base "is_book" 6 ["editions", "value"] (sn_is_book Ts)) (F : FunC K "wrong_part" s_wrong_part f fd c) : FnOk P w K mg base CX0 7 f fd ["clock"] (sn_wrong_part Ts) := by
  refine F.ok sc_wrong_part (fun vs H Q E h => ?_) (fun A outer s H vs Q E hr h => ⟨_, (pss_cons (ps_if (pt_not (pt_val (pe_callC C_is_tuple_of hr (by rfl) (pa_cons (pv 0) (pa_cons pe_int pa_nil))))) (pss_one (ps_ret pe_str)) pss_nil)
    (pss_cons (ps_asg (pv 0) (pg_tup rfl (pgs_cons (pg_name (i := 1) sc_wrong_part.nd rfl (Or.inl rfl)) (pgs_cons (pg_name (i := 2) sc_wrong_part.nd rfl (Or.inl rfl)) (pgs_cons (pg_name (i := 3) sc_wrong_part.nd rfl (Or.inl rfl)) (pgs_cons (pg_name (i := 4) sc_wrong_part.nd rfl (Or.inl rfl)) (pgs_cons (pg_name (i := 5) sc_wrong_part.nd rfl (Or.inl rfl)) pgs_nil)))))))
    (pss_cons (ps_if (pt_not (pt_val (pe_callC C_is_between hr (by rfl) (pa_cons (pv 1) (pa_cons pe_int (pa_cons (pe_gI rfl T.m_MOST_PERIOD) pa_nil)))))) (pss_one (ps_ret pe_str)) pss_nil)
    (pss_cons (ps_if (pt_not (pt_val (pe_callC C_are_editions hr (by rfl) (pa_cons (pv 2) pa_nil)))) (pss_one (ps_ret pe_str)) pss_nil)
    (pss_cons (ps_if (pt_not (pt_val (pe_callC C_are_touches hr (by rfl) (pa_cons (pv 1) (pa_cons (pv 2) (pa_cons (pv 3) pa_nil)))))) (pss_one (ps_ret pe_str)) pss_nil)
    (pss_cons (ps_if (pt_not (pt_val (pe_callC C_are_gaps hr (by rfl) (pa_cons (pv 1) (pa_cons (pv 2) (pa_cons (pv 4) pa_nil)))))) (pss_one (ps_ret pe_str)) pss_nil)
    (pss_cons (ps_if (pt_not (pt_val (pe_callC C_is_book hr (by rfl) (pa_cons (pv 2) (pa_cons (pv 5) pa_nil))))) (pss_one (ps_ret pe_str)) pss_nil)
    (pss_one (ps_ret pe_non))))))))), ?_⟩)
  · obtain ⟨v, z, rfl, _⟩ := h; rfl
  · obtain ⟨v, z, rfl, hv, hTs, q⟩ := h
    cases hv with
    | clock h => exact ⟨_, rfl, v, 5, false, rfl, h.1.kt, h.no (n := 5), false, rfl, iteT (q H Xt.refl)⟩
    | @period a p e t g b h hs hb =>
      refine ⟨_, rfl, _, 5, true, rfl, kt_tup h, by rw [tupOf_ref h]; rfl, true, rfl, iteF ?_⟩
      refine ⟨_, rfl, a, _, rfl, SqT.of h, rfl, _, _, rfl, _, _, rfl, _, _, rfl, _, _, rfl, _, _, rfl, rfl, ?_⟩
      exact ⟨_, rfl, _, 1, 12, false, rfl, hs.kd, hb, false, rfl, iteT (q H Xt.refl)⟩
    | @editions a per e t g b h hp hb =>
      refine ⟨_, rfl, _, 5, true, rfl, kt_tup h, by rw [tupOf_ref h]; rfl, true, rfl, iteF ?_⟩
      refine ⟨_, rfl, a, _, rfl, SqT.of h, rfl, _, _, rfl, _, _, rfl, _, _, rfl, _, _, rfl, _, _, rfl, rfl, ?_⟩
      refine ⟨_, rfl, _, 1, 12, true, rfl, kd_int, btw_int hp.1 hp.2, true, rfl, iteF ?_⟩
      exact ⟨_, rfl, .inr ⟨_, rfl, hb, hTs, fun H1 x1 => ⟨false, rfl, iteT (q H1 x1)⟩⟩⟩
    | @touches a e k t g b h ok he hb =>
      refine ⟨_, rfl, _, 5, true, rfl, kt_tup h, by rw [tupOf_ref h]; rfl, true, rfl, iteF ?_⟩
      refine ⟨_, rfl, a, _, rfl, SqT.of h, rfl, _, _, rfl, _, _, rfl, _, _, rfl, _, _, rfl, _, _, rfl, rfl, ?_⟩
      refine ⟨_, rfl, _, 1, 12, true, rfl, kd_int, btw_int ok.per.1 ok.per.2, true, rfl, iteF ?_⟩
      refine ⟨_, rfl, .inl ⟨e, k.eds, rfl, he, ok.len.1, ok.len.2, ok.eds, ok.sum, hTs, fun H1 x1 => ⟨true, rfl, iteF ?_⟩⟩⟩
      exact ⟨_, rfl, _, rfl, _, rfl, .inr ⟨k.per, e, t, k.eds, rfl, x1.tups _ _ he, hb.x x1.any, hTs.x x1, fun H2 x2 => ⟨false, rfl, iteT (q H2 (x1.trans x2))⟩⟩⟩
    | @gaps a e t k rt g b h ok he ht hrt hb =>
      refine ⟨_, rfl, _, 5, true, rfl, kt_tup h, by rw [tupOf_ref h]; rfl, true, rfl, iteF ?_⟩
      refine ⟨_, rfl, a, _, rfl, SqT.of h, rfl, _, _, rfl, _, _, rfl, _, _, rfl, _, _, rfl, _, _, rfl, rfl, ?_⟩
      refine ⟨_, rfl, _, 1, 12, true, rfl, kd_int, btw_int ok.per.1 ok.per.2, true, rfl, iteF ?_⟩
      refine ⟨_, rfl, .inl ⟨e, k.eds, rfl, he, ok.len.1, ok.len.2, ok.eds, ok.sum, hTs, fun H1 x1 => ⟨true, rfl, iteF ?_⟩⟩⟩
      refine ⟨_, rfl, _, rfl, _, rfl, .inl ⟨k.per, e, t, k.eds, rt, k.tch, rfl, x1.tups _ _ he, x1.tups _ _ ht, hrt.x x1, ok.tch, ok.tchR, ok.tchL, hTs.x x1, fun H2 x2 => ⟨true, rfl, iteF ?_⟩⟩⟩
      have x2 := x1.trans x2
      exact ⟨_, rfl, _, rfl, _, rfl, .inr ⟨k.per, e, g, k.eds, rfl, x2.tups _ _ he, ok.len.1, ok.len.2, hb.x x2.any, hTs.x x2, fun H3 x3 => ⟨false, rfl, iteT (q H3 (x2.trans x3))⟩⟩⟩
    | @book a e t g k rt rg b h ok he ht hrt hg hrg hb =>
      refine ⟨_, rfl, _, 5, true, rfl, kt_tup h, by rw [tupOf_ref h]; rfl, true, rfl, iteF ?_⟩
      refine ⟨_, rfl, a, _, rfl, SqT.of h, rfl, _, _, rfl, _, _, rfl, _, _, rfl, _, _, rfl, _, _, rfl, rfl, ?_⟩
      refine ⟨_, rfl, _, 1, 12, true, rfl, kd_int, btw_int ok.per.1 ok.per.2, true, rfl, iteF ?_⟩
      refine ⟨_, rfl, .inl ⟨e, k.eds, rfl, he, ok.len.1, ok.len.2, ok.eds, ok.sum, hTs, fun H1 x1 => ⟨true, rfl, iteF ?_⟩⟩⟩
      refine ⟨_, rfl, _, rfl, _, rfl, .inl ⟨k.per, e, t, k.eds, rt, k.tch, rfl, x1.tups _ _ he, x1.tups _ _ ht, hrt.x x1, ok.tch, ok.tchR, ok.tchL, hTs.x x1, fun H2 x2 => ⟨true, rfl, iteF ?_⟩⟩⟩
      have x2 := x1.trans x2
      refine ⟨_, rfl, _, rfl, _, rfl, .inl ⟨k.per, e, g, k.eds, rg, k.gps, rfl, x2.tups _ _ he, x2.tups _ _ hg, hrg.x x2, ok.gpsN, ok.len.2, ok.gps, hTs.x x2, fun H3 x3 => ⟨true, rfl, iteF ?_⟩⟩⟩
      have x3 := x2.trans x3
      exact ⟨_, rfl, _, rfl, e, b, k.eds, rfl, x3.tups _ _ he, hb.x x3.any, hTs.x x3, fun H4 x4 => ⟨false, rfl, iteT (q H4 (x3.trans x4))⟩⟩

def BadClk : LX.BadP := fun H vs x fv => ∃ v z, vs = [v] ∧ BadCk H v z ∧ x = "BadClock" ∧ fv = some (("part" : Str), V.str z)
theorem BadClk.x {H H1 : Hp} {vs : List V} {e : Str} {fv : Option (Str × V)} (h : BadClk H vs e fv) (x : Xt (LX.SC H) H H1) : BadClk H1 vs e fv := by
  obtain ⟨v, z, h1, h2, h3⟩ := h
  exact ⟨v, z, h1, h2.x x, h3⟩
abbrev spT (Ts : List Addr) (ad : Str → Addr) (B : LX.BadP) : Sp := fun vs H Q E => LC.Tabs Ts H ∧ LX.spR ad B vs H Q E
theorem ok_check_clock_b (T : Txt mg) (TI_BadClock : LX.ErrI P w K mg base "BadClock" "part" (ad "BadClock")) (C_wrong_part : Callee P w K mg base "wrong_part" 7 ["clock"] (sn_wrong_part Ts)) (F : FunC K "check_clock" s_check_clock f fd c) : FnOk P w K mg base (L2.CX P w) 8 f fd ["clock"] (spT Ts ad BadClk) := by
  refine LX.okR F sc_check_clock (fun vs H Q E h => ?_) (fun A outer s H vs Q E hr h => ⟨_, (pss_cons (ps_set (i := 1) sc_check_clock.nd rfl (Or.inl rfl) (pe_callC C_wrong_part hr (by rfl) (pa_cons (pv 0) pa_nil)))
    (pss_one (ps_if (pt_cmpR op_notN (pv 1) pe_non (nomark _)) (pss_one (ps_raise rfl (takes_of rfl rfl rfl rfl) (LX.pmk_one TI_BadClock hr (by decide) rfl (pv 1) LX.tVar_mono))) pss_nil))), ?_⟩)
  · obtain ⟨_, _, _, ⟨v, z, rfl, _⟩, _⟩ := h; rfl
  · obtain ⟨hTs, _, _, ⟨v, z, rfl, hv, rfl, rfl⟩, q⟩ := h
    refine ⟨_, rfl, v, z, rfl, hv, hTs, fun H1 x1 => ?_⟩
    refine ⟨_, rfl, rfl, true, rfl, iteT ⟨_, rfl, hv.len, fun d hd => ?_⟩⟩
    exact q _ _ _ (x1.trans (Xt.new hd)) ⟨rfl, d, rfl, upd_same⟩
def sp_check_clock_r (Ts : List Addr) (ad : Str → Addr) : Sp := fun vs H Q E => sp_check_clock Ts vs H Q E ∨ spT Ts ad BadClk vs H Q E
theorem ok_check_clock_r (T : Txt mg) (TI_BadClock : LX.ErrI P w K mg base "BadClock" "part" (ad "BadClock")) (C_good : Callee P w K mg base "wrong_part" 7 ["clock"] (sp_wrong_part Ts)) (C_bad : Callee P w K mg base "wrong_part" 7 ["clock"] (sn_wrong_part Ts)) (F : FunC K "check_clock" s_check_clock f fd c) : FnOk P w K mg base (L2.CX P w) 8 f fd ["clock"] (sp_check_clock_r Ts ad) :=
  LX.fn_or (LX.fn_up (ok_check_clock T C_good F)) (ok_check_clock_b T TI_BadClock C_bad F)

def BadTk (H : Hp) (v : V) (lo : Int) : Prop := LX.Shp H v ∧ btw v lo 1000000000000000000000000000000 = false
theorem BadTk.x {H H1 : Hp} {v : V} {lo : Int} (h : BadTk H v lo) (x : Xt (LX.SC H) H H1) : BadTk H1 v lo := ⟨h.1.x x, h.2⟩
def sp_check_tick_r (ad : Str → Addr) : Sp := fun vs H Q E => ∃ (v : V) (lo : Int), vs = [v, .int lo] ∧ ((∃ i, v = .int i ∧ lo ≤ i ∧ i ≤ 1000000000000000000000000000000 ∧ Q .non H) ∨ (BadTk H v lo ∧ E (.ref (ad "BadTick")) none H))
theorem ok_check_tick_r (T : Txt mg) (TE : LX.ErrT K mg ad askedL plainL) (C_is_between : Callee P w K mg base "is_between" 2 ["value", "low", "high"] (se_between K)) (F : FunC K "check_tick" s_check_tick f fd c) : FnOk P w K mg base (L2.CX P w) 3 f fd ["tick", "least"] (sp_check_tick_r ad) := by
  refine LX.okR F sc_check_tick (fun vs H Q E h => ?_) (fun A outer s H vs Q E hr h => ⟨_, (pss_one (ps_if (pt_not (pt_val (pe_callC C_is_between hr (by rfl) (pa_cons (pv 0) (pa_cons (pv 1) (pa_cons (pe_gI rfl T.m_MOST) pa_nil)))))) (pss_one (LX.ps_raiseT rfl (takes_of rfl rfl rfl rfl) TE (x := "BadTick") (by decide) rfl)) pss_nil)), ?_⟩)
  · obtain ⟨v, lo, rfl, _⟩ := h; rfl
  · obtain ⟨v, lo, rfl, ⟨i, rfl, i0, i1, q⟩ | ⟨⟨hv, hb⟩, q⟩⟩ := h
    · exact ⟨_, rfl, _, rfl, _, lo, _, true, rfl, kd_int, btw_int i0 i1, true, rfl, iteF q⟩
    · exact ⟨_, rfl, _, rfl, _, lo, _, false, rfl, hv.kd, hb, false, rfl, iteT q⟩

def sp_check_wheel_r (ad : Str → Addr) : Sp := fun vs H Q E => ∃ (v x : V) (k : Clk), vs = [v, x] ∧ ClkAt H v k ∧ ((∃ i : Int, x = .int i ∧ 0 ≤ i ∧ i < k.eds.length ∧ Q .non H) ∨ (LX.Shp H x ∧ btw x 0 ((k.eds.length : Int) - 1) = false ∧ E (.ref (ad "BadWheel")) none H))
theorem ok_check_wheel_r (T : Txt mg) (TE : LX.ErrT K mg ad askedL plainL) (C_is_between : Callee P w K mg base "is_between" 2 ["value", "low", "high"] (se_between K)) (F : FunC K "check_wheel" s_check_wheel f fd c) : FnOk P w K mg base (L2.CX P w) 3 f fd ["clock", "wheel"] (sp_check_wheel_r ad) := by
  refine LX.okR F sc_check_wheel (fun vs H Q E h => ?_) (fun A outer s H vs Q E hr h => ⟨_, (pss_one (ps_if (pt_not (pt_val (pe_callC C_is_between hr (by rfl) (pa_cons (pv 1) (pa_cons pe_int (pa_cons (pe_op op_sub (pe_callB (crK (K := K) rLenQ cr_len rfl) (by rfl) T.g_len (by decide +kernel) (pa_cons (pe_ix (ixK (K := K) rIxT ix_tup rfl) (pv 0) pe_int (fun _ _ => rfl)) pa_nil)) pe_int) pa_nil)))))) (pss_one (LX.ps_raiseT rfl (takes_of rfl rfl rfl rfl) TE (x := "BadWheel") (by decide) rfl)) pss_nil)), ?_⟩)
  · obtain ⟨v, x, k, rfl, _⟩ := h; rfl
  · obtain ⟨v, x, k, rfl, ⟨⟨a, e, t, g, b, rt, rg, rb, rfl, h1, h2, h3, h4, h5, h6, h7, h8⟩⟩, hx⟩ := h
    refine ⟨_, rfl, _, rfl, rixT_of (j := 1) h1 rfl rfl ⟨e, _, rfl, .inr (SqT.of h2), _, _, rfl, rfl, ?_⟩⟩
    rw [List.length_map]
    rcases hx with ⟨i, rfl, i0, i1, q⟩ | ⟨hs, hb, q⟩
    · exact ⟨_, 0, _, true, rfl, kd_int, btw_int i0 (by omega), true, rfl, iteF q⟩
    · exact ⟨x, 0, _, false, rfl, hs.kd, hb, false, rfl, iteT q⟩

end K02
-- K02_d5
namespace K02
open PySem PySem.Spec PyProof.Rows L2 LC
variable [Tbl]
variable {P : Program} {w : World} {K : PySem.W.Frag} {mg : Str → Option Value} {base : Heap} {f c : Addr} {fd : FuncData} {Ts : List Addr} {TP : Addr}

theorem ok_law_taken (T : Txt mg) (F : FunC K "_law_taken" s_law_taken f fd c) : FnOk P w K mg base CX0 1 f fd ["row", "many"] (sb_taken K) := by
  refine F.ok sc_law_taken (fun vs H Q E h => ?_) (fun A outer s H vs Q E hr h => ⟨_, (pss_cons (ps_if (pt_cmpR op_gt (pe_ix (ixK (K := K) rIxL ix_list rfl) (pv 0) pe_int (fun _ _ => rfl)) pe_int (nomark _)) (pss_cons (ps_set (i := 3) sc_law_taken.nd rfl (Or.inl rfl) (pe_op op_modN (pe_callTy call_int1 (by rfl) T.g_int (by decide +kernel) (pa_cons (pe_ix (ixK (K := K) rIxL ix_list rfl) (pv 0) pe_int (fun _ _ => rfl)) pa_nil)) (pv 1)))
    (pss_cons (ps_asg (pe_op op_fdivW (pe_ix (ixK (K := K) rIxL ix_list rfl) (pv 0) pe_int (fun _ _ => rfl)) (pv 1)) (pg_sub (pv 0) pe_int set_list))
    (pss_one (ps_ret (pv 3))))) pss_nil)
    (pss_cons (ps_asg (pe_op op_add (pe_ix (ixK (K := K) rIxL ix_list rfl) (pv 0) pe_int (fun _ _ => rfl)) pe_int) (pg_sub (pv 0) pe_int set_list))
    (pss_cons (ps_if (pt_cmpR op_gt (pe_ix (ixK (K := K) rIxL ix_list rfl) (pv 0) pe_int (fun _ _ => rfl)) (pe_callB (crK (K := K) rLenQ cr_len rfl) (by rfl) T.g_len (by decide +kernel) (pa_cons (pe_ix (ixK (K := K) rIxL ix_list rfl) (pv 0) pe_int (fun _ _ => rfl)) pa_nil)) (nomark _)) (pss_cons (ps_asg (pe_op op_modN (pe_callTy call_int1 (by rfl) T.g_int (by decide +kernel) (pa_cons (pe_op op_add (pe_op op_mul (pe_ix (ixK (K := K) rIxL ix_list rfl) (pv 0) pe_int (fun _ _ => rfl)) pe_int) pe_int) pa_nil)) pe_int) (pg_sub (pv 0) pe_int set_list))
    (pss_one (ps_ret (pe_op op_modN (pe_callTy call_int1 (by rfl) T.g_int (by decide +kernel) (pa_cons (pe_op op_fdivW (pe_ix (ixK (K := K) rIxL ix_list rfl) (pv 0) pe_int (fun _ _ => rfl)) pe_int) pa_nil)) (pv 1))))) pss_nil)
    (pss_cons (ps_set (i := 2) sc_law_taken.nd rfl (Or.inl rfl) (pe_ix (ixK (K := K) rIxL ix_list rfl) (pe_ix (ixK (K := K) rIxL ix_list rfl) (pv 0) pe_int (fun _ _ => rfl)) (pe_op op_sub (pe_ix (ixK (K := K) rIxL ix_list rfl) (pv 0) pe_int (fun _ _ => rfl)) pe_int) (fun _ _ => rfl)))
    (pss_cons (ps_asg (pe_op op_modN (pe_callTy call_int1 (by rfl) T.g_int (by decide +kernel) (pa_cons (pe_op op_add (pe_op op_add (pe_op op_mul (pe_ix (ixK (K := K) rIxL ix_list rfl) (pv 0) pe_int (fun _ _ => rfl)) pe_int) (pv 2)) pe_int) pa_nil)) pe_int) (pg_sub (pv 0) pe_int set_list))
    (pss_cons (ps_if (pt_cmpR op_ge (pv 2) (pe_op op_pow pe_int pe_int) (nomark _)) (pss_one (ps_asg (pe_op op_fdivW (pv 2) (pv 1)) (pg_sub (pv 0) pe_int set_list))) pss_nil)
    (pss_one (ps_ret (pe_op op_modN (pe_callTy call_int1 (by rfl) T.g_int (by decide +kernel) (pa_cons (pv 2) pa_nil)) (pv 1)))))))))), ?_⟩)
  · obtain ⟨row, scr, ns, m, rfl, _⟩ := h; rfl
  · obtain ⟨row, scr, ns, m, rfl, hR, m1, m2, q⟩ := h
    obtain ⟨⟨i, x, r, h1, hi, hx, hx2, hr0⟩, hsc, hne⟩ := id hR
    have x0 : ∀ o, Xt (At1 row) H (upd H row o) := fun o => Xt.own rfl h1
    refine ⟨_, rfl, rixLC 3 h1 rfl rfl ⟨_, _, rfl, rfl, _, rfl, ?_⟩⟩
    by_cases c1 : r > 0
    · rw [decide_eq_true c1]
      refine iteT ⟨_, rfl, rixLC 3 h1 rfl rfl (.inl ⟨_, rfl, _, rfl, _, _, rfl, rfl, by omega, ?_⟩)⟩
      refine ⟨_, rfl, rixLC 3 h1 rfl rfl ⟨_, rfl, _, _, rfl, rfl, ⟨by omega, ?_⟩, _, rfl, _, _, _, 3, rfl, rfl, h1, rfl, ?_⟩⟩
      · exact Nat.lt_of_le_of_lt (Nat.log2_le_self _) (by omega)
      · refine ⟨_, rfl, q _ _ (Int.fmod_nonneg_of_pos _ (by omega)) (Int.fmod_lt_of_pos _ (by omega)) (x0 _) (hR.upd hi hx hx2 ?_)⟩
        exact Int.ediv_nonneg hr0 (by omega)
    · rw [decide_eq_false c1]
      refine iteF ?_
      refine ⟨_, rfl, rixLC 1 h1 rfl rfl ⟨_, _, rfl, rfl, _, rfl, _, _, _, 1, rfl, rfl, h1, rfl, ?_⟩⟩
      have h2 : upd H row (.lst [.ref scr, .int (i + 1), .int x, .int r]) row = some (.lst [.ref scr, .int (i + 1), .int x, .int r]) := upd_same
      have hsc2 := sqL_neK (o := .lst [.ref scr, .int (i + 1), .int x, .int r]) hsc hne
      have d1 : (2147483647 : Int) ≠ 0 := by decide
      have fm : ∀ y : Int, 0 ≤ y.fmod 2147483647 ∧ y.fmod 2147483647 < 2147483647 := fun y => ⟨Int.fmod_nonneg_of_pos _ (by decide), Int.fmod_lt_of_pos _ (by decide)⟩
      have fq : ∀ y : Int, 0 ≤ y.fmod m ∧ y.fmod m < m := fun y => ⟨Int.fmod_nonneg_of_pos _ (by omega), Int.fmod_lt_of_pos _ (by omega)⟩
      refine ⟨_, rfl, rixLC 1 h2 rfl rfl ⟨_, rfl, rixLC 0 h2 rfl rfl ⟨scr, _, rfl, .inl hsc2, ?_⟩⟩⟩
      refine ⟨_, _, rfl, rfl, _, rfl, ?_⟩
      rw [List.length_map]
      by_cases c2 : i + 1 > (ns.length : Int)
      · rw [decide_eq_true c2]
        refine iteT ⟨_, rfl, rixLC 2 h2 rfl rfl ⟨_, _, rfl, rfl, .inr (by decide), _, _, rfl, rfl, .inl ⟨_, rfl, _, _, rfl, rfl, d1, ?_⟩⟩⟩
        refine ⟨_, rfl, _, _, _, 2, rfl, rfl, h2, rfl, ?_⟩
        have h3 : upd (upd H row (.lst [.ref scr, .int (i + 1), .int x, .int r])) row (.lst [.ref scr, .int (i + 1), .int ((x * 48271 + 11).fmod 2147483647), .int r]) row = some (.lst [.ref scr, .int (i + 1), .int ((x * 48271 + 11).fmod 2147483647), .int r]) := upd_same
        refine ⟨_, rfl, rixLC 2 h3 rfl rfl ⟨_, _, rfl, rfl, ⟨by decide, by decide⟩, .inl ⟨_, rfl, _, rfl, _, _, rfl, rfl, by omega, ?_⟩⟩⟩
        refine q _ _ (fq _).1 (fq _).2 ((x0 _).trans (Xt.own rfl h2)) (RowAt.upd (hR.upd (i := i + 1) (by omega) hx hx2 hr0) (by omega) (fm _).1 (fm _).2 hr0)
      · rw [decide_eq_false c2]
        refine iteF ?_
        have hlt : i.toNat < ns.length := by omega
        obtain ⟨cell, ec⟩ : ∃ z, ns[i.toNat]? = some z := ⟨_, List.getElem?_eq_getElem hlt⟩
        refine ⟨_, rfl, rixLC 0 h2 rfl rfl ⟨_, rfl, rixLC 1 h2 rfl rfl ⟨_, _, rfl, rfl, ?_⟩⟩⟩
        refine rixL (v := .int cell) i.toNat hsc2 (by omega) (by rw [List.getElem?_map, ec]; rfl) ?_
        refine ⟨_, rfl, rixLC 2 h2 rfl rfl ⟨_, _, rfl, rfl, .inr (by decide), _, rfl, _, _, rfl, rfl, _, _, rfl, rfl, .inl ⟨_, rfl, _, _, rfl, rfl, d1, ?_⟩⟩⟩
        refine ⟨_, rfl, _, _, _, 2, rfl, rfl, h2, rfl, ?_⟩
        have h3 : upd (upd H row (.lst [.ref scr, .int (i + 1), .int x, .int r])) row (.lst [.ref scr, .int (i + 1), .int ((x * 48271 + cell + 11).fmod 2147483647), .int r]) row = some (.lst [.ref scr, .int (i + 1), .int ((x * 48271 + cell + 11).fmod 2147483647), .int r]) := upd_same
        refine ⟨_, rfl, _, _, rfl, rfl, ⟨by decide, by decide, by decide⟩, _, _, rfl, rfl, _, rfl, ?_⟩
        have x3 := (x0 (.lst [.ref scr, .int (i + 1), .int x, .int r])).trans (Xt.own (S := At1 row) (o := .lst [.ref scr, .int (i + 1), .int ((x * 48271 + cell + 11).fmod 2147483647), .int r]) rfl h2)
        have r3 := RowAt.upd (x := (x * 48271 + cell + 11).fmod 2147483647) (hR.upd (i := i + 1) (by omega) hx hx2 hr0) (show 0 ≤ i + 1 by omega) (fm _).1 (fm _).2 hr0
        by_cases c3 : cell ≥ 10 ^ (18 : Int).toNat
        · rw [decide_eq_true c3]
          refine iteT ⟨_, rfl, _, rfl, _, _, rfl, rfl, ⟨by omega, Nat.lt_of_le_of_lt (Nat.log2_le_self _) (by omega)⟩, _, rfl, _, _, _, 3, rfl, rfl, h3, rfl, ?_⟩
          refine ⟨_, rfl, .inl ⟨_, rfl, _, rfl, _, _, rfl, rfl, by omega, ?_⟩⟩
          have hc0 : (0 : Int) ≤ cell := by
            have e : (10 : Int) ^ (18 : Int).toNat = 1000000000000000000 := by decide +kernel
            rw [e] at c3; omega
          exact q _ _ (fq _).1 (fq _).2 (x3.trans (Xt.own rfl h3)) (r3.upd (by omega) (fm _).1 (fm _).2 (Int.ediv_nonneg hc0 (by omega)))
        · rw [decide_eq_false c3]
          refine iteF ?_
          refine ⟨_, rfl, .inl ⟨_, rfl, _, rfl, _, _, rfl, rfl, by omega, ?_⟩⟩
          exact q _ _ (fq _).1 (fq _).2 x3 r3

end K02
-- K02_d6
namespace K02
open PySem PySem.Spec PyProof.Rows L2 LC
variable [Tbl]
variable {P : Program} {w : World} {K : PySem.W.Frag} {mg : Str → Option Value} {base : Heap} {f c : Addr} {fd : FuncData} {Ts : List Addr} {TP : Addr}

@[reducible] def sgLC (row : Addr) (per wh mo en : Int) (x5 x6 x7 x8 x9 x10 x11 x12 x13 x14 : Option V) : L2.St := [some (.ref row), some (.int per), some (.int wh), some (.int mo), some (.int en), x5, x6, x7, x8, x9, x10, x11, x12, x13, x14, none, none, none]
def sp_low_clock (K : PySem.W.Frag) : Sp := fun vs H Q _ => ∃ (row scr : Addr) (ns : List Int) (per wh mo en : Int), vs = [.ref row, .int per, .int wh, .int mo, .int en] ∧ RowAt K H row scr ns ∧ 1 ≤ per ∧ per ≤ 12 ∧ 1 ≤ wh ∧ wh ≤ 6 ∧ 1 ≤ mo ∧ mo ≤ 4 ∧ 0 ≤ en ∧ en ≤ 12 ∧
  ∀ H' v k, Xt (At1 row) H H' → RowAt K H' row scr ns → ClkAt H' v k → k.Ok → Q v H'
def sp_low_clockX (K : PySem.W.Frag) : Sp := fun vs H Q _ => ∃ (row scr : Addr) (ns : List Int) (per wh mo en : Int), vs = [.ref row, .int per, .int wh, .int mo, .int en] ∧ RowAt K H row scr ns ∧ 1 ≤ per ∧ per ≤ 12 ∧ 1 ≤ wh ∧ wh ≤ 6 ∧ 1 ≤ mo ∧ mo ≤ 4 ∧ 0 ≤ en ∧ en ≤ 12 ∧
  ∀ H' v k, Xt (At1 row) H H' → RowAt K H' row scr ns → ClkAt H' v k → k.Ok → k.per = per → (k.eds.length : Int) = wh → Q v H'
theorem ok_law_low_clockX (T : Txt mg) (C_law_taken : Callee P w K mg base "_law_taken" 1 ["row", "many"] (sb_taken K)) (F : FunC K "_law_low_clock" s_law_low_clock f fd c) : FnOk P w K mg base CX0 2 f fd ["row", "period", "wheels", "most", "entries"] (sp_low_clockX K) := by
  refine F.ok sc_law_low_clock (fun vs H Q E h => ?_) (fun A outer s H vs Q E hr h => ⟨_, (pss_cons (ps_setLc (i := 5) (own := [("wheel", 15)]) rfl sc_law_low_clock.nd rfl rfl (sw_true rfl rfl rfl (by decide +kernel)) (pi_range1 (by rfl) T.g_range (pa_cons (pv 2) pa_nil)) (blkOk_by (N := N_law_low_clock) (sc := defScope s_law_low_clock) (own := [("wheel", 15)]) (by decide +kernel)) (fun _ _ _ _ _ => (pg_name (i := 15) sc_law_low_clock.nd rfl (Or.inl rfl))) (fun _ _ _ _ _ => pts_nil) (fun _ _ _ _ _ => (pe_callC C_law_taken hr (by rfl) (pa_cons (pv 0) (pa_cons (pe_op op_add (pv 3) pe_int) pa_nil)))))
    (pss_cons (ps_while PassesOwn.never (pt_cmpR op_gt (pe_callB (crK (K := K) rSumT (cr_sumT rfl) rfl) (by rfl) T.g_sum (by decide +kernel) (pa_cons (pv 5) pa_nil)) pe_int (nomark _)) (pss_one (ps_asg pe_int (pg_sub (pv 5) (pe_bm PySem.F.plainAttrs_list PySem.F.slot_list_index PySem.F.type_list_index mt_index (pv 5) (pa_cons (pe_callB (cr_max rfl) (by rfl) T.g_max (by decide +kernel) (pa_cons (pv 5) pa_nil)) pa_nil)) set_list))))
    (pss_cons (ps_set (i := 6) sc_law_low_clock.nd rfl (Or.inl rfl) pe_dnewT)
    (pss_cons (ps_for PassesOwn.never rfl (pi_range1 (by rfl) T.g_range (pa_cons (pe_callC C_law_taken hr (by rfl) (pa_cons (pv 0) (pa_cons (pe_op op_add pe_int (pe_op op_mul pe_int (pv 2))) pa_nil))) pa_nil)) (pg_name (i := 7) sc_law_low_clock.nd rfl (Or.inl rfl)) (pss_cons (ps_set (i := 12) sc_law_low_clock.nd rfl (Or.inl rfl) (pe_callC C_law_taken hr (by rfl) (pa_cons (pv 0) (pa_cons (pv 2) pa_nil))))
    (pss_cons (ps_set (i := 13) sc_law_low_clock.nd rfl (Or.inl rfl) (pe_callC C_law_taken hr (by rfl) (pa_cons (pv 0) (pa_cons (pv 2) pa_nil))))
    (pss_one (ps_if (pt_cmpR op_lt (pv 12) (pv 13) (nomark _)) (pss_one (ps_dput (hu_of hr) (pv 6) (pe_tup (pa_cons (pe_callC C_law_taken hr (by rfl) (pa_cons (pv 0) (pa_cons (pv 1) pa_nil))) (pa_cons (pv 12) (pa_cons (pv 13) pa_nil)))) pe_bl rfl)) pss_nil)))))
    (pss_cons (ps_set (i := 8) sc_law_low_clock.nd rfl (Or.inl rfl) (pe_lst pa_nil))
    (pss_cons (ps_for PassesOwn.never rfl (piK (K := K) iList (pi_list (pv 5)) rfl) (pg_name (i := 9) sc_law_low_clock.nd rfl (Or.inl rfl)) (pss_cons (ps_setLc (i := 14) (own := [("phase", 16)]) rfl sc_law_low_clock.nd rfl rfl (sw_true rfl rfl rfl (by decide +kernel)) (pi_range1 (by rfl) T.g_range (pa_cons (pv 1) pa_nil)) (blkOk_by (N := N_law_low_clock) (sc := defScope s_law_low_clock) (own := [("phase", 16)]) (by decide +kernel)) (fun _ _ _ _ _ => (pg_name (i := 16) sc_law_low_clock.nd rfl (Or.inl rfl))) (fun _ _ _ _ _ => (pts_one (pt_cmpR op_gt (pe_callC C_law_taken hr (by rfl) (pa_cons (pv 0) (pa_cons pe_int pa_nil))) pe_int (nomark _)))) (fun _ _ _ _ _ => (pv 16)))
    (pss_one (ps_expr (pe_bm PySem.F.plainAttrs_list PySem.F.slot_list_append PySem.F.type_list_append mt_append (pv 8) (pa_cons (pe_callTy (crK (K := K) rTupQ cr_tuple rfl) (by rfl) T.g_tuple (by decide +kernel) (pa_cons (pe_ifExp (pt_cmpR (op_neD hr.units) (pv 14) (pe_lst pa_nil) (nomark _)) (pv 14) (pe_lst (pa_cons (pe_callC C_law_taken hr (by rfl) (pa_cons (pv 0) (pa_cons (pv 1) pa_nil))) pa_nil))) pa_nil)) pa_nil))))))
    (pss_cons (ps_set (i := 10) sc_law_low_clock.nd rfl (Or.inr rfl) pe_dnewT)
    (pss_cons (ps_for PassesOwn.never rfl (pi_range1 (by rfl) T.g_range (pa_cons (pe_callC C_law_taken hr (by rfl) (pa_cons (pv 0) (pa_cons (pe_op op_add (pv 4) pe_int) pa_nil))) pa_nil)) (pg_name (i := 7) sc_law_low_clock.nd rfl (Or.inl rfl)) (pss_cons (ps_par (i := 12) (j := 13) rfl sc_law_low_clock.nd rfl rfl (by decide) rfl rfl (pa_cons (pe_callC C_law_taken hr (by rfl) (pa_cons (pv 0) (pa_cons (pv 2) pa_nil))) (pa_cons (pe_callC C_law_taken hr (by rfl) (pa_cons (pv 0) (pa_cons (pv 2) pa_nil))) pa_nil)) (by rfl))
    (pss_one (ps_if (PW.pt (pw_and (pt_cmpR op_ne (pv 12) (pv 13) (nomark _)) (pw_and (pt_cmpR op_gt (pe_ix (ixK (K := K) rIxL ix_list rfl) (pv 5) (pv 12) (fun _ _ => rfl)) pe_int (nomark _)) (pw_and1 (pt_cmpR op_gt (pe_ix (ixK (K := K) rIxL ix_list rfl) (pv 5) (pv 13) (fun _ _ => rfl)) pe_int (nomark _)))))) (pss_one (ps_dput (hu_of hr) (pv 10) (pe_tup (pa_cons (pv 12) (pa_cons (pe_op op_add pe_int (pe_callC C_law_taken hr (by rfl) (pa_cons (pv 0) (pa_cons (pe_ix (ixK (K := K) rIxL ix_list rfl) (pv 5) (pv 12) (fun _ _ => rfl)) pa_nil)))) (pa_cons (pv 13) pa_nil)))) (pe_op op_add pe_int (pe_callC C_law_taken hr (by rfl) (pa_cons (pv 0) (pa_cons (pe_ix (ixK (K := K) rIxL ix_list rfl) (pv 5) (pv 13) (fun _ _ => rfl)) pa_nil)))) rfl)) pss_nil))))
    (pss_cons (ps_set (i := 11) sc_law_low_clock.nd rfl (Or.inl rfl) (pe_callTy (crK (K := K) rTupQ cr_tuple rfl) (by rfl) T.g_tuple (by decide +kernel) (pa_cons (pe_lc (own := [("key", 17)]) rfl sc_law_low_clock.nd (piK (K := K) iList (pi_list (pe_callB (cr_sortT (d := 3) (B := 64) (by decide)) (by rfl) T.g_sorted (by decide +kernel) (pa_cons (pe_callTy (call_list_dT rfl) (by rfl) T.g_list (by decide +kernel) (pa_cons (pv 10) pa_nil)) pa_nil))) rfl) (blkOk_by (N := N_law_low_clock) (sc := defScope s_law_low_clock) (own := [("key", 17)]) (by decide +kernel)) (fun _ _ _ _ _ => (pg_name (i := 17) sc_law_low_clock.nd rfl (Or.inl rfl))) (fun _ _ _ _ _ => pts_nil) (fun _ _ _ _ _ => (pe_op (opK (K := K) rCatT op_catT rfl) (pv 17) (pe_tup (pa_cons (pe_dget (hu_of hr) (pv 10) (pv 17) (fun _ _ => rfl)) pa_nil))))) pa_nil)))
    (pss_one (ps_ret (pe_tup (pa_cons (pv 1) (pa_cons (pe_callTy (crK (K := K) rTupQ cr_tuple rfl) (by rfl) T.g_tuple (by decide +kernel) (pa_cons (pv 5) pa_nil)) (pa_cons (pe_callTy (crK (K := K) rTupQ cr_tuple rfl) (by rfl) T.g_tuple (by decide +kernel) (pa_cons (pe_callB (cr_sortT (d := 3) (B := 64) (by decide)) (by rfl) T.g_sorted (by decide +kernel) (pa_cons (pe_callTy (call_list_dT rfl) (by rfl) T.g_list (by decide +kernel) (pa_cons (pv 6) pa_nil)) pa_nil)) pa_nil)) (pa_cons (pe_callTy (crK (K := K) rTupQ cr_tuple rfl) (by rfl) T.g_tuple (by decide +kernel) (pa_cons (pv 8) pa_nil)) (pa_cons (pv 11) pa_nil))))))))))))))))), ?_⟩)
  · obtain ⟨row, scr, ns, per, wh, mo, en, rfl, _⟩ := h; rfl
  · obtain ⟨row, scr, ns, per, wh, mo, en, rfl, hR, p1, p2, w1, w2, mo1, mo2, en1, en2, q⟩ := h
    have hrow : H row ≠ none := by obtain ⟨_, _, _, e, _⟩ := hR.ex; rw [e]; exact fun z => by cases z
    have nerow : ∀ {p : Addr}, H p = none → p ≠ row := fun hp z => hrow (z ▸ hp)
    refine ⟨_, rfl, wh, rfl, by omega, by omega, fun E hE => ?_⟩
    refine lc_range (n := wh.toNat) (fun i H' => Xt (At1 row) H H' ∧ RowAt K H' row scr ns ∧ ∃ es : List Int, es.length = i ∧ (∀ e ∈ es, 0 ≤ e ∧ e ≤ 4) ∧ H' E = some (.lst (es.map V.int))) ⟨Xt.new hE, hR.x (Xt.new hE), [], rfl, (fun _ h => nomatch h), upd_same⟩ (fun i H' hi hp => ?_) (fun H' hp => ?_)
    · obtain ⟨hx, hR', es, hl, he, hD⟩ := hp
      refine ⟨rfl, yes_of ⟨_, rfl, _, rfl, _, _, rfl, rfl, row, scr, ns, mo + 1, rfl, hR', by omega, by omega, fun H2 n n0 n1 x2 hR2 => ?_⟩⟩
      have hD2 : H2 E = some (.lst (es.map V.int)) := x2.keep E _ (nerow hE) (fun _ z => by cases z) hD
      refine ⟨_, hD2, sz_lt (by rw [List.length_map]; omega), (hx.trans x2).young hE, hR.yo ((hx.trans x2).young hE) hR2 (nerow hE), es ++ [n], by rw [List.length_append, hl]; rfl, fun e h => ?_, by rw [upd_same, List.map_append]; rfl⟩
      rw [List.mem_append] at h
      rcases h with h | h
      · exact he e h
      · rw [List.mem_singleton] at h; subst h; exact ⟨n0, by omega⟩
    · obtain ⟨hx, hR', es, hl, he, hD⟩ := hp
      have hel : (es.length : Int) = wh := by omega
      refine while_by (fun σ H2 => σ = sgLC row per wh mo en (some (.ref E)) none none none none none none none none none ∧ Xt (At1 row) H H2 ∧ RowAt K H2 row scr ns ∧ ∃ es : List Int, (es.length : Int) = wh ∧ (∀ e ∈ es, 0 ≤ e ∧ e ≤ 4) ∧ H2 E = some (.lst (es.map V.int))) (fun _ H2 => msr E H2) ⟨rfl, hx, hR', es, hel, he, hD⟩ ?_ ?_
      · rintro σ H2 ⟨rfl, hx2, hR2, es2, hl2, he2, hD2⟩
        refine ⟨_, rfl, E, es2, rfl, .inr (SqL.of hD2), _, _, rfl, rfl, _, rfl, ?_⟩
        by_cases c1 : es2.sum > (12 : Int)
        · rw [decide_eq_true c1]
          refine iteT ⟨_, rfl, _, rfl, .inl ⟨rfl, _, SqL.of hD2⟩, _, rfl, E, es2, rfl, SqL.of hD2, by omega, fun m hm hmax => ?_⟩
          obtain ⟨j, hj, hj2⟩ := first_ix hm
          have hjl : j < es2.length := (List.getElem?_eq_some_iff.mp hj).1
          have m0 : 0 < m := by
            by_cases z : 0 < m
            · exact z
            · have := sum_pos_max hmax (by omega); omega
          refine ⟨E, es2.map V.int, .int m, j, .int m, rfl, rfl, SqL.of hD2, rfl, ?_, by rw [List.getElem?_map, hj]; rfl, by show (m == m) = true; exact beq_self_eq_true m, fun i z hi hz => ?_, ?_⟩
          · rw [List.all_map, List.all_eq_true]; exact fun _ _ => rfl
          · rw [List.getElem?_map] at hz
            cases ez : es2[i]? with
            | none => rw [ez] at hz; cases hz
            | some y =>
              rw [ez] at hz; cases hz
              show (y == m) = false
              exact beq_eq_false_iff_ne.mpr (hj2 i y hi ez)
          have hE3 : upd H2 E (.lst ((es2.map V.int).set j (.int 0))) E = some (.lst ((es2.set j 0).map V.int)) := by rw [upd_same, List.map_set]
          have x3 : Xt (At1 row) H (upd H2 E (.lst ((es2.map V.int).set j (.int 0)))) := hx2.young hE
          refine ⟨E, _, _, j, rfl, rfl, hD2, ?_, ⟨rfl, x3, hR.yo x3 hR2 (nerow hE), es2.set j 0, by rw [List.length_set]; exact hl2, mem_set0 he2, hE3⟩, ?_⟩
          · rw [List.length_map]; unfold ixN; rw [if_pos (by omega), if_pos (by omega), Int.toNat_natCast]
          · rw [msr_of hE3, msr_of hD2]
            have := set_sum hj; omega
        · rw [decide_eq_false c1]
          refine iteF ?_
          refine fun TD hTD => ?_
          have hET : E ≠ TD := ne_none hD2 hTD
          have hTD0 : H TD = none := hR2.back hx2 hTD
          refine ⟨_, rfl, _, rfl, _, _, rfl, rfl, .inl ⟨by decide, by decide⟩, _, _, rfl, rfl, row, scr, ns, 2 + 2 * wh, rfl, hR2.x (Xt.new hTD), by omega, by omega, fun H3 nt nt0 nt1 x3 hR3 => ⟨nt, rfl, by omega, by omega, ?_⟩⟩
          have hE3 : H3 E = some (.lst (es2.map V.int)) := x3.keep E _ (nerow hE) (fun _ z => by cases z) (upd_old hD2 hTD)
          have hT3 : H3 TD = some (.dT (dOf [])) := x3.keep TD _ (nerow hTD0) (fun _ z => by cases z) upd_same
          have hx3 : Xt (At1 row) H H3 := (hx2.trans (Xt.new hTD)).trans x3
          clear x3
          refine for_range (n := nt.toNat) (fun i σ H' => ∃ tu o1 o2, σ = sgLC row per wh mo en (some (.ref E)) (some (.ref TD)) tu none none none none o1 o2 none ∧ Xt (At1 row) H H' ∧ RowAt K H' row scr ns ∧ H' E = some (.lst (es2.map V.int)) ∧ ∃ ps : List (List Int × V), H' TD = some (.dT (dOf ps)) ∧ (ps.map (·.1)).Nodup ∧ (∀ p ∈ ps, TchOk per es2 p.1) ∧ ps.length ≤ i) ⟨_, _, _, rfl, hx3, hR3, hE3, [], hT3, List.nodup_nil, (fun _ h => nomatch h), Nat.le_refl _⟩ (fun i σ H' hi hp => ?_) (fun σ H' hp => ?_)
          · obtain ⟨tu, o1, o2, rfl, hx, hRr, hEe, ps, hTt, nd, hok, hle⟩ := hp
            refine ⟨_, rfl, _, rfl, row, scr, ns, wh, rfl, hRr, by omega, by omega, fun H4 a a0 a1 x4 hR4 => ?_⟩
            refine ⟨_, rfl, _, rfl, row, scr, ns, wh, rfl, hR4, by omega, by omega, fun H5 b b0 b1 x5 hR5 => ?_⟩
            have x45 := x4.trans x5
            have hE5 := x45.keep E _ (nerow hE) (fun _ z => by cases z) hEe
            have hT5 := x45.keep TD _ (nerow hTD0) (fun _ z => by cases z) hTt
            refine ⟨_, rfl, _, rfl, _, _, rfl, rfl, _, rfl, ?_⟩
            by_cases c2 : a < b
            · rw [decide_eq_true c2]
              refine iteT ⟨_, rfl, _, rfl, _, rfl, row, scr, ns, per, rfl, hR5, by omega, by omega, fun H6 p p0 p1' x6 hR6 => ⟨_, rfl, _, rfl, by show 3 ≤ sizeLine; decide, fun kt hkt => ?_⟩⟩
              have x456 := x45.trans x6
              have hE6 := x456.keep E _ (nerow hE) (fun _ z => by cases z) hEe
              have hT6 := x456.keep TD _ (nerow hTD0) (fun _ z => by cases z) hTt
              have hT7 : upd H6 kt (.tup [.int p, .int a, .int b]) TD = some (.dT (dOf ps)) := upd_old hT6 hkt
              obtain ⟨qs, eq, nd', ok', le'⟩ := put_ps (k := [p, a, b]) (v := .bl true) (R := fun p => TchOk per es2 p.1) nd hok ⟨p, a, b, rfl, p0, p1', a0, c2, by omega⟩
              refine ⟨TD, _, rfl, DPut.t (k := kI [p, a, b]) hT7 upd_same (sz_lt (by unfold dOf; rw [List.length_map]; omega)), ?_⟩
              rw [eq]
              have x7 : Xt (At1 row) H (upd (upd H6 kt (.tup [.int p, .int a, .int b])) TD (.dT (dOf qs))) := ((hx.trans x456).trans (Xt.new hkt)).young hTD0
              exact ⟨_, _, _, rfl, x7, hR.yo x7 (hR6.x (Xt.new hkt)) (nerow hTD0), by rw [upd_ne hET]; exact upd_old hE6 hkt, qs, upd_same, nd', ok', by omega⟩
            · rw [decide_eq_false c2]
              refine iteF ⟨_, _, _, rfl, hx.trans x45, hR5, hE5, ps, hT5, nd, hok, by omega⟩
          · obtain ⟨tu, o1, o2, rfl, hx, hRr, hEe, ps, hTt, nd, hok, hle⟩ := hp
            have hps : ps.length < 64 := by omega
            refine ⟨by show 0 ≤ sizeLine; decide, fun G hG => ?_⟩
            have hG0 : H G = none := hRr.back hx hG
            have hEG : E ≠ G := ne_none hEe hG
            have hTG : TD ≠ G := ne_none hTt hG
            refine ⟨_, rfl, E, rfl, ⟨_, SqL.of (upd_old hEe hG)⟩, ?_⟩
            refine for_list (xs := es2.map V.int) (fun i σ H' => ∃ la so, σ = sgLC row per wh mo en (some (.ref E)) (some (.ref TD)) tu (some (.ref G)) la none none o1 o2 so ∧ Xt (At1 row) H H' ∧ RowAt K H' row scr ns ∧ H' E = some (.lst (es2.map V.int)) ∧ H' TD = some (.dT (dOf ps)) ∧ ∃ gs gps, H' G = some (.lst gs) ∧ Rows H' gs gps ∧ gps.length = i ∧ ∀ g ∈ gps, g ≠ [] ∧ g.length ≤ 12 ∧ g.Pairwise (· < ·) ∧ ∀ x ∈ g, 0 ≤ x ∧ x < per) ⟨_, _, rfl, hx.trans (Xt.new hG), hRr.x (Xt.new hG), upd_old hEe hG, upd_old hTt hG, [], [], upd_same, Rows.nil, rfl, fun _ h => nomatch h⟩ (fun i σ H' _ hp => ?_) (fun i x σ H' ex hp => ?_) (fun σ H' hp => ?_)
            · obtain ⟨la, so, rfl, h1, h2, h3, h4⟩ := hp
              exact SqL.of h3
            · obtain ⟨la, so, rfl, hx, hRr, hEe, hTt, gs, gps, hGg, hGr, hGl, hGo⟩ := hp
              have hil : i < es2.length := by have := (List.getElem?_eq_some_iff.mp ex).1; rw [List.length_map] at this; exact this
              refine ⟨_, rfl, per, rfl, by omega, by omega, fun S hS => ?_⟩
              have hS0 : H S = none := hRr.back hx hS
              have hES : E ≠ S := ne_none hEe hS
              have hTS : TD ≠ S := ne_none hTt hS
              have hGS : G ≠ S := ne_none hGg hS
              refine lc_range (n := per.toNat) (fun j H2 => Xt (At1 row) H' H2 ∧ RowAt K H2 row scr ns ∧ ∃ qs : List Int, H2 S = some (.lst (qs.map V.int)) ∧ qs.length ≤ j ∧ qs.Pairwise (· < ·) ∧ ∀ x ∈ qs, 0 ≤ x ∧ x < (j : Int)) ⟨Xt.new hS, hRr.x (Xt.new hS), [], upd_same, Nat.le_refl _, List.Pairwise.nil, fun _ h => nomatch h⟩ (fun j H2 hj hp => ?_) (fun H2 hp => ?_)
              · obtain ⟨hx2, hR2, qs, hSq, hql, hqp, hqb⟩ := hp
                refine ⟨rfl, ⟨_, rfl, row, scr, ns, 3, rfl, hR2, by decide, by decide, fun H3 n n0 n1 x3 hR3 => ⟨_, _, rfl, rfl, _, rfl, ?_⟩⟩⟩
                have hS3 := x3.keep S _ (nerow hS0) (fun _ z => by cases z) hSq
                by_cases c3 : n > 0
                · rw [decide_eq_true c3]
                  have x4 : Xt (At1 row) H' (upd H3 S (.lst (qs.map V.int ++ [.int (0 + (j : Int))]))) := (hx2.trans x3).young hS
                  refine iteT ⟨_, rfl, _, hS3, sz_lt (by rw [List.length_map]; omega), x4, hRr.yo x4 hR3 (nerow hS0), qs ++ [(j : Int)], by rw [upd_same, List.map_append, Int.zero_add]; rfl, by rw [List.length_append]; exact Nat.succ_le_succ hql, ?_, fun y hy => ?_⟩
                  · rw [List.pairwise_append]
                    refine ⟨hqp, List.pairwise_singleton _ _, fun u hu v hv => ?_⟩
                    rw [List.mem_singleton] at hv; subst hv
                    exact (hqb u hu).2
                  · rcases List.mem_append.mp hy with hy | hy
                    · have := hqb y hy; omega
                    · rw [List.mem_singleton] at hy; omega
                · rw [decide_eq_false c3]
                  exact iteF ⟨hx2.trans x3, hR3, qs, hS3, by omega, hqp, fun y hy => by have := hqb y hy; omega⟩
              · obtain ⟨hx2, hR2, qs, hSq, hql, hqp, hqb⟩ := hp
                have hE2 := hx2.keep E _ (nerow hE) (fun _ z => by cases z) hEe
                have hT2 := hx2.keep TD _ (nerow hTD0) (fun _ z => by cases z) hTt
                have hG2 := hx2.keep G _ (nerow hG0) (fun _ z => by cases z) hGg
                have hgl : gs.length = i := hGr.1.trans hGl
                refine ⟨_, rfl, .inl ⟨rfl, _, SqL.of hG2⟩, _, rfl, by show 0 ≤ sizeLine; decide, fun e he => neD_nil (upd_old hSq he) upd_same ⟨_, rfl, ?_⟩⟩
                have fin : ∀ (H5 : Hp) (l : Addr) (g : List Int), Xt (At1 row) H2 H5 → RowAt K H5 row scr ns → H5 l = none → g ≠ [] → g.length ≤ 12 → g.Pairwise (· < ·) → (∀ x ∈ g, 0 ≤ x ∧ x < per) → ∃ H6, H6 = upd H5 l (.tup (g.map V.int)) ∧ H6 G = some (.lst gs) ∧ gs.length < sizeLine ∧ Xt (At1 row) H (upd H6 G (.lst (gs ++ [V.ref l]))) ∧ RowAt K (upd H6 G (.lst (gs ++ [V.ref l]))) row scr ns ∧ upd H6 G (.lst (gs ++ [V.ref l])) E = some (.lst (es2.map V.int)) ∧ upd H6 G (.lst (gs ++ [V.ref l])) TD = some (.dT (dOf ps)) ∧ ∃ gs' gps', upd H6 G (.lst (gs ++ [V.ref l])) G = some (.lst gs') ∧ Rows (upd H6 G (.lst (gs ++ [V.ref l]))) gs' gps' ∧ gps'.length = i + 1 ∧ ∀ g ∈ gps', g ≠ [] ∧ g.length ≤ 12 ∧ g.Pairwise (· < ·) ∧ ∀ x ∈ g, 0 ≤ x ∧ x < per := fun H5 l g x5 hR5 hl g1 g2 g3 g4 => by
                  have hG5 := x5.keep G _ (nerow hG0) (fun _ z => by cases z) hG2
                  have hE5 := x5.keep E _ (nerow hE) (fun _ z => by cases z) hE2
                  have hT5 := x5.keep TD _ (nerow hTD0) (fun _ z => by cases z) hT2
                  have hG6 : upd H5 l (.tup (g.map V.int)) G = some (.lst gs) := upd_old hG5 hl
                  have x6 : Xt (At1 row) H (upd (upd H5 l (.tup (g.map V.int))) G (.lst (gs ++ [V.ref l]))) := (((hx.trans hx2).trans x5).trans (Xt.new hl)).young hG0
                  refine ⟨_, rfl, hG6, sz_lt (by have := es2.length; omega), x6, hR.yo x6 (hR5.x (Xt.new hl)) (nerow hG0), by rw [upd_ne hEG]; exact upd_old hE5 hl, by rw [upd_ne hTG]; exact upd_old hT5 hl, _, gps ++ [g], upd_same, ?_, by rw [List.length_append, hGl]; rfl, fun y hy => ?_⟩
                  · exact ((hGr.mono (hx2.tups)).mono (Tk.lst (Tk.new x5.tups hl) hG6)).snoc (by rw [upd_ne (Ne.symm (ne_none hG5 hl)), upd_same])
                  · rcases List.mem_append.mp hy with hy | hy
                    · exact hGo y hy
                    · rw [List.mem_singleton] at hy; subst hy; exact ⟨g1, g2, g3, g4⟩
                cases hz : qs.isEmpty with
                | false =>
                  refine iteT ⟨_, rfl, S, _, rfl, .inl ⟨SqL.of (upd_old hSq he), fun l hl => ?_⟩⟩
                  obtain ⟨H6, rfl, f1, f2, f3⟩ := fin _ l qs (Xt.new he) (hR2.x (Xt.new he)) hl (fun z => by rw [z] at hz; cases hz) (by omega) hqp (fun y hy => by have := hqb y hy; omega)
                  exact ⟨G, gs, _, rfl, rfl, f1, f2, _, _, rfl, f3⟩
                | true =>
                  refine iteF ⟨_, rfl, _, rfl, row, scr, ns, per, rfl, hR2.x (Xt.new he), by omega, by omega, fun H3 n n0 n1 x3 hR3 => ⟨by show 1 ≤ sizeLine; decide, fun l1 hl1 => ⟨l1, _, rfl, .inl ⟨SqL.of upd_same, fun l hl => ?_⟩⟩⟩⟩
                  obtain ⟨H6, e6, f1, f2, f3⟩ := fin _ l [n] (((Xt.new he).trans x3).trans (Xt.new hl1)) (hR3.x (Xt.new hl1)) hl (by simp) (by show 1 ≤ 12; decide) (List.pairwise_singleton _ _) (fun y hy => by rw [List.mem_singleton] at hy; omega)
                  subst e6
                  exact ⟨G, gs, _, rfl, rfl, f1, f2, _, _, rfl, f3⟩
            · obtain ⟨la, so, rfl, hx, hRr, hEe, hTt, gs, gps, hGg, hGr, hGl, hGo⟩ := hp
              rw [List.length_map] at hGl
              refine fun BD hBD => ?_
              have hBD0 : H BD = none := hRr.back hx hBD
              have hEB : E ≠ BD := ne_none hEe hBD
              have hTB : TD ≠ BD := ne_none hTt hBD
              have hGB : G ≠ BD := ne_none hGg hBD
              refine ⟨_, rfl, _, rfl, _, _, rfl, rfl, row, scr, ns, en + 1, rfl, hRr.x (Xt.new hBD), by omega, by omega, fun H3 nb nb0 nb1 x3 hR3 => ⟨nb, rfl, by omega, by omega, ?_⟩⟩
              refine for_range (n := nb.toNat) (fun i σ H' => ∃ tu o1 o2, σ = sgLC row per wh mo en (some (.ref E)) (some (.ref TD)) tu (some (.ref G)) la (some (.ref BD)) none o1 o2 so ∧ Xt (At1 row) H H' ∧ RowAt K H' row scr ns ∧ H' E = some (.lst (es2.map V.int)) ∧ H' TD = some (.dT (dOf ps)) ∧ H' G = some (.lst gs) ∧ Rows H' gs gps ∧ ∃ bs : List (List Int × V), H' BD = some (.dT (dOf bs)) ∧ (bs.map (·.1)).Nodup ∧ (∀ p ∈ bs, ∃ i a j b : Int, p = ([i, a, j], V.int b) ∧ BokOk es2 [i, a, j, b]) ∧ bs.length ≤ i) ⟨_, _, _, rfl, (hx.trans (Xt.new hBD)).trans x3, hR3, x3.keep E _ (nerow hE) (fun _ z => by cases z) (upd_old hEe hBD), x3.keep TD _ (nerow hTD0) (fun _ z => by cases z) (upd_old hTt hBD), x3.keep G _ (nerow hG0) (fun _ z => by cases z) (upd_old hGg hBD), (hGr.mono (Tk.refl.new hBD)).mono x3.tups, [], x3.keep BD _ (nerow hBD0) (fun _ z => by cases z) upd_same, List.nodup_nil, (fun _ h => nomatch h), Nat.le_refl _⟩ (fun i σ H' hi hp => ?_) (fun σ H' hp => ?_)
              · obtain ⟨tu, o1, o2, rfl, hx, hRr, hEe, hTt, hGg, hGr, bs, hBb, bnd, bok, ble⟩ := hp
                refine ⟨_, rfl, _, rfl, row, scr, ns, wh, rfl, hRr, by omega, by omega, fun H4 a a0 a1 x4 hR4 => ?_⟩
                refine ⟨_, rfl, _, rfl, row, scr, ns, wh, rfl, hR4, by omega, by omega, fun H5 b b0 b1 x5 hR5 => ⟨_, _, rfl, ?_⟩⟩
                have x45 := x4.trans x5
                have hE5 := x45.keep E _ (nerow hE) (fun _ z => by cases z) hEe
                have hT5 := x45.keep TD _ (nerow hTD0) (fun _ z => by cases z) hTt
                have hG5 := x45.keep G _ (nerow hG0) (fun _ z => by cases z) hGg
                have hB5 := x45.keep BD _ (nerow hBD0) (fun _ z => by cases z) hBb
                have hGr5 := hGr.mono x45.tups
                have hla : a.toNat < es2.length := by omega
                have hlb : b.toNat < es2.length := by omega
                obtain ⟨ea, hea⟩ : ∃ z, es2[a.toNat]? = some z := ⟨_, List.getElem?_eq_getElem hla⟩
                obtain ⟨eb, heb⟩ : ∃ z, es2[b.toNat]? = some z := ⟨_, List.getElem?_eq_getElem hlb⟩
                have hva : (es2.map V.int)[a.toNat]? = some (.int ea) := by rw [List.getElem?_map, hea]; rfl
                have hvb : (es2.map V.int)[b.toNat]? = some (.int eb) := by rw [List.getElem?_map, heb]; rfl
                have hoa := he2 ea (List.mem_of_getElem? hea)
                have hob := he2 eb (List.mem_of_getElem? heb)
                refine ⟨_, rfl, _, rfl, rfl, ?_⟩
                rw [deceq]
                refine ⟨_, rfl, ?_⟩
                by_cases c4 : a = b
                · rw [decide_eq_true c4]
                  exact iteF (iteF ⟨_, _, _, rfl, hx.trans x45, hR5, hE5, hT5, hG5, hGr5, bs, hB5, bnd, bok, by omega⟩)
                rw [decide_eq_false c4]
                refine iteT ⟨_, rfl, _, rfl, rixL a.toNat (SqL.of hE5) (by omega) hva ⟨_, _, rfl, rfl, _, rfl, ?_⟩⟩
                by_cases c5 : ea > 0
                rotate_left
                · rw [decide_eq_false c5]
                  exact iteF (iteF ⟨_, _, _, rfl, hx.trans x45, hR5, hE5, hT5, hG5, hGr5, bs, hB5, bnd, bok, by omega⟩)
                rw [decide_eq_true c5]
                refine iteT ⟨_, rfl, _, rfl, rixL b.toNat (SqL.of hE5) (by omega) hvb ⟨_, _, rfl, rfl, _, rfl, ?_⟩⟩
                by_cases c6 : eb > 0
                rotate_left
                · rw [decide_eq_false c6]
                  exact iteF ⟨_, _, _, rfl, hx.trans x45, hR5, hE5, hT5, hG5, hGr5, bs, hB5, bnd, bok, by omega⟩
                rw [decide_eq_true c6]
                refine iteT ⟨_, rfl, _, rfl, _, rfl, rixL b.toNat (SqL.of hE5) (by omega) hvb ⟨row, scr, ns, eb, rfl, hR5, by omega, by omega, fun H6 n n0 n1 x6 hR6 => ⟨_, _, rfl, rfl, ?_⟩⟩⟩
                have hE6 := x6.keep E _ (nerow hE) (fun _ z => by cases z) hE5
                refine ⟨_, rfl, _, rfl, _, rfl, _, rfl, _, rfl, rixL a.toNat (SqL.of hE6) (by omega) hva ⟨row, scr, ns, ea, rfl, hR6, by omega, by omega, fun H7 m m0 m1 x7 hR7 => ⟨_, _, rfl, rfl, _, rfl, by show 3 ≤ sizeLine; decide, fun kt hkt => ?_⟩⟩⟩
                have x47 := (x45.trans x6).trans x7
                have hE7 := x47.keep E _ (nerow hE) (fun _ z => by cases z) hEe
                have hT7 := x47.keep TD _ (nerow hTD0) (fun _ z => by cases z) hTt
                have hG7 := x47.keep G _ (nerow hG0) (fun _ z => by cases z) hGg
                have hB7 := x47.keep BD _ (nerow hBD0) (fun _ z => by cases z) hBb
                have hB8 : upd H7 kt (.tup [.int a, .int (1 + m), .int b]) BD = some (.dT (dOf bs)) := upd_old hB7 hkt
                obtain ⟨qs, eq, nd', ok', le'⟩ := put_ps (k := [a, 1 + m, b]) (v := .int (1 + n)) (R := fun p => ∃ i a j b : Int, p = ([i, a, j], V.int b) ∧ BokOk es2 [i, a, j, b]) bnd bok ⟨a, 1 + m, b, 1 + n, rfl, a, 1 + m, b, 1 + n, rfl, a0, by omega, b0, by omega, c4, by omega, by rw [hea]; show 1 + m ≤ ea; omega, by omega, by rw [heb]; show 1 + n ≤ eb; omega⟩
                refine ⟨BD, _, rfl, DPut.t (k := kI [a, 1 + m, b]) hB8 upd_same (sz_lt (by unfold dOf; rw [List.length_map]; omega)), ?_⟩
                rw [eq]
                have x9 : Xt (At1 row) H (upd (upd H7 kt (.tup [.int a, .int (1 + m), .int b])) BD (.dT (dOf qs))) := ((hx.trans x47).trans (Xt.new hkt)).young hBD0
                exact ⟨_, _, _, rfl, x9, hR.yo x9 (hR7.x (Xt.new hkt)) (nerow hBD0), by rw [upd_ne hEB]; exact upd_old hE7 hkt, by rw [upd_ne hTB]; exact upd_old hT7 hkt, by rw [upd_ne hGB]; exact upd_old hG7 hkt, hGr.mono (Tk.trans x47.tups (tk_dt (Tk.refl.new hkt) hB8)), qs, upd_same, nd', ok', by omega⟩
              · obtain ⟨tu2, o3, o4, rfl, hx, hRr, hEe, hTt, hGg, hGr, bs, hBb, bnd, bok, ble⟩ := hp
                have hbs : bs.length < 64 := by omega
                have bok3 : ∀ k ∈ bs.map (·.1), ∃ b, (k, V.int b) ∈ bs ∧ k.length = 3 ∧ TS.Bd 64 k ∧ BokOk es2 (k ++ [b]) := fun k hk => by
                  obtain ⟨p, hp, rfl⟩ := List.mem_map.mp hk
                  obtain ⟨i, a, j, b, rfl, hB⟩ := bok p hp
                  refine ⟨b, hp, rfl, fun m hm => ?_, hB⟩
                  obtain ⟨i', a', j', b', e, h1, h2, h3, h4, h5, h6, h7, h8, h9⟩ := hB
                  simp only [List.cons.injEq] at e
                  obtain ⟨rfl, rfl, rfl, rfl, _⟩ := e
                  have h7' : a ≤ 4 := by
                    cases z : es2[i.toNat]? with
                    | none => rw [z] at h7; have : a ≤ 0 := h7; omega
                    | some y => rw [z] at h7; have : a ≤ y := h7; have := he2 y (List.mem_of_getElem? z); omega
                  simp only [List.mem_cons, List.not_mem_nil, or_false] at hm
                  rcases hm with rfl | rfl | rfl
                  · exact ⟨by omega, by omega⟩
                  · exact ⟨by omega, by omega⟩
                  · exact ⟨by omega, by omega⟩
                refine ⟨_, rfl, BD, dOf bs, rfl, Rd.of hBb, fun L1 ad hL1 hK => ?_⟩
                have y1 : Xn H' (upd H' L1 (.lst (ad.map V.ref))) := Xt.new hL1
                refine tnil1 (sorted_rows (d := 3) (B := 64) (SqL.of upd_same) (by rw [(keys_rows hK).1, List.length_map]; omega) ((keys_rows hK).x y1) (fun k hk => ⟨(bok3 k hk).choose_spec.2.1, (bok3 k hk).choose_spec.2.2.1⟩) bnd fun ys L2' ks hper hrow hri hL2 => ?_)
                have y2 := y1.trans (Xt.new (o := .lst ys) hL2)
                refine ⟨L2', rfl, ⟨_, SqL.of upd_same⟩, fun D hD => ?_⟩
                have hysl : ys.length = ks.length := hrow.1
                have hksl : ks.length ≤ 13 := by rw [hper.length_eq, List.length_map]; omega
                have mem3 : ∀ k ∈ ks, (k, V.int (bval bs k)) ∈ bs ∧ k.length = 3 ∧ BokOk es2 (k ++ [bval bs k]) := fun k hk => by
                  obtain ⟨b, h1, h2, h3, h4⟩ := bok3 k (hper.mem_iff.mp hk)
                  rw [bval_of bnd h1]
                  exact ⟨h1, h2, h4⟩
                have hB2 := y2.keep BD _ (fun z => z) (fun _ z => by cases z) hBb
                refine lc_list (xs := ys) (fun n H2 => Xn (upd (upd H' L1 (.lst (ad.map V.ref))) L2' (.lst ys)) H2 ∧ ∃ acc, H2 D = some (.lst acc) ∧ Rows H2 acc ((ks.map fun k => k ++ [bval bs k]).take n)) ⟨Xt.new hD, [], upd_same, Rows.nil⟩ (fun n H2 _ hp => SqL.of (hp.1.keep L2' _ (fun z => z) (fun _ z => by cases z) upd_same)) (fun n x H2 ex hp => ?_) (fun H2 hp => ?_)
                · obtain ⟨hx2, acc, hD2, hrw2⟩ := hp
                  obtain ⟨r, k, rfl, e1, e2⟩ := hrow.get ex
                  obtain ⟨m1, m2, m3⟩ := mem3 k (List.mem_of_getElem? e1)
                  have e3 := (hx2.tups) _ _ ((Tk.refl.new hL2) _ _ e2)
                  have hB3 := hx2.keep BD _ (fun z => z) (fun _ z => by cases z) hB2
                  have hn : n < ks.length := (List.getElem?_eq_some_iff.mp e1).1
                  refine ⟨rfl, yes_of ⟨_, rfl, _, rfl, _, rfl, BD, _, rfl, DGet.ps hB3 e3 bnd m1, by show 1 ≤ sizeLine; decide, fun t1 ht1 => ?_⟩⟩
                  refine ⟨r, t1, _, _, rfl, rfl, SqT.of (upd_old e3 ht1), SqT.of upd_same, ?_, ?_, (fun z => nomatch z), fun _ t2 ht2 => ?_⟩
                  · intro z
                    have := congrArg List.length z
                    rw [List.length_map, m2] at this; cases this
                  · rw [List.length_map, m2]; show 4 ≤ sizeLine; decide
                  · have hD4 := upd_old (u := .tup (k.map V.int ++ [V.int (bval bs k)])) (upd_old (u := .tup [V.int (bval bs k)]) hD2 ht1) ht2
                    refine ⟨acc, hD4, sz_lt (by rw [hrw2.1, List.length_take]; omega), ((hx2.trans (Xt.new ht1)).trans (Xt.new ht2)).young hD, _, upd_same, ?_⟩
                    have e5 : (ks.map fun k => k ++ [bval bs k])[n]? = some (k ++ [bval bs k]) := by rw [List.getElem?_map, e1]; rfl
                    rw [take_snocE e5]
                    exact (hrw2.mono (((Tk.refl.new ht1).new ht2).lst hD4)).snoc (by rw [upd_ne (Ne.symm (ne_none (upd_old hD2 ht1) ht2)), upd_same, List.map_append]; rfl)
                · obtain ⟨hx2, acc, hD2, hrw2⟩ := hp
                  rw [hysl, List.take_of_length_le (by rw [List.length_map]; exact Nat.le_refl _)] at hrw2
                  refine ⟨D, acc, rfl, .inl ⟨SqL.of hD2, fun eT heT => ?_⟩⟩
                  have z1 := (y2.trans hx2).trans (Xt.new (o := .tup acc) heT)
                  have hrw3 := hrw2.mono (Tk.refl.new (o := .tup acc) heT)
                  have heT1 : upd H2 eT (.tup acc) eT = some (.tup acc) := upd_same
                  generalize upd H2 eT (.tup acc) = A1 at z1 hrw3 heT1
                  have hEe := z1.keep E _ (fun z => z) (fun _ z => by cases z) hEe
                  have hTt := z1.keep TD _ (fun z => z) (fun _ z => by cases z) hTt
                  have hGg := z1.keep G _ (fun z => z) (fun _ z => by cases z) hGg
                  have hGr := hGr.x z1
                  refine ⟨_, rfl, _, rfl, E, _, rfl, .inl ⟨SqL.of hEe, fun e1 he1 => ?_⟩⟩
                  refine ⟨_, rfl, TD, dOf ps, rfl, Rd.of (upd_old hTt he1), fun L3 ad3 hL3 hK3 => ?_⟩
                  have w1 : Xn A1 (upd (upd A1 e1 (.tup (es2.map V.int))) L3 (.lst (ad3.map V.ref))) := (Xt.new he1).trans (Xt.new hL3)
                  have tch3 : ∀ k ∈ ps.map (·.1), k.length = 3 ∧ TS.Bd 64 k ∧ TchOk per es2 k := fun k hk => by
                    obtain ⟨p, hp, rfl⟩ := List.mem_map.mp hk
                    have hB := hok p hp
                    obtain ⟨a, b, c, e, h1, h2, h3, h4, h5⟩ := id hB
                    rw [e]
                    rw [e] at hB
                    refine ⟨rfl, fun m hm => ?_, hB⟩
                    simp only [List.mem_cons, List.not_mem_nil, or_false] at hm
                    rcases hm with rfl | rfl | rfl
                    · exact ⟨by omega, by omega⟩
                    · exact ⟨by omega, by omega⟩
                    · exact ⟨by omega, by omega⟩
                  refine tnil1 (sorted_rows (d := 3) (B := 64) (SqL.of upd_same) (by rw [(keys_rows hK3).1, List.length_map]; omega) ((keys_rows hK3).x (Xt.new (S := No) hL3)) (fun k hk => ⟨(tch3 k hk).1, (tch3 k hk).2.1⟩) nd fun ys3 L4' ks3 hper3 hrow3 hri3 hL4 => ?_)
                  have w2 := w1.trans (Xt.new (o := .lst ys3) hL4)
                  refine ⟨L4', ys3, rfl, .inl ⟨SqL.of upd_same, fun t1 ht1 => ?_⟩⟩
                  have w3 := w2.trans (Xt.new (o := .tup ys3) ht1)
                  have hr3 := (hrow3.mono (Tk.refl.new (o := .lst ys3) hL4)).mono (Tk.refl.new (o := .tup ys3) ht1)
                  have ht2 : upd (upd (upd (upd A1 e1 (.tup (es2.map V.int))) L3 (.lst (ad3.map V.ref))) L4' (.lst ys3)) t1 (.tup ys3) t1 = some (.tup ys3) := upd_same
                  have he2' : upd (upd (upd (upd A1 e1 (.tup (es2.map V.int))) L3 (.lst (ad3.map V.ref))) L4' (.lst ys3)) t1 (.tup ys3) e1 = some (.tup (es2.map V.int)) := upd_old (upd_old (upd_old upd_same hL3) hL4) ht1
                  generalize upd (upd (upd (upd A1 e1 (.tup (es2.map V.int))) L3 (.lst (ad3.map V.ref))) L4' (.lst ys3)) t1 (.tup ys3) = A2 at w3 hr3 ht2 he2'
                  refine ⟨_, rfl, G, gs, rfl, .inl ⟨SqL.of (w3.keep G _ (fun z => z) (fun _ z => by cases z) hGg), fun g1 hg1 => ?_⟩⟩
                  refine ⟨_, rfl, by show 5 ≤ sizeLine; decide, fun ct hct => ?_⟩
                  have w4 := (w3.trans (Xt.new (o := .tup gs) hg1)).trans (Xt.new (o := .tup [.int per, .ref e1, .ref t1, .ref g1, .ref eT]) hct)
                  have wz := z1.trans w4
                  have tk : Tk A2 (upd (upd A2 g1 (.tup gs)) ct (.tup [.int per, .ref e1, .ref t1, .ref g1, .ref eT])) := (Tk.refl.new hg1).new hct
                  refine q _ _ ⟨per, es2, ks3, gps, ks.map fun k => k ++ [bval bs k]⟩ (hx.trans wz.any) (hRr.x wz) ⟨⟨ct, e1, t1, g1, eT, ys3, gs, acc, rfl, upd_same, tk _ _ he2', tk _ _ ht2, hr3.mono tk, upd_old upd_same hct, hGr.x w4, w4.tups _ _ heT1, hrw3.x w4⟩⟩ ?_ rfl (by show (es2.length : Int) = wh; omega)
                  refine ⟨⟨p1, p2⟩, ⟨by show 1 ≤ es2.length; omega, by show es2.length ≤ 12; omega⟩, he2, by show es2.sum ≤ 24; omega, fun t ht => ?_, hri3, ?_, hGl, fun i e g he hg => ?_, fun t ht => ?_, ?_, ?_⟩
                  · exact (tch3 t (hper3.mem_iff.mp ht)).2.2
                  · show ks3.length ≤ 1000
                    rw [hper3.length_eq, List.length_map]; omega
                  · obtain ⟨g1, g2, g3, g4⟩ := hGo g (List.mem_of_getElem? hg)
                    exact ⟨fun _ => g1, g4, rising_ints g3, by omega⟩
                  · obtain ⟨k, hk, rfl⟩ := List.mem_map.mp ht
                    exact (mem3 k hk).2.2
                  · have e : (ks.map fun k => k ++ [bval bs k]).map (·.take 3) = ks := by
                      rw [List.map_map]
                      refine (List.map_congr_left fun k hk => ?_).trans (List.map_id ks)
                      show (k ++ [bval bs k]).take 3 = k
                      rw [List.take_append_of_le_length (by rw [(mem3 k hk).2.1]; exact Nat.le_refl _), List.take_of_length_le (by rw [(mem3 k hk).2.1]; exact Nat.le_refl _)]
                    show rising ((ks.map fun k => k ++ [bval bs k]).map (·.take 3)) = true
                    rw [e]; exact hri
                  · show (ks.map fun k => k ++ [bval bs k]).length ≤ 1000
                    rw [List.length_map]; omega
      · rintro σ H Q Q' hq h
        obtain ⟨x, e1, a, es, e2, hs, i, j, e3, e4, k, e5, h⟩ := h
        exact ⟨x, e1, a, es, e2, hs, i, j, e3, e4, k, e5, hq _ _ h⟩
theorem ok_law_low_clock (T : Txt mg) (C_law_taken : Callee P w K mg base "_law_taken" 1 ["row", "many"] (sb_taken K)) (F : FunC K "_law_low_clock" s_law_low_clock f fd c) : FnOk P w K mg base CX0 2 f fd ["row", "period", "wheels", "most", "entries"] (sp_low_clock K) :=
  (ok_law_low_clockX T C_law_taken F).imp fun vs H Q E h => by
    obtain ⟨row, scr, ns, per, wh, mo, en, rfl, h1, h2, h3, h4, h5, h6, h7, h8, h9, q⟩ := h
    exact ⟨row, scr, ns, per, wh, mo, en, rfl, h1, h2, h3, h4, h5, h6, h7, h8, h9, fun H2 v k a b c d _ _ => q H2 v k a b c d⟩

end K02
-- K02_d7
namespace K02
open PySem PySem.Spec PyProof.Rows L2 LC
variable [Tbl]
variable {P : Program} {w : World} {K : PySem.W.Frag} {mg : Str → Option Value} {base : Heap} {f c : Addr} {fd : FuncData} {Ts : List Addr} {TP : Addr}


end K02
-- K02_d7p
namespace K02
open PySem PySem.Spec PyProof.Rows L2 LC
variable [Tbl]
variable {P : Program} {w : World} {K : PySem.W.Frag} {mg : Str → Option Value} {base : Heap} {f c : Addr} {fd : FuncData} {Ts : List Addr} {TP : Addr}

def sp_law_pick (K : PySem.W.Frag) : Sp := fun vs H Q _ => ∃ (row scr th : Addr) (ns : List Int) (xs : List V), vs = [.ref row, .ref th] ∧ RowAt K H row scr ns ∧ H th = some (.lst xs) ∧ th ≠ row ∧ 1 ≤ xs.length ∧ xs.length ≤ 1000 ∧ ∀ (H' : Hp) (i : Nat) (v : V), xs[i]? = some v → Xt (At1 row) H H' → RowAt K H' row scr ns → Q v H'
theorem ok_law_pick (T : Txt mg) (C_law_taken : Callee P w K mg base "_law_taken" 1 ["row", "many"] (sb_taken K)) (F : FunC K "_law_pick" s_law_pick f fd c) : FnOk P w K mg base CX0 2 f fd ["row", "things"] (sp_law_pick K) := by
  refine F.ok sc_law_pick (fun vs H Q E h => ?_) (fun A outer s H vs Q E hr h => ⟨_, (pss_one (ps_ret (pe_ix (ixK (K := K) rIxL ix_list rfl) (pv 1) (pe_callC C_law_taken hr (by rfl) (pa_cons (pv 0) (pa_cons (pe_callB (crK (K := K) rLenQ cr_len rfl) (by rfl) T.g_len (by decide +kernel) (pa_cons (pv 1) pa_nil)) pa_nil))) (fun _ _ => rfl)))), ?_⟩)
  · obtain ⟨row, scr, th, ns, xs, rfl, _⟩ := h; rfl
  · obtain ⟨row, scr, th, ns, xs, rfl, hR, ht, hne, h1, h2, q⟩ := h
    refine ⟨_, rfl, _, rfl, _, rfl, th, xs, rfl, .inl (SqL.of ht), row, scr, ns, (xs.length : Int), rfl, hR, by omega, by omega, fun H1 n n0 n1 x1 hR1 => ?_⟩
    have ht1 := x1.keep th _ hne (fun _ z => by cases z) ht
    have hv : xs[n.toNat]? = some (xs[n.toNat]'(by omega)) := List.getElem?_eq_getElem _
    exact rixL n.toNat (SqL.of ht1) (by omega) hv (q _ _ _ hv x1 hR1)

end K02
-- K02_u2
namespace K02
open PySem PySem.Spec PyProof.Rows L2 LC
variable [Tbl]
variable {P : Program} {w : World} {K : PySem.W.Frag} {mg : Str → Option Value} {base : Heap} {f c : Addr} {fd : FuncData} {Ts : List Addr} {TP PL : Addr} {ad : Str → Addr}

def BadRg : LX.BadP := fun H vs e fv => ∃ v u, vs = [v, u] ∧ BadClk H [v] e fv
def BadTo : LX.BadP := fun H vs e fv => ∃ v t, vs = [v, t] ∧ (BadClk H [v] e fv ∨ ∃ k, ClkAt H v k ∧ k.Ok ∧ BadTk H t 0 ∧ e = "BadTick" ∧ fv = none)
def BadNd : LX.BadP := fun H vs e fv => ∃ v x y o, vs = [v, x, y, o] ∧ (BadClk H [v] e fv ∨ ∃ k, ClkAt H v k ∧ k.Ok ∧ ((LX.Shp H x ∧ btw x 0 ((k.eds.length : Int) - 1) = false ∧ e = "BadWheel" ∧ fv = none) ∨ ∃ i : Int, x = .int i ∧ 0 ≤ i ∧ i < k.eds.length ∧
  ((LX.Shp H y ∧ btw y 0 (k.eds[i.toNat]?.getD 0) = false ∧ e = "BadEdition" ∧ fv = none) ∨ ∃ a : Int, y = .int a ∧ 0 ≤ a ∧ a ≤ k.eds[i.toNat]?.getD 0 ∧
    ((LX.Shp H o ∧ btw o 0 ((k.eds.length : Int) - 1) = false ∧ e = "BadWheel" ∧ fv = none) ∨ (o = .int i ∧ e = "BadWheel" ∧ fv = none)))))
section
variable {H H1 : Hp} {vs : List V} {e : Str} {fv : Option (Str × V)}
theorem BadRg.x (h : BadRg H vs e fv) (x : Xt (LX.SC H) H H1) : BadRg H1 vs e fv := by
  obtain ⟨v, u, h1, h2⟩ := h
  exact ⟨v, u, h1, h2.x x⟩
theorem BadTo.x (h : BadTo H vs e fv) (x : Xt (LX.SC H) H H1) : BadTo H1 vs e fv := by
  obtain ⟨v, t, h1, h2 | ⟨k, h2, h3, h4, h5⟩⟩ := h
  · exact ⟨v, t, h1, .inl (h2.x x)⟩
  · exact ⟨v, t, h1, .inr ⟨k, h2.x x, h3, h4.x x, h5⟩⟩
theorem BadNd.x (h : BadNd H vs e fv) (z : Xt (LX.SC H) H H1) : BadNd H1 vs e fv := by
  obtain ⟨v, x, y, o, h1, h2 | ⟨k, h2, h3, ⟨h4, h5⟩ | ⟨i, h4, h5, h6, ⟨h7, h8⟩ | ⟨a, h7, h8, h9, ⟨ha, hb⟩ | hb⟩⟩⟩⟩ := h
  · exact ⟨v, x, y, o, h1, .inl (h2.x z)⟩
  · exact ⟨v, x, y, o, h1, .inr ⟨k, h2.x z, h3, .inl ⟨h4.x z, h5⟩⟩⟩
  · exact ⟨v, x, y, o, h1, .inr ⟨k, h2.x z, h3, .inr ⟨i, h4, h5, h6, .inl ⟨h7.x z, h8⟩⟩⟩⟩
  · exact ⟨v, x, y, o, h1, .inr ⟨k, h2.x z, h3, .inr ⟨i, h4, h5, h6, .inr ⟨a, h7, h8, h9, .inl ⟨ha.x z, hb⟩⟩⟩⟩⟩
  · exact ⟨v, x, y, o, h1, .inr ⟨k, h2.x z, h3, .inr ⟨i, h4, h5, h6, .inr ⟨a, h7, h8, h9, .inr hb⟩⟩⟩⟩
end


theorem ok_exchanges_r (T : Txt mg) (R_check_clock : LX.CalleeR P w K mg base "check_clock" 8 ["clock"] (sp_check_clock_r Ts ad)) (F : FunC K "exchanges" s_exchanges f fd c) : FnOk P w K mg base (L2.CX P w) 9 f fd ["clock"] (spT Ts ad BadClk) := by
  refine LX.okR F sc_exchanges (fun vs H Q E h => ?_) (fun A outer s H vs Q E hr h => ⟨_, (LX.pss_stop (ps_expr (LX.pe_callR (takes_of rfl rfl rfl rfl) R_check_clock hr (by rfl) (pa_cons (pv 0) pa_nil)))), ?_⟩)
  · obtain ⟨_, _, _, ⟨v, z, rfl, _⟩, _⟩ := h; rfl
  · obtain ⟨hTs, e, fv, ⟨v, z, rfl, hv⟩, q⟩ := h
    exact ⟨_, rfl, .inr ⟨hTs, e, fv, ⟨v, z, rfl, hv⟩, q⟩⟩


theorem ok_earliest_r (T : Txt mg) (R_check_clock : LX.CalleeR P w K mg base "check_clock" 8 ["clock"] (sp_check_clock_r Ts ad)) (F : FunC K "earliest" s_earliest f fd c) : FnOk P w K mg base (L2.CX P w) 9 f fd ["clock"] (spT Ts ad BadClk) := by
  refine LX.okR F sc_earliest (fun vs H Q E h => ?_) (fun A outer s H vs Q E hr h => ⟨_, (LX.pss_stop (ps_expr (LX.pe_callR (takes_of rfl rfl rfl rfl) R_check_clock hr (by rfl) (pa_cons (pv 0) pa_nil)))), ?_⟩)
  · obtain ⟨_, _, _, ⟨v, z, rfl, _⟩, _⟩ := h; rfl
  · obtain ⟨hTs, e, fv, ⟨v, z, rfl, hv⟩, q⟩ := h
    exact ⟨_, rfl, .inr ⟨hTs, e, fv, ⟨v, z, rfl, hv⟩, q⟩⟩


theorem ok_ring_r (T : Txt mg) (R_earliest : LX.CalleeR P w K mg base "earliest" 9 ["clock"] (spT Ts ad BadClk)) (F : FunC K "ring" s_ring f fd c) : FnOk P w K mg base (L2.CX P w) 10 f fd ["clock"] (spT Ts ad BadClk) := by
  refine LX.okR F sc_ring (fun vs H Q E h => ?_) (fun A outer s H vs Q E hr h => ⟨_, (LX.pss_stop (ps_if (pt_cmpR op_notN (LX.pe_callR (takes_of rfl rfl rfl rfl) R_earliest hr (by rfl) (pa_cons (pv 0) pa_nil)) pe_non (nomark _)) (pss_one (ps_ret pe_non)) pss_nil)), ?_⟩)
  · obtain ⟨_, _, _, ⟨v, z, rfl, _⟩, _⟩ := h; rfl
  · obtain ⟨hTs, e, fv, ⟨v, z, rfl, hv⟩, q⟩ := h
    exact ⟨_, rfl, hTs, e, fv, ⟨v, z, rfl, hv⟩, q⟩

theorem ok_is_ring_r (T : Txt mg) (R_check_clock : LX.CalleeR P w K mg base "check_clock" 8 ["clock"] (sp_check_clock_r Ts ad)) (F : FunC K "is_ring" s_is_ring f fd c) : FnOk P w K mg base (L2.CX P w) 9 f fd ["clock", "value"] (spT Ts ad BadRg) := by
  refine LX.okR F sc_is_ring (fun vs H Q E h => ?_) (fun A outer s H vs Q E hr h => ⟨_, (LX.pss_stop (ps_expr (LX.pe_callR (takes_of rfl rfl rfl rfl) R_check_clock hr (by rfl) (pa_cons (pv 0) pa_nil)))), ?_⟩)
  · obtain ⟨_, _, _, ⟨v, z, rfl, _⟩, _⟩ := h; rfl
  · obtain ⟨hTs, e, fv, ⟨v, u, rfl, hv⟩, q⟩ := h
    exact ⟨_, rfl, .inr ⟨hTs, e, fv, hv, q⟩⟩

theorem ok_touching_r (T : Txt mg) (R_check_clock : LX.CalleeR P w K mg base "check_clock" 8 ["clock"] (sp_check_clock_r Ts ad)) (R_check_tick : LX.CalleeR P w K mg base "check_tick" 3 ["tick", "least"] (sp_check_tick_r ad)) (F : FunC K "touching" s_touching f fd c) : FnOk P w K mg base (L2.CX P w) 9 f fd ["clock", "tick"] (spT Ts ad BadTo) := by
  refine LX.okR F sc_touching (fun vs H Q E h => ?_) (fun A outer s H vs Q E hr h => ⟨_, (pss_cons (ps_expr (LX.pe_callR (takes_of rfl rfl rfl rfl) R_check_clock hr (by rfl) (pa_cons (pv 0) pa_nil)))
    (LX.pss_stop (ps_expr (LX.pe_callR (takes_of rfl rfl rfl rfl) R_check_tick hr (by rfl) (pa_cons (pv 1) (pa_cons pe_int pa_nil)))))), ?_⟩)
  · obtain ⟨_, _, _, ⟨v, z, rfl, _⟩, _⟩ := h; rfl
  · obtain ⟨hTs, e, fv, ⟨v, t, rfl, hv | ⟨k, hC, ok, hb, rfl, rfl⟩⟩, q⟩ := h
    · exact ⟨_, rfl, .inr ⟨hTs, e, fv, hv, q⟩⟩
    · refine ⟨_, rfl, .inl ⟨v, k, rfl, hC, ok, hTs, fun H1 x1 => ?_⟩⟩
      exact ⟨_, rfl, t, _, rfl, .inr ⟨hb.x x1.any, q _ _ _ x1 ⟨rfl, rfl⟩⟩⟩

theorem ok_needed_r (T : Txt mg) (TE : LX.ErrT K mg ad askedL plainL) (R_check_clock : LX.CalleeR P w K mg base "check_clock" 8 ["clock"] (sp_check_clock_r Ts ad)) (R_check_wheel : LX.CalleeR P w K mg base "check_wheel" 3 ["clock", "wheel"] (sp_check_wheel_r ad)) (C_is_between : Callee P w K mg base "is_between" 2 ["value", "low", "high"] (se_between K)) (F : FunC K "needed" s_needed f fd c) : FnOk P w K mg base (L2.CX P w) 9 f fd ["clock", "wheel", "edition", "other"] (spT Ts ad BadNd) := by
  refine LX.okR F sc_needed (fun vs H Q E h => ?_) (fun A outer s H vs Q E hr h => ⟨_, (pss_cons (ps_expr (LX.pe_callR (takes_of rfl rfl rfl rfl) R_check_clock hr (by rfl) (pa_cons (pv 0) pa_nil)))
    (pss_cons (ps_expr (LX.pe_callR (takes_of rfl rfl rfl rfl) R_check_wheel hr (by rfl) (pa_cons (pv 0) (pa_cons (pv 1) pa_nil))))
    (pss_cons (ps_if (pt_not (pt_val (pe_callC C_is_between hr (by rfl) (pa_cons (pv 2) (pa_cons pe_int (pa_cons (pe_ix (ixK (K := K) rIxT ix_tup rfl) (pe_ix (ixK (K := K) rIxT ix_tup rfl) (pv 0) pe_int (fun _ _ => rfl)) (pv 1) (fun _ _ => rfl)) pa_nil)))))) (pss_one (LX.ps_raiseT rfl (takes_of rfl rfl rfl rfl) TE (x := "BadEdition") (by decide) rfl)) pss_nil)
    (pss_cons (ps_expr (LX.pe_callR (takes_of rfl rfl rfl rfl) R_check_wheel hr (by rfl) (pa_cons (pv 0) (pa_cons (pv 3) pa_nil))))
    (LX.pss_stop (ps_if (pt_cmpR op_eq (pv 1) (pv 3) (nomark _)) (pss_one (LX.ps_raiseT rfl (takes_of rfl rfl rfl rfl) TE (x := "BadWheel") (by decide) rfl)) pss_nil)))))), ?_⟩)
  · obtain ⟨_, _, _, ⟨v, x, y, o, rfl, _⟩, _⟩ := h; rfl
  · obtain ⟨hTs, e, fv, ⟨v, x, y, o, rfl, hv | ⟨k, hC, ok, hb⟩⟩, q⟩ := h
    · exact ⟨_, rfl, .inr ⟨hTs, e, fv, hv, q⟩⟩
    · refine ⟨_, rfl, .inl ⟨v, k, rfl, hC, ok, hTs, fun H1 x1 => ?_⟩⟩
      rcases hb with ⟨hs, hb, rfl, rfl⟩ | ⟨i, rfl, i0, i1, hb⟩
      · exact ⟨_, rfl, _, rfl, v, x, k, rfl, hC.x x1, .inr ⟨hs.x x1.any, hb, q _ _ _ x1 ⟨rfl, rfl⟩⟩⟩
      refine ⟨_, rfl, _, rfl, v, _, k, rfl, hC.x x1, .inl ⟨i, rfl, i0, i1, ?_⟩⟩
      have hC1 := hC.x x1
      obtain ⟨⟨a, e', t, g, b, rt, rg, rb, rfl, h1, h2, h3, h4, h5, h6, h7, h8⟩⟩ := id hC1
      have ei : k.eds[i.toNat]? = some (k.eds[i.toNat]?.getD 0) := by rw [List.getElem?_eq_getElem (by omega : i.toNat < k.eds.length)]; rfl
      refine ⟨_, rfl, _, rfl, rixV 1 h1 rfl rfl ⟨_, rfl, rixI i.toNat h2 (by omega) ei ?_⟩⟩
      rcases hb with ⟨hs, hb, rfl, rfl⟩ | ⟨a', rfl, a0, a1, hb⟩
      · exact ⟨y, 0, _, false, rfl, (hs.x x1.any).kd, hb, false, rfl, iteT (q _ _ _ x1 ⟨rfl, rfl⟩)⟩
      refine ⟨_, 0, _, true, rfl, kd_int, btw_int a0 a1, true, rfl, iteF ?_⟩
      rcases hb with ⟨hs, hb, rfl, rfl⟩ | ⟨rfl, rfl, rfl⟩
      · exact ⟨_, rfl, _, rfl, _, o, k, rfl, hC1, .inr ⟨hs.x x1.any, hb, q _ _ _ x1 ⟨rfl, rfl⟩⟩⟩
      refine ⟨_, rfl, _, rfl, _, _, k, rfl, hC1, .inl ⟨i, rfl, i0, i1, ?_⟩⟩
      refine ⟨_, rfl, _, rfl, rfl, ?_⟩
      rw [decide_eq_true (rfl : V.int i = V.int i)]
      exact ⟨_, rfl, iteT (q _ _ _ x1 ⟨rfl, rfl⟩)⟩

/-! ### what the calls of this law are refused for -/
def wT (Ts : List Addr) (B : LX.BadP) : LX.BadP := fun H vs e fv => Tabs Ts H ∧ B H vs e fv

theorem rf_exchanges (R_exchanges : LX.CalleeR P w K mg base "exchanges" 9 ["clock"] (spT Ts ad BadClk)) {H : Hp} {fa : Addr} {a : V} {e : Str} {fv : Option (Str × V)} (L : ∃ cl c, LX.LamAt H fa (LX.lamF q_works lam0 cl c) (LX.lamBody lam0) ["one"] [a]) (hT : Tabs Ts H) (hB : BadClk H [a] e fv) : LX.Refuses P w K mg base ad 11 fa H e fv := by
  obtain ⟨cl, c, L⟩ := L
  exact LX.refuses_of (k := 10) (B := wT Ts BadClk) (F := LX.lamF q_works lam0 cl c) (e := LX.lamBody lam0) scL0 (bdL0 _ _ _) (fun h x => ⟨h.1.x x, h.2.x x⟩) L ⟨hT, hB⟩ fun A outer s H0 E hr => ⟨_, LX.pe_callR (takes_of rfl rfl rfl rfl) R_exchanges hr (by rfl) (pa_cons (pv 0) pa_nil), fun Q ⟨e, fv, ⟨h1, h2⟩, q⟩ => ⟨_, rfl, h1, e, fv, h2, q⟩⟩

theorem rf_earliest (R_earliest : LX.CalleeR P w K mg base "earliest" 9 ["clock"] (spT Ts ad BadClk)) {H : Hp} {fa : Addr} {a : V} {e : Str} {fv : Option (Str × V)} (L : ∃ cl c, LX.LamAt H fa (LX.lamF q_works lam1 cl c) (LX.lamBody lam1) ["one"] [a]) (hT : Tabs Ts H) (hB : BadClk H [a] e fv) : LX.Refuses P w K mg base ad 11 fa H e fv := by
  obtain ⟨cl, c, L⟩ := L
  exact LX.refuses_of (k := 10) (B := wT Ts BadClk) (F := LX.lamF q_works lam1 cl c) (e := LX.lamBody lam1) scL1 (bdL1 _ _ _) (fun h x => ⟨h.1.x x, h.2.x x⟩) L ⟨hT, hB⟩ fun A outer s H0 E hr => ⟨_, LX.pe_callR (takes_of rfl rfl rfl rfl) R_earliest hr (by rfl) (pa_cons (pv 0) pa_nil), fun Q ⟨e, fv, ⟨h1, h2⟩, q⟩ => ⟨_, rfl, h1, e, fv, h2, q⟩⟩

theorem rf_ring (R_ring : LX.CalleeR P w K mg base "ring" 10 ["clock"] (spT Ts ad BadClk)) {H : Hp} {fa : Addr} {a : V} {e : Str} {fv : Option (Str × V)} (L : ∃ cl c, LX.LamAt H fa (LX.lamF q_works lam2 cl c) (LX.lamBody lam2) ["one"] [a]) (hT : Tabs Ts H) (hB : BadClk H [a] e fv) : LX.Refuses P w K mg base ad 11 fa H e fv := by
  obtain ⟨cl, c, L⟩ := L
  exact LX.refuses_of (k := 10) (B := wT Ts BadClk) (F := LX.lamF q_works lam2 cl c) (e := LX.lamBody lam2) scL2 (bdL2 _ _ _) (fun h x => ⟨h.1.x x, h.2.x x⟩) L ⟨hT, hB⟩ fun A outer s H0 E hr => ⟨_, LX.pe_callR (takes_of rfl rfl rfl rfl) R_ring hr (by rfl) (pa_cons (pv 0) pa_nil), fun Q ⟨e, fv, ⟨h1, h2⟩, q⟩ => ⟨_, rfl, h1, e, fv, h2, q⟩⟩

theorem rf_is_ring (R_is_ring : LX.CalleeR P w K mg base "is_ring" 9 ["clock", "value"] (spT Ts ad BadRg)) {H : Hp} {fa : Addr} {a : V} {e : Str} {fv : Option (Str × V)} (L : ∃ cl c, LX.LamAt H fa (LX.lamF q_works lam3 cl c) (LX.lamBody lam3) ["one"] [a]) (hT : Tabs Ts H) (hB : BadRg H [a, .non] e fv) : LX.Refuses P w K mg base ad 11 fa H e fv := by
  obtain ⟨cl, c, L⟩ := L
  exact LX.refuses_of (k := 10) (vs := [a]) (B := fun H vs e fv => wT Ts BadRg H (vs ++ [.non]) e fv) (F := LX.lamF q_works lam3 cl c) (e := LX.lamBody lam3) scL3 (bdL3 _ _ _) (fun h x => ⟨h.1.x x, h.2.x x⟩) L ⟨hT, hB⟩ fun A outer s H0 E hr => ⟨_, LX.pe_callR (takes_of rfl rfl rfl rfl) R_is_ring hr (by rfl) (pa_cons (pv 0) (pa_cons pe_non pa_nil)), fun Q ⟨e, fv, ⟨h1, h2⟩, q⟩ => ⟨_, rfl, h1, e, fv, h2, q⟩⟩

theorem rf_touching (R_touching : LX.CalleeR P w K mg base "touching" 9 ["clock", "tick"] (spT Ts ad BadTo)) {H : Hp} {fa : Addr} {a b : V} {e : Str} {fv : Option (Str × V)} (L : ∃ cl c, LX.LamAt H fa (LX.lamF q_works lam4 cl c) (LX.lamBody lam4) ["one", "other"] [a, b]) (hT : Tabs Ts H) (hB : BadTo H [a, b] e fv) : LX.Refuses P w K mg base ad 11 fa H e fv := by
  obtain ⟨cl, c, L⟩ := L
  exact LX.refuses_of (k := 10) (B := wT Ts BadTo) (F := LX.lamF q_works lam4 cl c) (e := LX.lamBody lam4) scL4 (bdL4 _ _ _) (fun h x => ⟨h.1.x x, h.2.x x⟩) L ⟨hT, hB⟩ fun A outer s H0 E hr => ⟨_, LX.pe_callR (takes_of rfl rfl rfl rfl) R_touching hr (by rfl) (pa_cons (pv 0) (pa_cons (pv 1) pa_nil)), fun Q ⟨e, fv, ⟨h1, h2⟩, q⟩ => ⟨_, rfl, _, rfl, h1, e, fv, h2, q⟩⟩

theorem rf_needed (R_needed : LX.CalleeR P w K mg base "needed" 9 ["clock", "wheel", "edition", "other"] (spT Ts ad BadNd)) {H : Hp} {fa : Addr} {a b d t : V} {e : Str} {fv : Option (Str × V)} (L : ∃ cl c, LX.LamAt H fa (LX.lamF q_works lam5 cl c) (LX.lamBody lam5) ["one", "other", "third", "fourth"] [a, b, d, t]) (hT : Tabs Ts H) (hB : BadNd H [a, b, d, t] e fv) : LX.Refuses P w K mg base ad 11 fa H e fv := by
  obtain ⟨cl, c, L⟩ := L
  exact LX.refuses_of (k := 10) (B := wT Ts BadNd) (F := LX.lamF q_works lam5 cl c) (e := LX.lamBody lam5) scL5 (bdL5 _ _ _) (fun h x => ⟨h.1.x x, h.2.x x⟩) L ⟨hT, hB⟩ fun A outer s H0 E hr => ⟨_, LX.pe_callR (takes_of rfl rfl rfl rfl) R_needed hr (by rfl) (pa_cons (pv 0) (pa_cons (pv 1) (pa_cons (pv 2) (pa_cons (pv 3) pa_nil)))), fun Q ⟨e, fv, ⟨h1, h2⟩, q⟩ => ⟨_, rfl, _, rfl, _, rfl, _, rfl, h1, e, fv, h2, q⟩⟩


end K02
-- K02_u3
namespace K02
open PySem PySem.Spec PyProof.Rows L2 LC
variable [Tbl]
variable {P : Program} {w : World} {K : PySem.W.Frag} {mg : Str → Option Value} {base : Heap} {f c : Addr} {fd : FuncData} {Ts : List Addr} {TP PL : Addr} {ad : Str → Addr}
theorem notTup_of {H : Hp} {a : Addr} {xs : List V} {n : Nat} (h : H a = some (.tup xs)) (hn : xs.length ≠ n) : NotTup H (.ref a) n := ⟨.tup h, fun ys e => by rw [tupOf_ref h] at e; cases e; exact hn⟩
theorem notTup_lst {H : Hp} {a : Addr} {xs : List V} {n : Nat} (h : H a = some (.lst xs)) : NotTup H (.ref a) n := ⟨.lst h, fun ys e => by rw [LX.tupOf_else h (fun _ z => by cases z)] at e; cases e⟩
theorem notTup_dT {H : Hp} {a : Addr} {xs : List (List Key × V)} {n : Nat} (h : H a = some (.dT xs)) : NotTup H (.ref a) n := ⟨.dT h, fun ys e => by rw [LX.tupOf_else h (fun _ z => by cases z)] at e; cases e⟩
theorem noTup_lst {H : Hp} {a : Addr} {xs : List V} (h : H a = some (.lst xs)) : NoTup H (.ref a) := ⟨.lst h, LX.tupOf_else h (fun _ z => by cases z)⟩
theorem noTup_dT {H : Hp} {a : Addr} {xs : List (List Key × V)} (h : H a = some (.dT xs)) : NoTup H (.ref a) := ⟨.dT h, LX.tupOf_else h (fun _ z => by cases z)⟩
theorem shp_ints {H : Hp} {ns : List Int} : ∀ x ∈ ns.map V.int, LX.Shp H x := fun x h => by
  obtain ⟨n, _, rfl⟩ := List.mem_map.mp h
  exact .int n
theorem rows_drop {H : Hp} {rs : List V} {xss : List (List Int)} (h : Rows H rs xss) (n : Nat) : Rows H (rs.drop n) (xss.drop n) := ⟨by rw [List.length_drop, List.length_drop, h.1], fun i ns e => by
  rw [List.getElem?_drop] at e ⊢
  exact h.2 _ _ e⟩
abbrev S3 (row PL lo : Addr) : Addr → Prop := fun a => a = row ∨ a = PL ∨ a = lo
theorem nS_of {q : Str} {scr row lo a : Addr} {ns : List Int} {H : Hp} (s : LX.Sta K Ts PL q H row scr ns) (h : H a = none) (n : a ≠ lo) : ¬ S3 row PL lo a := by
  rintro (z | z | z)
  · obtain ⟨_, _, _, e, _⟩ := s.r.ex; rw [z, e] at h; cases h
  · obtain ⟨_, e, _⟩ := s.l; rw [z, e] at h; cases h
  · exact n z
abbrev S4 (row PL lo l : Addr) : Addr → Prop := fun a => S3 row PL lo a ∨ a = l
def Far (S : Addr → Prop) (B : Hp → V → Prop) (H : Hp) (v : V) : Prop := ∀ H1, Xt S H H1 → B H1 v
theorem Far.x {S : Addr → Prop} {B : Hp → V → Prop} {H H1 : Hp} {v : V} (h : Far S B H v) (x : Xt S H H1) : Far S B H1 v := fun H2 y => h H2 (x.trans y)
/-- the things of the i-th lot are no such part of this clock -/
def PB (k : Clk) (i : Nat) (H : Hp) (v : V) : Prop := match i with
  | 0 => LX.Shp H v ∧ btw v 1 12 = false
  | 1 => BadEd H v
  | 2 => BadTs H k.per k.eds v
  | 3 => BadGs H k.per k.eds v
  | _ => BadBk H k.eds v
structure Lot (S : Addr → Prop) (k : Clk) (i : Nat) (H : Hp) (l : Addr) : Prop where
  ex : ∃ xs, H l = some (.lst xs) ∧ 1 ≤ xs.length ∧ xs.length ≤ 1000 ∧ ∀ v ∈ xs, Far S (PB k i) H v
  nS : ¬ S l
theorem Lot.x {S : Addr → Prop} {k : Clk} {i : Nat} {H H1 : Hp} {l : Addr} (h : Lot S k i H l) (x : Xt S H H1) : Lot S k i H1 l := by
  obtain ⟨⟨xs, e, l1, l2, hf⟩, nS⟩ := h
  exact ⟨⟨xs, x.keep l _ nS (fun _ z => by cases z) e, l1, l2, fun v hv => (hf v hv).x x⟩, nS⟩
/-- what an error says of a clock's part -/
structure CW (z : Str) : Prop where
  s6 : SeqAt.shaped (LC.D.lst (List.replicate 6 (LC.D.tup [.str "clock", .str z]))).py = true
  e6 : PyData.eqv (LC.D.lst (List.replicate 6 (LC.D.tup [.str "clock", .str z]))).py (LC.D.lst (List.replicate 6 (LC.D.tup [.str "clock", .str z]))).py = true
theorem cw {z : Str} (hz : PyData.strOk z = true) : CW z := by
  have e1 : PyData.eqv (LC.D.tup [.str "clock", .str z]).py (LC.D.tup [.str "clock", .str z]).py = true := by
    show ((("clock" : Str) == ("clock" : Str)) && ((z == z) && true)) = true
    rw [beq_self_eq_true, beq_self_eq_true]; rfl
  refine ⟨?_, ?_⟩
  · simp [SeqAt.shaped, LC.D.py, LC.D.pys, PyData.canLay0, PyData.canLayAll0, PyData.depth, PyData.depthAll, List.replicate]; exact ⟨by decide +kernel, hz⟩
  · show (PyData.eqv _ _ && (PyData.eqv _ _ && (PyData.eqv _ _ && (PyData.eqv _ _ && (PyData.eqv _ _ && (PyData.eqv _ _ && true)))))) = true
    simp only [e1, Bool.and_self, Bool.and_true]

def sp_law (K : PySem.W.Frag) (Ts : List Addr) (PL : Addr) : Sp := fun vs H Q _ => ∃ (scr : Addr) (ns : List Int), vs = [.ref scr] ∧ SqL K H scr (ns.map V.int) ∧ Tabs Ts H ∧ LamX.TabS H PL q_works ∧ ∀ H', Q (.bl true) H'
set_option maxHeartbeats 40000000 in
theorem ok_law (T : Txt mg) (nPL : PL ∉ Tbl.ts) (C_law_taken : Callee P w K mg base "_law_taken" 1 ["row", "many"] (sb_taken K)) (C_law_low_clock : Callee P w K mg base "_law_low_clock" 2 ["row", "period", "wheels", "most", "entries"] (sp_low_clockX K)) (C_law_pick : Callee P w K mg base "_law_pick" 2 ["row", "things"] (sp_law_pick K)) (C_law_refused : Callee P w K mg base "_law_refused" 12 ["work"] (sp_law_refused P w K mg base ad 11)) (C_law_works : Callee P w K mg base "_law_works" 1 ["one", "other", "third", "fourth"] (sp_law_works PL))
    (R_exchanges : LX.CalleeR P w K mg base "exchanges" 9 ["clock"] (spT Ts ad BadClk)) (R_earliest : LX.CalleeR P w K mg base "earliest" 9 ["clock"] (spT Ts ad BadClk)) (R_ring : LX.CalleeR P w K mg base "ring" 10 ["clock"] (spT Ts ad BadClk)) (R_is_ring : LX.CalleeR P w K mg base "is_ring" 9 ["clock", "value"] (spT Ts ad BadRg)) (R_touching : LX.CalleeR P w K mg base "touching" 9 ["clock", "tick"] (spT Ts ad BadTo)) (R_needed : LX.CalleeR P w K mg base "needed" 9 ["clock", "wheel", "edition", "other"] (spT Ts ad BadNd)) (F : FunC K "law" s_law f fd c) : FnOk P w K mg base CX0 13 f fd ["script"] (sp_law K Ts PL) := by
  refine F.ok sc_law (fun vs H Q E h => ?_) (fun A outer s H vs Q E hr h => ⟨_, (pss_cons (ps_set (i := 1) sc_law.nd rfl (Or.inl rfl) (pe_lst (pa_cons (pv 0) (pa_cons pe_int (pa_cons pe_int (pa_cons pe_int pa_nil))))))
    (pss_cons (ps_set (i := 2) sc_law.nd rfl (Or.inl rfl) (pe_callC C_law_low_clock hr (by rfl) (pa_cons (pv 1) (pa_cons (pe_op op_add pe_int (pe_callC C_law_taken hr (by rfl) (pa_cons (pv 1) (pa_cons pe_int pa_nil)))) (pa_cons (pe_op op_add pe_int (pe_callC C_law_taken hr (by rfl) (pa_cons (pv 1) (pa_cons pe_int pa_nil)))) (pa_cons pe_int (pa_cons pe_int pa_nil)))))))
    (pss_cons (ps_par (i := 9) (j := 10) rfl sc_law.nd rfl rfl (by decide) rfl rfl (pa_cons (pe_ix (ixK (K := K) rIxT ix_tup rfl) (pv 2) pe_int (fun _ _ => rfl)) (pa_cons (pe_callB (crK (K := K) rLenQ cr_len rfl) (by rfl) T.g_len (by decide +kernel) (pa_cons (pe_ix (ixK (K := K) rIxT ix_tup rfl) (pv 2) pe_int (fun _ _ => rfl)) pa_nil)) pa_nil)) (by rfl))
    (pss_cons (ps_set (i := 3) sc_law.nd rfl (Or.inl rfl) (pe_lst (pa_cons (pe_lst (pa_cons pe_non (pa_cons pe_int (pa_cons pe_int (pa_cons pe_bl (pa_cons pe_str (pa_cons (pe_tup (pa_cons pe_int pa_nil)) pa_nil))))))) pa_nil)))
    (pss_cons (ps_expr (pe_bm PySem.F.plainAttrs_list PySem.F.slot_list_append PySem.F.type_list_append mt_append (pv 3) (pa_cons (pe_lst (pa_cons pe_non (pa_cons (pe_tup pa_nil) (pa_cons (pe_lst (pa_cons pe_int pa_nil)) (pa_cons (pe_tup (pa_cons pe_int pa_nil)) (pa_cons (pe_tup (pa_cons (pe_op op_sub pe_int pe_int) pa_nil)) (pa_cons (pe_tup (pa_cons pe_bl pa_nil)) (pa_cons (pe_op (opK (K := K) rCatA op_catA rfl) (pe_op op_repT (pe_tup (pa_cons pe_int pa_nil)) pe_int) (pe_tup (pa_cons pe_int pa_nil))) (pa_cons (pe_op op_repT (pe_tup (pa_cons pe_int pa_nil)) pe_int) (pa_cons pe_str (pa_cons pe_dnewT pa_nil))))))))))) pa_nil)))
    (pss_cons (ps_expr (pe_bm PySem.F.plainAttrs_list PySem.F.slot_list_append PySem.F.type_list_append mt_append (pv 3) (pa_cons (pe_lst (pa_cons pe_non (pa_cons (pe_lst pa_nil) (pa_cons (pe_tup (pa_cons (pe_tup (pa_cons pe_int (pa_cons pe_int pa_nil))) pa_nil)) (pa_cons (pe_tup (pa_cons (pe_tup (pa_cons (pv 9) (pa_cons pe_int (pa_cons pe_int pa_nil)))) pa_nil)) (pa_cons (pe_tup (pa_cons (pe_tup (pa_cons pe_int (pa_cons pe_int (pa_cons pe_int pa_nil)))) pa_nil)) (pa_cons (pe_tup (pa_cons (pe_tup (pa_cons pe_int (pa_cons pe_int (pa_cons pe_int pa_nil)))) pa_nil)) (pa_cons (pe_tup (pa_cons (pe_tup (pa_cons pe_int (pa_cons pe_int (pa_cons (pv 10) pa_nil)))) pa_nil)) pa_nil)))))))) pa_nil)))
    (pss_cons (ps_expr (pe_bm PySem.F.plainAttrs_list PySem.F.slot_list_append PySem.F.type_list_append mt_append (pe_ix (ixK (K := K) rIxL ix_list rfl) (pv 3) pe_int (fun _ _ => rfl)) (pa_cons (pe_tup (pa_cons (pe_tup (pa_cons pe_int (pa_cons pe_int (pa_cons pe_int pa_nil)))) (pa_cons (pe_tup (pa_cons pe_int (pa_cons pe_int (pa_cons pe_int pa_nil)))) pa_nil))) pa_nil)))
    (pss_cons (ps_expr (pe_bm PySem.F.plainAttrs_list PySem.F.slot_list_append PySem.F.type_list_append mt_append (pv 3) (pa_cons (pe_lst (pa_cons pe_non (pa_cons (pe_tup pa_nil) (pa_cons (pe_op (opK (K := K) rCatA op_catA rfl) (pe_ix (ixK (K := K) rIxT ix_tup rfl) (pv 2) pe_int (fun _ _ => rfl)) (pe_tup (pa_cons (pe_tup (pa_cons pe_int pa_nil)) pa_nil))) (pa_cons (pe_callTy call_list_of (by rfl) T.g_list (by decide +kernel) (pa_cons (pe_ix (ixK (K := K) rIxT ix_tup rfl) (pv 2) pe_int (fun _ _ => rfl)) pa_nil)) (pa_cons (pe_op (opK (K := K) rCatA op_catA rfl) (pe_tup (pa_cons (pe_tup (pa_cons (pv 9) pa_nil)) pa_nil)) (pe_slice (slK (K := K) rSlA sl_tupA rfl) (pe_ix (ixK (K := K) rIxT ix_tup rfl) (pv 2) pe_int (fun _ _ => rfl)) (po_some pe_int) po_none)) pa_nil)))))) pa_nil)))
    (pss_cons (ps_asg (pe_op op_cat (pe_ix (ixK (K := K) rIxL ix_list rfl) (pv 3) pe_int (fun _ _ => rfl)) (pe_lst (pa_cons (pe_op (opK (K := K) rCatA op_catA rfl) (pe_tup (pa_cons (pe_tup (pa_cons pe_int (pa_cons pe_int pa_nil))) pa_nil)) (pe_slice (slK (K := K) rSlA sl_tupA rfl) (pe_ix (ixK (K := K) rIxT ix_tup rfl) (pv 2) pe_int (fun _ _ => rfl)) (po_some pe_int) po_none)) (pa_cons (pe_op (opK (K := K) rCatA op_catA rfl) (pe_tup (pa_cons (pe_tup (pa_cons pe_int (pa_cons pe_int pa_nil))) pa_nil)) (pe_slice (slK (K := K) rSlA sl_tupA rfl) (pe_ix (ixK (K := K) rIxT ix_tup rfl) (pv 2) pe_int (fun _ _ => rfl)) (po_some pe_int) po_none)) pa_nil)))) (pg_sub (pv 3) pe_int set_list))
    (pss_cons (ps_expr (pe_bm PySem.F.plainAttrs_list PySem.F.slot_list_append PySem.F.type_list_append mt_append (pv 3) (pa_cons (pe_lst (pa_cons pe_non (pa_cons (pe_lst pa_nil) (pa_cons (pe_tup (pa_cons (pe_tup (pa_cons pe_int (pa_cons pe_int (pa_cons pe_int (pa_cons pe_int pa_nil))))) pa_nil)) (pa_cons (pe_tup (pa_cons (pe_tup (pa_cons pe_int (pa_cons pe_int (pa_cons pe_int (pa_cons pe_int pa_nil))))) pa_nil)) (pa_cons (pe_tup (pa_cons (pe_tup (pa_cons pe_int (pa_cons pe_int (pa_cons pe_int (pa_cons pe_int pa_nil))))) pa_nil)) (pa_cons (pe_tup (pa_cons (pe_tup (pa_cons pe_int (pa_cons pe_int (pa_cons (pv 10) (pa_cons pe_int pa_nil))))) pa_nil)) (pa_cons (pe_tup (pa_cons (pe_tup (pa_cons pe_int (pa_cons pe_int (pa_cons pe_int pa_nil)))) pa_nil)) pa_nil)))))))) pa_nil)))
    (pss_cons (ps_asg (pe_op op_cat (pe_ix (ixK (K := K) rIxL ix_list rfl) (pv 3) pe_int (fun _ _ => rfl)) (pe_lst (pa_cons (pe_tup (pa_cons (pe_tup (pa_cons pe_bl (pa_cons pe_int (pa_cons pe_int (pa_cons pe_int pa_nil))))) pa_nil)) (pa_cons (pe_tup (pa_cons pe_non pa_nil)) pa_nil)))) (pg_sub (pv 3) pe_int set_list))
    (pss_cons (ps_set (i := 4) sc_law.nd rfl (Or.inl rfl) (pe_lst (pa_cons pe_str (pa_cons pe_str (pa_cons pe_str (pa_cons pe_str (pa_cons pe_str pa_nil)))))))
    (pss_cons (ps_set (i := 5) sc_law.nd rfl (Or.inl rfl) (pe_callC C_law_taken hr (by rfl) (pa_cons (pv 1) (pa_cons pe_int pa_nil))))
    (LX.pss_cut (ps_if (pt_cmpR op_lt (pv 5) pe_int (nomark _)) (pss_cons (ps_set (i := 11) sc_law.nd rfl (Or.inl rfl) (pe_op (opK (K := K) rCatA op_catA rfl) (pe_op (opK (K := K) rCatA op_catA rfl) (pe_slice (slK (K := K) rSlA sl_tupA rfl) (pv 2) po_none (po_some (pv 5))) (pe_tup (pa_cons (pe_callC C_law_pick hr (by rfl) (pa_cons (pv 1) (pa_cons (pe_ix (ixK (K := K) rIxL ix_list rfl) (pv 3) (pv 5) (fun _ _ => rfl)) pa_nil))) pa_nil))) (pe_slice (slK (K := K) rSlA sl_tupA rfl) (pv 2) (po_some (pe_op op_add (pv 5) pe_int)) po_none)))
    (pss_one (ps_set (i := 12) sc_law.nd rfl (Or.inl rfl) (pe_ix (ixK (K := K) rIxL ix_list rfl) (pv 4) (pv 5) (fun _ _ => rfl))))) (pss_one (ps_par (i := 11) (j := 12) rfl sc_law.nd rfl rfl (by decide) rfl rfl (pa_cons (pe_callC C_law_pick hr (by rfl) (pa_cons (pv 1) (pa_cons (pe_lst (pa_cons pe_non (pa_cons (pe_callTy call_list_of (by rfl) T.g_list (by decide +kernel) (pa_cons (pv 2) pa_nil)) (pa_cons (pe_slice (slK (K := K) rSlA sl_tupA rfl) (pv 2) po_none (po_some pe_int)) (pa_cons (pe_op (opK (K := K) rCatA op_catA rfl) (pv 2) (pe_tup (pa_cons (pe_tup pa_nil) pa_nil))) (pa_cons pe_dnewT (pa_cons pe_str (pa_cons pe_int pa_nil)))))))) pa_nil))) (pa_cons pe_str pa_nil)) (by rfl))))
    (pss_cons (ps_if (pt_cmpR (opK (K := K) rNeD (op_neD hr.units) rfl) (pe_lc (own := [("work", 13)]) rfl sc_law.nd (piK (K := K) iList (pi_list (pe_callC C_law_works hr (by rfl) (pa_cons (pv 11) (pa_cons pe_non (pa_cons pe_non (pa_cons pe_non pa_nil)))))) rfl) (blkOk_by (N := N_law) (sc := defScope s_law) (own := [("work", 13)]) (by decide +kernel)) (fun _ _ _ _ _ => (pg_name (i := 13) sc_law.nd rfl (Or.inl rfl))) (fun _ _ _ _ _ => pts_nil) (fun _ _ _ _ _ => (pe_callC C_law_refused hr (by rfl) (pa_cons (pv 13) pa_nil)))) (pe_op op_rep (pe_lst (pa_cons (pe_tup (pa_cons pe_str (pa_cons (pv 12) pa_nil))) pa_nil)) pe_int) (nomark _)) (pss_one (ps_ret pe_bl)) pss_nil)
    (pss_cons (ps_set (i := 6) sc_law.nd rfl (Or.inl rfl) (pe_callC C_law_pick hr (by rfl) (pa_cons (pv 1) (pa_cons (pe_lst (pa_cons pe_non (pa_cons pe_bl (pa_cons (pe_op op_sub pe_int pe_int) (pa_cons (pe_op op_add (pe_op op_pow pe_int pe_int) pe_int) (pa_cons pe_str (pa_cons (pe_tup (pa_cons pe_int pa_nil)) pa_nil))))))) pa_nil))))
    (pss_cons (ps_if (pt_cmpR op_ne (pe_callC C_law_refused hr (by rfl) (pa_cons (pe_ix (ixK (K := K) rIxL ix_list rfl) (pe_callC C_law_works hr (by rfl) (pa_cons (pv 2) (pa_cons (pv 6) (pa_cons pe_non (pa_cons pe_non pa_nil))))) pe_int (fun _ _ => rfl)) pa_nil)) pe_str (nomark _)) (pss_one (ps_ret pe_bl)) pss_nil)
    (pss_cons (ps_set (i := 7) sc_law.nd rfl (Or.inl rfl) (pe_callC C_law_pick hr (by rfl) (pa_cons (pv 1) (pa_cons (pe_lst (pa_cons pe_non (pa_cons pe_bl (pa_cons (pe_op op_sub pe_int pe_int) (pa_cons (pv 10) (pa_cons pe_str (pa_cons (pe_tup (pa_cons pe_int pa_nil)) pa_nil))))))) pa_nil))))
    (pss_cons (ps_if (pt_cmpR op_ne (pe_callC C_law_refused hr (by rfl) (pa_cons (pe_ix (ixK (K := K) rIxL ix_list rfl) (pe_callC C_law_works hr (by rfl) (pa_cons (pv 2) (pa_cons (pv 7) (pa_cons pe_non (pa_cons pe_non pa_nil))))) pe_int (fun _ _ => rfl)) pa_nil)) pe_str (nomark _)) (pss_one (ps_ret pe_bl)) pss_nil)
    (pss_cons (ps_set (i := 8) sc_law.nd rfl (Or.inl rfl) (pe_callC C_law_pick hr (by rfl) (pa_cons (pv 1) (pa_cons (pe_lst (pa_cons pe_non (pa_cons pe_bl (pa_cons (pe_op op_sub pe_int pe_int) (pa_cons (pe_op op_add (pe_ix (ixK (K := K) rIxT ix_tup rfl) (pe_ix (ixK (K := K) rIxT ix_tup rfl) (pv 2) pe_int (fun _ _ => rfl)) pe_int (fun _ _ => rfl)) pe_int) (pa_cons pe_str pa_nil)))))) pa_nil))))
    (pss_cons (ps_if (pt_cmpR op_ne (pe_callC C_law_refused hr (by rfl) (pa_cons (pe_ix (ixK (K := K) rIxL ix_list rfl) (pe_callC C_law_works hr (by rfl) (pa_cons (pv 2) (pa_cons pe_int (pa_cons (pv 8) (pa_cons pe_non pa_nil))))) pe_int (fun _ _ => rfl)) pa_nil)) pe_str (nomark _)) (pss_one (ps_ret pe_bl)) pss_nil)
    (pss_one (ps_ret (pe_cmpR op_eq (pe_callC C_law_refused hr (by rfl) (pa_cons (pe_ix (ixK (K := K) rIxL ix_list rfl) (pe_callC C_law_works hr (by rfl) (pa_cons (pv 2) (pa_cons pe_int (pa_cons pe_int (pa_cons (pe_callC C_law_pick hr (by rfl) (pa_cons (pv 1) (pa_cons (pe_lst (pa_cons (pv 7) (pa_cons pe_int pa_nil))) pa_nil))) pa_nil))))) pe_int (fun _ _ => rfl)) pa_nil)) pe_str (nomark _))))))))))))))))))))))))), ?_⟩)
  · obtain ⟨scr, ns, rfl, _⟩ := h; rfl
  · obtain ⟨scr, ns, rfl, hsc, hTs, hTL, q⟩ := h
    have e30 : (10 : Int) ^ (30 : Int).toNat = 1000000000000000000000000000000 := by decide +kernel
    refine ⟨_, rfl, by show 4 ≤ sizeLine; decide, fun row hrow => ?_⟩
    have s0 : LX.Sta K Ts PL q_works (upd H row (.lst [.ref scr, .int 0, .int 6002, .int 0])) row scr ns := by
      have x := Xt.new (S := No) (o := .lst [.ref scr, .int 0, .int 6002, .int 0]) hrow
      refine ⟨⟨⟨0, 6002, 0, upd_same, by decide, by decide, by decide, by decide⟩, sqL_x x hsc, ?_⟩, hTs.x x, LX.tabS_x hTL nPL x (fun z => z) fun _ _ _ z => z⟩
      rcases hsc with (h | ⟨o, h⟩) | h
      · exact .inl (ne_none h hrow)
      · exact .inl (ne_none h hrow)
      · exact .inr h
    generalize upd H row (.lst [.ref scr, .int 0, .int 6002, .int 0]) = H0 at s0 ⊢
    refine ⟨_, rfl, _, rfl, row, scr, ns, 4, rfl, s0.r, by decide, by decide, fun H1 t t0 t1 x1 hR1 => ⟨_, _, rfl, rfl, ?_⟩⟩
    have s1 := s0.drawn nPL x1 hR1
    refine ⟨_, rfl, row, scr, ns, 3, rfl, hR1, by decide, by decide, fun H2 u u0 u1 x2 hR2 => ⟨_, _, rfl, rfl, ?_⟩⟩
    have s2 := s1.drawn nPL x2 hR2
    refine ⟨row, scr, ns, 2 + t, 2 + u, 2, 4, rfl, hR2, by omega, by omega, by omega, by omega, by decide, by decide, by decide, by decide, fun H3 cv k x3 hR3 hC ok hper hwh => ?_⟩
    have s3 := s2.drawn nPL x3 hR3
    clear s0 s1 s2 x1 x2 x3 hR1 hR2 hR3 hTs hTL hsc
    obtain ⟨⟨ca, e, tt, g, b, rt, rg, rb, rfl, h1, h2, h3, h4, h5, h6, h7, h8⟩⟩ := id hC
    have hlen := ok.len
    have hgl : rg.length = k.eds.length := h6.1.trans ok.gpsN
    refine ⟨_, rfl, rixV 0 h1 rfl rfl ⟨_, rfl, rixV 1 h1 rfl rfl ⟨e, _, rfl, .inr (SqT.of h2), _, _, rfl, ?_⟩⟩⟩
    rw [List.length_map]
    -- the lots: periods

    refine ⟨by show 1 ≤ sizeLine; decide, fun p3 h_p3 => ?_⟩
    have z_p3 : Xn H3 (upd H3 p3 (.tup [.int 3])) := Xt.new h_p3
    have e_p3 : upd H3 p3 (.tup [.int 3]) p3 = some (.tup [.int 3]) := upd_same
    generalize upd H3 p3 (.tup [.int 3]) = G_p3 at z_p3 e_p3 ⊢
    refine ⟨by show 6 ≤ sizeLine; decide, fun l0 h_l0 => ?_⟩
    have z_l0 : Xn G_p3 (upd G_p3 l0 (.lst [.non, .int 0, .int 13, .bl true, .str "3", .ref p3])) := Xt.new h_l0
    have e_l0 : upd G_p3 l0 (.lst [.non, .int 0, .int 13, .bl true, .str "3", .ref p3]) l0 = some (.lst [.non, .int 0, .int 13, .bl true, .str "3", .ref p3]) := upd_same
    generalize upd G_p3 l0 (.lst [.non, .int 0, .int 13, .bl true, .str "3", .ref p3]) = G_l0 at z_l0 e_l0 ⊢
    refine ⟨by show 1 ≤ sizeLine; decide, fun lo h_lo => ?_⟩
    have z_lo : Xn G_l0 (upd G_l0 lo (.lst [.ref l0])) := Xt.new h_lo
    have e_lo : upd G_l0 lo (.lst [.ref l0]) lo = some (.lst [.ref l0]) := upd_same
    generalize upd G_l0 lo (.lst [.ref l0]) = G_lo at z_lo e_lo ⊢
    have y0 : Xn H3 G_lo := ((z_p3.trans z_l0).trans z_lo)
    have hlo0 : H3 lo = none := (z_p3.trans z_l0).backN h_lo
    have nl0 : l0 ≠ lo := ne_none e_l0 h_lo
    have L0 : Lot (S3 row PL lo) k 0 G_lo l0 := by
      refine ⟨⟨_, z_lo.keep l0 _ (fun z => z) (fun _ z => by cases z) e_l0, by show 1 ≤ 6; decide, by show 6 ≤ 1000; decide, fun v hv J z => ?_⟩, nS_of s3 (z_p3.backN h_l0) nl0⟩
      simp only [List.mem_cons, List.not_mem_nil, or_false] at hv
      rcases hv with rfl | rfl | rfl | rfl | rfl | rfl
      · exact ⟨.non, rfl⟩
      · exact ⟨.int _, by decide⟩
      · exact ⟨.int _, by decide⟩
      · exact ⟨.bl _, rfl⟩
      · exact ⟨.str _, rfl⟩
      · exact ⟨.tup (z.tups _ _ ((z_l0.trans z_lo).tups _ _ e_p3)), rfl⟩
    clear e_l0 e_p3 z_p3 z_l0 z_lo nl0
    -- editions
    refine ⟨_, rfl, .inl ⟨rfl, _, SqL.of e_lo⟩, ?_⟩

    refine ⟨by show 0 ≤ sizeLine; decide, fun a0 h_a0 => ?_⟩
    have z_a0 : Xn G_lo (upd G_lo a0 (.tup [])) := Xt.new h_a0
    have e_a0 : upd G_lo a0 (.tup []) a0 = some (.tup []) := upd_same
    generalize upd G_lo a0 (.tup []) = G_a0 at z_a0 e_a0 ⊢
    refine ⟨by show 1 ≤ sizeLine; decide, fun a1 h_a1 => ?_⟩
    have z_a1 : Xn G_a0 (upd G_a0 a1 (.lst [.int 1])) := Xt.new h_a1
    have e_a1 : upd G_a0 a1 (.lst [.int 1]) a1 = some (.lst [.int 1]) := upd_same
    generalize upd G_a0 a1 (.lst [.int 1]) = G_a1 at z_a1 e_a1 ⊢
    refine ⟨by show 1 ≤ sizeLine; decide, fun a2 h_a2 => ?_⟩
    have z_a2 : Xn G_a1 (upd G_a1 a2 (.tup [.int 5])) := Xt.new h_a2
    have e_a2 : upd G_a1 a2 (.tup [.int 5]) a2 = some (.tup [.int 5]) := upd_same
    generalize upd G_a1 a2 (.tup [.int 5]) = G_a2 at z_a2 e_a2 ⊢
    refine ⟨_, _, rfl, rfl, by show 1 ≤ sizeLine; decide, fun a3 h_a3 => ?_⟩
    have z_a3 : Xn G_a2 (upd G_a2 a3 (.tup [.int (0 - 1)])) := Xt.new h_a3
    have e_a3 : upd G_a2 a3 (.tup [.int (0 - 1)]) a3 = some (.tup [.int (0 - 1)]) := upd_same
    generalize upd G_a2 a3 (.tup [.int (0 - 1)]) = G_a3 at z_a3 e_a3 ⊢
    refine ⟨by show 1 ≤ sizeLine; decide, fun a4 h_a4 => ?_⟩
    have z_a4 : Xn G_a3 (upd G_a3 a4 (.tup [.bl true])) := Xt.new h_a4
    have e_a4 : upd G_a3 a4 (.tup [.bl true]) a4 = some (.tup [.bl true]) := upd_same
    generalize upd G_a3 a4 (.tup [.bl true]) = G_a4 at z_a4 e_a4 ⊢
    refine ⟨by show 1 ≤ sizeLine; decide, fun a5 h_a5 => ?_⟩
    have z_a5 : Xn G_a4 (upd G_a4 a5 (.tup [.int 4])) := Xt.new h_a5
    have e_a5 : upd G_a4 a5 (.tup [.int 4]) a5 = some (.tup [.int 4]) := upd_same
    generalize upd G_a4 a5 (.tup [.int 4]) = G_a5 at z_a5 e_a5 ⊢
    refine ⟨a5, 6, _, rfl, rfl, SqT.of e_a5, List.cons_ne_nil _ _, by decide, by decide, by show 1 ≤ 1000; decide, fun a6 h_a6 => ?_⟩
    have z_a6 : Xn G_a5 (upd G_a5 a6 (.tup (List.replicate (6 : Int).toNat [V.int 4]).flatten)) := Xt.new h_a6
    have e_a6 : upd G_a5 a6 (.tup (List.replicate (6 : Int).toNat [V.int 4]).flatten) a6 = some (.tup (List.replicate (6 : Int).toNat [V.int 4]).flatten) := upd_same
    generalize upd G_a5 a6 (.tup (List.replicate (6 : Int).toNat [V.int 4]).flatten) = G_a6 at z_a6 e_a6 ⊢
    refine ⟨by show 1 ≤ sizeLine; decide, fun a7 h_a7 => ?_⟩
    have z_a7 : Xn G_a6 (upd G_a6 a7 (.tup [.int 1])) := Xt.new h_a7
    have e_a7 : upd G_a6 a7 (.tup [.int 1]) a7 = some (.tup [.int 1]) := upd_same
    generalize upd G_a6 a7 (.tup [.int 1]) = G_a7 at z_a7 e_a7 ⊢
    refine LX.catA (z_a7.tups _ _ e_a6) e_a7 (by show 6 + 1 ≤ 1000; decide) fun J1 a8 x8 ea8 => ?_
    have c1 := (((((((z_a0.trans z_a1).trans z_a2).trans z_a3).trans z_a4).trans z_a5).trans z_a6).trans z_a7)
    have k1 := Xt.trans (((((z_a2.trans z_a3).trans z_a4).trans z_a5).trans z_a6).trans z_a7) x8
    have ea2 := Xt.tups (Xt.trans ((((z_a3.trans z_a4).trans z_a5).trans z_a6).trans z_a7) x8) _ _ e_a2
    have ea3 := Xt.tups (Xt.trans (((z_a4.trans z_a5).trans z_a6).trans z_a7) x8) _ _ e_a3
    have ea4 := Xt.tups (Xt.trans ((z_a5.trans z_a6).trans z_a7) x8) _ _ e_a4
    have ea0 := Xt.tups (Xt.trans ((((((z_a1.trans z_a2).trans z_a3).trans z_a4).trans z_a5).trans z_a6).trans z_a7) x8) _ _ e_a0
    have ea1 := k1.keep a1 _ (fun z => z) (fun _ z => by cases z) e_a1
    have na1 : ¬ S3 row PL lo a1 := nS_of s3 ((y0.trans z_a0).backN h_a1) (ne_none (z_a0.keep lo _ (fun z => z) (fun _ z => by cases z) e_lo) h_a1).symm
    have c1 : Xn G_lo J1 := c1.trans x8
    clear k1 z_a0 z_a1 z_a2 z_a3 z_a4 z_a5 z_a6 z_a7 x8 e_a0 e_a1 e_a2 e_a3 e_a4 e_a5 e_a6 e_a7

    refine ⟨by show 1 ≤ sizeLine; decide, fun a9 h_a9 => ?_⟩
    have z_a9 : Xn J1 (upd J1 a9 (.tup [.int 1])) := Xt.new h_a9
    have e_a9 : upd J1 a9 (.tup [.int 1]) a9 = some (.tup [.int 1]) := upd_same
    generalize upd J1 a9 (.tup [.int 1]) = G_a9 at z_a9 e_a9 ⊢
    refine ⟨a9, 13, _, rfl, rfl, SqT.of e_a9, List.cons_ne_nil _ _, by decide, by decide, by show 1 ≤ 1000; decide, fun aa h_aa => ?_⟩
    have z_aa : Xn G_a9 (upd G_a9 aa (.tup (List.replicate (13 : Int).toNat [V.int 1]).flatten)) := Xt.new h_aa
    have e_aa : upd G_a9 aa (.tup (List.replicate (13 : Int).toNat [V.int 1]).flatten) aa = some (.tup (List.replicate (13 : Int).toNat [V.int 1]).flatten) := upd_same
    generalize upd G_a9 aa (.tup (List.replicate (13 : Int).toNat [V.int 1]).flatten) = G_aa at z_aa e_aa ⊢
    intro ab h_ab
    have z_ab : Xn G_aa (upd G_aa ab (.dT [])) := Xt.new h_ab
    have e_ab : upd G_aa ab (.dT []) ab = some (.dT []) := upd_same
    generalize upd G_aa ab (.dT []) = G_ab at z_ab e_ab ⊢
    refine ⟨by show 10 ≤ sizeLine; decide, fun l1 h_l1 => ?_⟩
    have z_l1 : Xn G_ab (upd G_ab l1 (.lst [.non, .ref a0, .ref a1, .ref a2, .ref a3, .ref a4, .ref a8, .ref aa, .str "1", .ref ab])) := Xt.new h_l1
    have e_l1 : upd G_ab l1 (.lst [.non, .ref a0, .ref a1, .ref a2, .ref a3, .ref a4, .ref a8, .ref aa, .str "1", .ref ab]) l1 = some (.lst [.non, .ref a0, .ref a1, .ref a2, .ref a3, .ref a4, .ref a8, .ref aa, .str "1", .ref ab]) := upd_same
    generalize upd G_ab l1 (.lst [.non, .ref a0, .ref a1, .ref a2, .ref a3, .ref a4, .ref a8, .ref aa, .str "1", .ref ab]) = G_l1 at z_l1 e_l1 ⊢
    have e_lo1 := (c1.trans (((z_a9.trans z_aa).trans z_ab).trans z_l1)).keep lo _ (fun z => z) (fun _ z => by cases z) e_lo
    have nl1 : ¬ S3 row PL lo l1 := nS_of s3 ((y0.trans (c1.trans ((z_a9.trans z_aa).trans z_ab))).backN h_l1) (ne_none ((c1.trans ((z_a9.trans z_aa).trans z_ab)).keep lo _ (fun z => z) (fun _ z => by cases z) e_lo) h_l1).symm
    have nab : ¬ S3 row PL lo ab := nS_of s3 ((y0.trans (c1.trans (z_a9.trans z_aa))).backN h_ab) (ne_none ((c1.trans (z_a9.trans z_aa)).keep lo _ (fun z => z) (fun _ z => by cases z) e_lo) h_ab).symm
    have L1 : Lot (S3 row PL lo) k 1 G_l1 l1 := by
      refine ⟨⟨_, e_l1, by show 1 ≤ 10; decide, by show 10 ≤ 1000; decide, fun v hv J z => ?_⟩, nl1⟩
      have zz : ∀ {a : Addr} {xs : List V}, J1 a = some (.tup xs) → J a = some (.tup xs) := fun h => z.tups _ _ (Xt.tups (((z_a9.trans z_aa).trans z_ab).trans z_l1) _ _ h)
      simp only [List.mem_cons, List.not_mem_nil, or_false] at hv
      rcases hv with rfl | rfl | rfl | rfl | rfl | rfl | rfl | rfl | rfl | rfl
      · exact .inl ⟨.non, rfl⟩
      · exact .inr ⟨a0, _, rfl, zz ea0, by decide, .inl (.inl rfl)⟩
      · exact .inl (noTup_lst (z.keep a1 _ na1 (fun _ z => by cases z) (Xt.keep (((z_a9.trans z_aa).trans z_ab).trans z_l1) a1 _ (fun z => z) (fun _ z => by cases z) ea1)))
      · exact .inr ⟨a2, _, rfl, zz ea2, by decide, .inr ⟨by decide, by decide, fun x hx => by rw [List.mem_singleton] at hx; rw [hx]; exact .int _, .inl ⟨_, List.mem_singleton.mpr rfl, by decide⟩⟩⟩
      · exact .inr ⟨a3, _, rfl, zz ea3, by decide, .inr ⟨by decide, by decide, fun x hx => by rw [List.mem_singleton] at hx; rw [hx]; exact .int _, .inl ⟨_, List.mem_singleton.mpr rfl, by decide⟩⟩⟩
      · exact .inr ⟨a4, _, rfl, zz ea4, by decide, .inr ⟨by decide, by decide, fun x hx => by rw [List.mem_singleton] at hx; rw [hx]; exact .bl _, .inl ⟨_, List.mem_singleton.mpr rfl, rfl⟩⟩⟩
      · exact .inr ⟨a8, _, rfl, zz ea8, by show 7 ≤ 1000; decide, .inr ⟨by show 1 ≤ 7; decide, by show 7 ≤ 12; decide, shp_ints (ns := [4, 4, 4, 4, 4, 4, 1]), .inr ⟨[4, 4, 4, 4, 4, 4, 1], rfl, by decide⟩⟩⟩
      · exact .inr ⟨aa, _, rfl, z.tups _ _ ((z_ab.trans z_l1).tups _ _ e_aa), by show 13 ≤ 1000; decide, .inl (.inr (by show 12 < 13; decide))⟩
      · exact .inl ⟨.str _, rfl⟩
      · exact .inl (noTup_dT (z.keep ab _ nab (fun _ z => by cases z) (z_l1.keep ab _ (fun z => z) (fun _ z => by cases z) e_ab)))
    have c1 := c1.trans (((z_a9.trans z_aa).trans z_ab).trans z_l1)
    refine ⟨lo, _, _, rfl, rfl, e_lo1, by show 1 < sizeLine; decide, ?_⟩
    have o1 : Xt (At1 lo) G_l1 (upd G_l1 lo (.lst ([.ref l0] ++ [.ref l1]))) := Xt.own rfl e_lo1
    have e_lo : upd G_l1 lo (.lst ([.ref l0] ++ [.ref l1])) lo = some (.lst [.ref l0, .ref l1]) := upd_same
    have y1 : Xn H3 (upd G_l1 lo (.lst ([.ref l0] ++ [.ref l1]))) := (y0.trans c1).young hlo0
    generalize upd G_l1 lo (.lst ([.ref l0] ++ [.ref l1])) = G1 at o1 e_lo y1 ⊢
    have L0 := (L0.x c1.any).x (o1.weak fun _ z => .inr (.inr z))
    have L1 := L1.x (o1.weak fun _ z => .inr (.inr z))
    clear c1 o1 e_lo1 y0 ea0 ea1 ea2 ea3 ea4 ea8 e_a9 e_aa e_ab e_l1 z_a9 z_aa z_ab z_l1 nl1 nab na1
    -- touches
    refine ⟨_, rfl, .inl ⟨rfl, _, SqL.of e_lo⟩, ?_⟩

    refine ⟨by show 0 ≤ sizeLine; decide, fun b0 h_b0 => ?_⟩
    have z_b0 : Xn G1 (upd G1 b0 (.lst [])) := Xt.new h_b0
    have e_b0 : upd G1 b0 (.lst []) b0 = some (.lst []) := upd_same
    generalize upd G1 b0 (.lst []) = G_b0 at z_b0 e_b0 ⊢
    refine ⟨by show 2 ≤ sizeLine; decide, fun b1 h_b1 => ?_⟩
    have z_b1 : Xn G_b0 (upd G_b0 b1 (.tup [.int 0, .int 0])) := Xt.new h_b1
    have e_b1 : upd G_b0 b1 (.tup [.int 0, .int 0]) b1 = some (.tup [.int 0, .int 0]) := upd_same
    generalize upd G_b0 b1 (.tup [.int 0, .int 0]) = G_b1 at z_b1 e_b1 ⊢
    refine ⟨by show 1 ≤ sizeLine; decide, fun b2 h_b2 => ?_⟩
    have z_b2 : Xn G_b1 (upd G_b1 b2 (.tup [.ref b1])) := Xt.new h_b2
    have e_b2 : upd G_b1 b2 (.tup [.ref b1]) b2 = some (.tup [.ref b1]) := upd_same
    generalize upd G_b1 b2 (.tup [.ref b1]) = G_b2 at z_b2 e_b2 ⊢
    refine ⟨_, rfl, by show 3 ≤ sizeLine; decide, fun b3 h_b3 => ?_⟩
    have z_b3 : Xn G_b2 (upd G_b2 b3 (.tup [.int k.per, .int 0, .int 1])) := Xt.new h_b3
    have e_b3 : upd G_b2 b3 (.tup [.int k.per, .int 0, .int 1]) b3 = some (.tup [.int k.per, .int 0, .int 1]) := upd_same
    generalize upd G_b2 b3 (.tup [.int k.per, .int 0, .int 1]) = G_b3 at z_b3 e_b3 ⊢
    refine ⟨by show 1 ≤ sizeLine; decide, fun b4 h_b4 => ?_⟩
    have z_b4 : Xn G_b3 (upd G_b3 b4 (.tup [.ref b3])) := Xt.new h_b4
    have e_b4 : upd G_b3 b4 (.tup [.ref b3]) b4 = some (.tup [.ref b3]) := upd_same
    generalize upd G_b3 b4 (.tup [.ref b3]) = G_b4 at z_b4 e_b4 ⊢
    refine ⟨by show 3 ≤ sizeLine; decide, fun b5 h_b5 => ?_⟩
    have z_b5 : Xn G_b4 (upd G_b4 b5 (.tup [.int 0, .int 1, .int 0])) := Xt.new h_b5
    have e_b5 : upd G_b4 b5 (.tup [.int 0, .int 1, .int 0]) b5 = some (.tup [.int 0, .int 1, .int 0]) := upd_same
    generalize upd G_b4 b5 (.tup [.int 0, .int 1, .int 0]) = G_b5 at z_b5 e_b5 ⊢
    refine ⟨by show 1 ≤ sizeLine; decide, fun b6 h_b6 => ?_⟩
    have z_b6 : Xn G_b5 (upd G_b5 b6 (.tup [.ref b5])) := Xt.new h_b6
    have e_b6 : upd G_b5 b6 (.tup [.ref b5]) b6 = some (.tup [.ref b5]) := upd_same
    generalize upd G_b5 b6 (.tup [.ref b5]) = G_b6 at z_b6 e_b6 ⊢
    refine ⟨by show 3 ≤ sizeLine; decide, fun b7 h_b7 => ?_⟩
    have z_b7 : Xn G_b6 (upd G_b6 b7 (.tup [.int 0, .int 0, .int 0])) := Xt.new h_b7
    have e_b7 : upd G_b6 b7 (.tup [.int 0, .int 0, .int 0]) b7 = some (.tup [.int 0, .int 0, .int 0]) := upd_same
    generalize upd G_b6 b7 (.tup [.int 0, .int 0, .int 0]) = G_b7 at z_b7 e_b7 ⊢
    refine ⟨by show 1 ≤ sizeLine; decide, fun b8 h_b8 => ?_⟩
    have z_b8 : Xn G_b7 (upd G_b7 b8 (.tup [.ref b7])) := Xt.new h_b8
    have e_b8 : upd G_b7 b8 (.tup [.ref b7]) b8 = some (.tup [.ref b7]) := upd_same
    generalize upd G_b7 b8 (.tup [.ref b7]) = G_b8 at z_b8 e_b8 ⊢
    refine ⟨_, rfl, by show 3 ≤ sizeLine; decide, fun b9 h_b9 => ?_⟩
    have z_b9 : Xn G_b8 (upd G_b8 b9 (.tup [.int 0, .int 0, .int (k.eds.length : Nat)])) := Xt.new h_b9
    have e_b9 : upd G_b8 b9 (.tup [.int 0, .int 0, .int (k.eds.length : Nat)]) b9 = some (.tup [.int 0, .int 0, .int (k.eds.length : Nat)]) := upd_same
    generalize upd G_b8 b9 (.tup [.int 0, .int 0, .int (k.eds.length : Nat)]) = G_b9 at z_b9 e_b9 ⊢
    refine ⟨by show 1 ≤ sizeLine; decide, fun ba h_ba => ?_⟩
    have z_ba : Xn G_b9 (upd G_b9 ba (.tup [.ref b9])) := Xt.new h_ba
    have e_ba : upd G_b9 ba (.tup [.ref b9]) ba = some (.tup [.ref b9]) := upd_same
    generalize upd G_b9 ba (.tup [.ref b9]) = G_ba at z_ba e_ba ⊢
    refine ⟨by show 7 ≤ sizeLine; decide, fun l2 h_l2 => ?_⟩
    have z_l2 : Xn G_ba (upd G_ba l2 (.lst [.non, .ref b0, .ref b2, .ref b4, .ref b6, .ref b8, .ref ba])) := Xt.new h_l2
    have e_l2 : upd G_ba l2 (.lst [.non, .ref b0, .ref b2, .ref b4, .ref b6, .ref b8, .ref ba]) l2 = some (.lst [.non, .ref b0, .ref b2, .ref b4, .ref b6, .ref b8, .ref ba]) := upd_same
    generalize upd G_ba l2 (.lst [.non, .ref b0, .ref b2, .ref b4, .ref b6, .ref b8, .ref ba]) = G_l2 at z_l2 e_l2 ⊢
    have nb0 : ¬ S3 row PL lo b0 := nS_of s3 (y1.backN h_b0) (ne_none e_lo h_b0).symm
    have hl2 : G1 l2 = none := Xt.backN ((((((((((z_b0.trans z_b1).trans z_b2).trans z_b3).trans z_b4).trans z_b5).trans z_b6).trans z_b7).trans z_b8).trans z_b9).trans z_ba) h_l2
    have e_lo2 := Xt.keep ((((((((((z_b0.trans z_b1).trans z_b2).trans z_b3).trans z_b4).trans z_b5).trans z_b6).trans z_b7).trans z_b8).trans z_b9).trans z_ba) lo _ (fun z => z) (fun _ z => by cases z) e_lo
    have nl2 : ¬ S3 row PL lo l2 := nS_of s3 (y1.backN hl2) (ne_none e_lo2 h_l2).symm
    have e_lo3 := z_l2.keep lo _ (fun z => z) (fun _ z => by cases z) e_lo2
    have q1 : Xt (S3 row PL lo) G1 G_l2 := Xt.any (((((((((((z_b0.trans z_b1).trans z_b2).trans z_b3).trans z_b4).trans z_b5).trans z_b6).trans z_b7).trans z_b8).trans z_b9).trans z_ba).trans z_l2)
    have nb0l : b0 ≠ l2 := ne_none (Xt.keep ((((((((((z_b1.trans z_b2).trans z_b3).trans z_b4).trans z_b5).trans z_b6).trans z_b7).trans z_b8).trans z_b9).trans z_ba)) b0 _ (fun z => z) (fun _ z => by cases z) e_b0) h_l2
    have f2 : ∀ v ∈ ([.non, .ref b0, .ref b2, .ref b4, .ref b6, .ref b8, .ref ba] : List V), Far (S4 row PL lo l2) (PB k 2) G_l2 v := by
      intro v hv J z
      simp only [List.mem_cons, List.not_mem_nil, or_false] at hv
      rcases hv with rfl | rfl | rfl | rfl | rfl | rfl | rfl
      · exact .inl ⟨.non, rfl⟩
      · exact .inl (noTup_lst (z.keep b0 _ (fun z => z.elim nb0 nb0l) (fun _ z => by cases z) (Xt.keep ((((((((((z_b1.trans z_b2).trans z_b3).trans z_b4).trans z_b5).trans z_b6).trans z_b7).trans z_b8).trans z_b9).trans z_ba).trans z_l2) b0 _ (fun z => z) (fun _ z => by cases z) e_b0)))
      · exact .inr ⟨b2, _, rfl, z.tups _ _ (((((((((z_b3.trans z_b4).trans z_b5).trans z_b6).trans z_b7).trans z_b8).trans z_b9).trans z_ba).trans z_l2).tups _ _ e_b2), .inl ⟨_, rfl, .inl (notTup_of (z.tups _ _ ((((((((((z_b2.trans z_b3).trans z_b4).trans z_b5).trans z_b6).trans z_b7).trans z_b8).trans z_b9).trans z_ba).trans z_l2).tups _ _ e_b1)) (by decide))⟩⟩
      · exact .inr ⟨b4, _, rfl, z.tups _ _ (((((((z_b5.trans z_b6).trans z_b7).trans z_b8).trans z_b9).trans z_ba).trans z_l2).tups _ _ e_b4), .inl ⟨_, rfl, .inr ⟨b3, _, _, _, rfl, z.tups _ _ ((((((((z_b4.trans z_b5).trans z_b6).trans z_b7).trans z_b8).trans z_b9).trans z_ba).trans z_l2).tups _ _ e_b3), by omega⟩⟩⟩
      · exact .inr ⟨b6, _, rfl, z.tups _ _ (((((z_b7.trans z_b8).trans z_b9).trans z_ba).trans z_l2).tups _ _ e_b6), .inl ⟨_, rfl, .inr ⟨b5, _, _, _, rfl, z.tups _ _ ((((((z_b6.trans z_b7).trans z_b8).trans z_b9).trans z_ba).trans z_l2).tups _ _ e_b5), by omega⟩⟩⟩
      · exact .inr ⟨b8, _, rfl, z.tups _ _ (((z_b9.trans z_ba).trans z_l2).tups _ _ e_b8), .inl ⟨_, rfl, .inr ⟨b7, _, _, _, rfl, z.tups _ _ ((((z_b8.trans z_b9).trans z_ba).trans z_l2).tups _ _ e_b7), by omega⟩⟩⟩
      · exact .inr ⟨ba, _, rfl, z.tups _ _ (z_l2.tups _ _ e_ba), .inl ⟨_, rfl, .inr ⟨b9, _, _, _, rfl, z.tups _ _ ((z_ba.trans z_l2).tups _ _ e_b9), by omega⟩⟩⟩
    have c1 : Xn G1 G_l2 := (((((((((((z_b0.trans z_b1).trans z_b2).trans z_b3).trans z_b4).trans z_b5).trans z_b6).trans z_b7).trans z_b8).trans z_b9).trans z_ba).trans z_l2)
    clear nb0 nb0l e_lo2
    clear e_b0 e_b1 e_b2 e_b3 e_b4 e_b5 e_b6 e_b7 e_b8 e_b9 e_ba z_b0 z_b1 z_b2 z_b3 z_b4 z_b5 z_b6 z_b7 z_b8 z_b9 z_ba z_l2
    refine ⟨lo, _, _, rfl, rfl, e_lo3, by show 2 < sizeLine; decide, ?_⟩
    have o1 : Xt (At1 lo) G_l2 (upd G_l2 lo (.lst ([.ref l0, .ref l1] ++ [.ref l2]))) := Xt.own rfl e_lo3
    have e_lo : upd G_l2 lo (.lst ([.ref l0, .ref l1] ++ [.ref l2])) lo = some (.lst [.ref l0, .ref l1, .ref l2]) := upd_same
    have y2 : Xn H3 (upd G_l2 lo (.lst ([.ref l0, .ref l1] ++ [.ref l2]))) := (y1.trans c1).young hlo0
    have e_l2 := o1.keep l2 _ (fun z => nl2 (.inr (.inr z))) (fun _ z => by cases z) e_l2
    generalize upd G_l2 lo (.lst ([.ref l0, .ref l1] ++ [.ref l2])) = G2 at o1 e_lo y2 e_l2 ⊢
    have q2 : Xt (S3 row PL lo) G1 G2 := q1.trans (o1.weak fun _ z => .inr (.inr z))
    have f2 : ∀ v ∈ ([.non, .ref b0, .ref b2, .ref b4, .ref b6, .ref b8, .ref ba] : List V), Far (S4 row PL lo l2) (PB k 2) G2 v := fun v hv => (f2 v hv).x (o1.weak fun _ z => .inl (.inr (.inr z)))
    clear q1 c1 e_lo3 o1
    obtain ⟨xs2, exs2⟩ : ∃ xs2, ([.non, .ref b0, .ref b2, .ref b4, .ref b6, .ref b8, .ref ba] : List V) = xs2 := ⟨_, rfl⟩
    have hx2 : xs2.length = 7 := by rw [← exs2]; rfl
    rw [exs2] at f2 e_l2
    clear exs2
    -- two touches that don't rise
    refine ⟨_, rfl, rixLC 2 e_lo rfl rfl ?_⟩
    refine ⟨.inl ⟨rfl, _, SqL.of e_l2⟩, ?_⟩

    refine ⟨by show 3 ≤ sizeLine; decide, fun bb h_bb => ?_⟩
    have z_bb : Xn G2 (upd G2 bb (.tup [.int 1, .int 0, .int 1])) := Xt.new h_bb
    have e_bb : upd G2 bb (.tup [.int 1, .int 0, .int 1]) bb = some (.tup [.int 1, .int 0, .int 1]) := upd_same
    generalize upd G2 bb (.tup [.int 1, .int 0, .int 1]) = G_bb at z_bb e_bb ⊢
    refine ⟨by show 3 ≤ sizeLine; decide, fun bc h_bc => ?_⟩
    have z_bc : Xn G_bb (upd G_bb bc (.tup [.int 0, .int 0, .int 1])) := Xt.new h_bc
    have e_bc : upd G_bb bc (.tup [.int 0, .int 0, .int 1]) bc = some (.tup [.int 0, .int 0, .int 1]) := upd_same
    generalize upd G_bb bc (.tup [.int 0, .int 0, .int 1]) = G_bc at z_bc e_bc ⊢
    refine ⟨by show 2 ≤ sizeLine; decide, fun bd h_bd => ?_⟩
    have z_bd : Xn G_bc (upd G_bc bd (.tup [.ref bb, .ref bc])) := Xt.new h_bd
    have e_bd : upd G_bc bd (.tup [.ref bb, .ref bc]) bd = some (.tup [.ref bb, .ref bc]) := upd_same
    generalize upd G_bc bd (.tup [.ref bb, .ref bc]) = G_bd at z_bd e_bd ⊢
    have e_l22 := Xt.keep ((z_bb.trans z_bc).trans z_bd) l2 _ (fun z => z) (fun _ z => by cases z) e_l2
    have e_lo2 := Xt.keep ((z_bb.trans z_bc).trans z_bd) lo _ (fun z => z) (fun _ z => by cases z) e_lo
    refine ⟨l2, _, _, rfl, rfl, e_l22, by rw [hx2]; decide, ?_⟩
    have f2b : Far (S4 row PL lo l2) (PB k 2) G_bd (.ref bd) := by
      intro J z
      refine .inr ⟨bd, _, rfl, z.tups _ _ e_bd, .inr ⟨[[1, 0, 1], [0, 0, 1]], ?_, fun y hy => ?_, by decide, by decide⟩⟩
      · exact LX.rows_cons (z.tups _ _ ((z_bc.trans z_bd).tups _ _ e_bb)) (LX.rows_cons (z.tups _ _ (z_bd.tups _ _ e_bc)) LX.rows_nil)
      · simp only [List.mem_cons, List.not_mem_nil, or_false] at hy
        rcases hy with rfl | rfl
        · exact ⟨1, 0, 1, rfl, by decide, by omega, by decide, by decide, by omega⟩
        · exact ⟨0, 0, 1, rfl, by decide, by omega, by decide, by decide, by omega⟩
    have y3 : Xn H3 (upd G_bd l2 (.lst (xs2 ++ [.ref bd]))) := (y2.trans ((z_bb.trans z_bc).trans z_bd)).young (y1.backN hl2)
    have q3 : Xt (S3 row PL lo) G1 (upd G_bd l2 (.lst (xs2 ++ [.ref bd]))) := (q2.trans (Xt.any ((z_bb.trans z_bc).trans z_bd))).young hl2
    have o2 : Xt (At1 l2) G_bd (upd G_bd l2 (.lst (xs2 ++ [.ref bd]))) := Xt.own rfl e_l22
    have e_l2 : upd G_bd l2 (.lst (xs2 ++ [.ref bd])) l2 = _ := upd_same
    have e_lo := o2.keep lo _ (fun z => nl2 (.inr (.inr z.symm))) (fun _ z => by cases z) e_lo2
    have L2 : Lot (S3 row PL lo) k 2 (upd G_bd l2 (.lst (xs2 ++ [.ref bd]))) l2 := by
      refine ⟨⟨_, e_l2, by rw [List.length_append, hx2]; show 1 ≤ 7 + 1; decide, by rw [List.length_append, hx2]; show 7 + 1 ≤ 1000; decide, fun v hv => ?_⟩, nl2⟩
      have g : Far (S4 row PL lo l2) (PB k 2) (upd G_bd l2 (.lst (xs2 ++ [.ref bd]))) v := by
        rcases List.mem_append.mp hv with hv | hv
        · exact ((f2 v hv).x (Xt.any ((z_bb.trans z_bc).trans z_bd))).x (o2.weak fun _ z => .inr z)
        · rw [List.mem_singleton] at hv; rw [hv]; exact f2b.x (o2.weak fun _ z => .inr z)
      exact fun J z => g J (z.weak fun _ z => .inl z)
    generalize upd G_bd l2 (.lst (xs2 ++ [.ref bd])) = G3 at y3 q3 o2 e_l2 e_lo L2 ⊢
    have L0 := L0.x q3
    have L1 := L1.x q3
    clear f2 f2b q2 q3 o2 e_l2 e_l22 e_lo2 e_bb e_bc e_bd z_bb z_bc z_bd hx2 y1 y2 hl2 nl2
    -- gaps
    refine ⟨_, rfl, .inl ⟨rfl, _, SqL.of e_lo⟩, ?_⟩

    refine ⟨by show 0 ≤ sizeLine; decide, fun c0 h_c0 => ?_⟩
    have z_c0 : Xn G3 (upd G3 c0 (.tup [])) := Xt.new h_c0
    have e_c0 : upd G3 c0 (.tup []) c0 = some (.tup []) := upd_same
    generalize upd G3 c0 (.tup []) = G_c0 at z_c0 e_c0 ⊢
    refine ⟨_, rfl, rixV 3 ((y3.trans z_c0).tups _ _ h1) rfl rfl ?_⟩
    refine ⟨by show 1 ≤ sizeLine; decide, fun c1 h_c1 => ?_⟩
    have z_c1 : Xn G_c0 (upd G_c0 c1 (.tup [.int 0])) := Xt.new h_c1
    have e_c1 : upd G_c0 c1 (.tup [.int 0]) c1 = some (.tup [.int 0]) := upd_same
    generalize upd G_c0 c1 (.tup [.int 0]) = G_c1 at z_c1 e_c1 ⊢
    refine ⟨by show 1 ≤ sizeLine; decide, fun c2 h_c2 => ?_⟩
    have z_c2 : Xn G_c1 (upd G_c1 c2 (.tup [.ref c1])) := Xt.new h_c2
    have e_c2 : upd G_c1 c2 (.tup [.ref c1]) c2 = some (.tup [.ref c1]) := upd_same
    generalize upd G_c1 c2 (.tup [.ref c1]) = G_c2 at z_c2 e_c2 ⊢
    refine LX.catA ((y3.trans ((z_c0.trans z_c1).trans z_c2)).tups _ _ h5) e_c2 (by show rg.length + 1 ≤ 1000; omega) fun J1 c3 x8 ec3 => ?_
    have w1 : Xn G3 J1 := Xt.trans ((z_c0.trans z_c1).trans z_c2) x8
    refine ⟨_, rfl, rixV 3 ((y3.trans w1).tups _ _ h1) rfl rfl ⟨g, _, rfl, .inr (SqT.of ((y3.trans w1).tups _ _ h5)), fun c4 h_c4 => ?_⟩⟩
    have ec0 := Xt.tups (Xt.trans (z_c1.trans z_c2) x8) _ _ e_c0
    clear e_c0 e_c1 e_c2 z_c0 z_c1 z_c2 x8

    skip
    have z_c4 : Xn J1 (upd J1 c4 (.lst rg)) := Xt.new h_c4
    have e_c4 : upd J1 c4 (.lst rg) c4 = some (.lst rg) := upd_same
    generalize upd J1 c4 (.lst rg) = G_c4 at z_c4 e_c4 ⊢
    refine ⟨_, rfl, by show 1 ≤ sizeLine; decide, fun c5 h_c5 => ?_⟩
    have z_c5 : Xn G_c4 (upd G_c4 c5 (.tup [.int k.per])) := Xt.new h_c5
    have e_c5 : upd G_c4 c5 (.tup [.int k.per]) c5 = some (.tup [.int k.per]) := upd_same
    generalize upd G_c4 c5 (.tup [.int k.per]) = G_c5 at z_c5 e_c5 ⊢
    refine ⟨by show 1 ≤ sizeLine; decide, fun c6 h_c6 => ?_⟩
    have z_c6 : Xn G_c5 (upd G_c5 c6 (.tup [.ref c5])) := Xt.new h_c6
    have e_c6 : upd G_c5 c6 (.tup [.ref c5]) c6 = some (.tup [.ref c5]) := upd_same
    generalize upd G_c5 c6 (.tup [.ref c5]) = G_c6 at z_c6 e_c6 ⊢
    refine ⟨_, rfl, rixV 3 ((y3.trans (w1.trans ((z_c4.trans z_c5).trans z_c6))).tups _ _ h1) rfl rfl ?_⟩
    refine ⟨1, rfl, LX.sl_fromN (k := 1) ((y3.trans (w1.trans ((z_c4.trans z_c5).trans z_c6))).tups _ _ h5) rfl (by omega) fun J2 c7 j2 ec7 => ?_⟩
    refine LX.catA (j2.tups _ _ e_c6) ec7 (by rw [List.length_drop]; show 1 + (rg.length - 1) ≤ 1000; omega) fun J3 c8 j3 ec8 => ?_
    have w3 : Xn J1 J3 := Xt.trans ((z_c4.trans z_c5).trans z_c6) (j2.trans j3)
    have e_lo1 := Xt.keep (w1.trans z_c4) lo _ (fun z => z) (fun _ z => by cases z) e_lo
    have nc4 : ¬ S3 row PL lo c4 := nS_of s3 ((y3.trans w1).backN h_c4) (ne_none (Xt.keep w1 lo _ (fun z => z) (fun _ z => by cases z) e_lo) h_c4).symm
    have ec4 := Xt.keep (Xt.trans (z_c5.trans z_c6) (j2.trans j3)) c4 _ (fun z => z) (fun _ z => by cases z) e_c4
    have ec5 := Xt.tups (Xt.trans z_c6 (j2.trans j3)) _ _ e_c5
    have ec3 := w3.tups _ _ ec3
    have ec0 := w3.tups _ _ ec0
    have w1 := w1.trans w3
    clear w3 e_c4 e_c5 e_c6 z_c4 z_c5 z_c6 j2 j3 ec7 e_lo1

    refine ⟨by show 5 ≤ sizeLine; decide, fun l3 h_l3 => ?_⟩
    have z_l3 : Xn J3 (upd J3 l3 (.lst [.non, .ref c0, .ref c3, .ref c4, .ref c8])) := Xt.new h_l3
    have e_l3 : upd J3 l3 (.lst [.non, .ref c0, .ref c3, .ref c4, .ref c8]) l3 = some (.lst [.non, .ref c0, .ref c3, .ref c4, .ref c8]) := upd_same
    generalize upd J3 l3 (.lst [.non, .ref c0, .ref c3, .ref c4, .ref c8]) = G_l3 at z_l3 e_l3 ⊢
    have nl3 : ¬ S3 row PL lo l3 := nS_of s3 ((y3.trans w1).backN h_l3) (ne_none (Xt.keep w1 lo _ (fun z => z) (fun _ z => by cases z) e_lo) h_l3).symm
    have e_lo1 := Xt.keep (w1.trans z_l3) lo _ (fun z => z) (fun _ z => by cases z) e_lo
    have f3 : ∀ v ∈ ([.non, .ref c0, .ref c3, .ref c4, .ref c8] : List V), Far (S3 row PL lo) (PB k 3) G_l3 v := by
      intro v hv J z
      have zz : ∀ {a : Addr} {xs : List V}, J3 a = some (.tup xs) → J a = some (.tup xs) := fun h => z.tups _ _ (z_l3.tups _ _ h)
      have h6' := ((h6.x y3).x w1).x z_l3
      simp only [List.mem_cons, List.not_mem_nil, or_false] at hv
      rcases hv with rfl | rfl | rfl | rfl | rfl
      · exact .inl ⟨.non, fun xs e => nomatch e⟩
      · exact .inl (notTup_of (zz ec0) (by show 0 ≠ k.eds.length; omega))
      · exact .inl (notTup_of (zz ec3) (by rw [List.length_append]; show rg.length + 1 ≠ k.eds.length; omega))
      · exact .inl (notTup_lst (z.keep c4 _ nc4 (fun _ z => by cases z) (z_l3.keep c4 _ (fun z => z) (fun _ z => by cases z) ec4)))
      · exact .inr ⟨c8, _, [k.per], k.gps.drop 1, rfl, zz ec8, LX.rows_cons (zz ec5) (rows_drop (h6'.x z) 1), by rw [List.length_drop, ok.gpsN]; omega, ⟨List.cons_ne_nil _ _, by show 1 ≤ 1000; decide, .inl ⟨k.per, List.mem_singleton.mpr rfl, by omega⟩⟩, fun i e' g' he hg => by rw [List.getElem?_drop, Nat.add_comm 1 i] at hg; exact ok.gps (i + 1) e' g' he hg⟩
    refine ⟨lo, _, _, rfl, rfl, e_lo1, by show 3 < sizeLine; decide, ?_⟩
    have o1 : Xt (At1 lo) G_l3 (upd G_l3 lo (.lst ([.ref l0, .ref l1, .ref l2] ++ [.ref l3]))) := Xt.own rfl e_lo1
    have y4 : Xn H3 (upd G_l3 lo (.lst ([.ref l0, .ref l1, .ref l2] ++ [.ref l3]))) := (y3.trans (w1.trans z_l3)).young hlo0
    have e_lo4 : upd G_l3 lo (.lst ([.ref l0, .ref l1, .ref l2] ++ [.ref l3])) lo = some (.lst [.ref l0, .ref l1, .ref l2, .ref l3]) := upd_same
    generalize upd G_l3 lo (.lst ([.ref l0, .ref l1, .ref l2] ++ [.ref l3])) = G4 at o1 e_lo4 y4 ⊢
    have qq : Xt (S3 row PL lo) G3 G4 := (Xt.any (w1.trans z_l3)).trans (o1.weak fun _ z => .inr (.inr z))
    have L0 := L0.x qq
    have L1 := L1.x qq
    have L2 := L2.x qq
    have f3 : ∀ v ∈ ([.non, .ref c0, .ref c3, .ref c4, .ref c8] : List V), Far (S3 row PL lo) (PB k 3) G4 v := fun v hv => (f3 v hv).x (o1.weak fun _ z => .inr (.inr z))
    have e_l3 := o1.keep l3 _ (fun z => nl3 (.inr (.inr z))) (fun _ z => by cases z) e_l3
    clear e_lo e_lo1 y3 qq o1 w1 z_l3 nc4 ec0 ec3 ec4 ec5 ec8
    obtain ⟨xs3, exs3⟩ : ∃ xs3, ([.non, .ref c0, .ref c3, .ref c4, .ref c8] : List V) = xs3 := ⟨_, rfl⟩
    have hx3 : xs3.length = 5 := by rw [← exs3]; rfl
    rw [exs3] at f3 e_l3
    clear exs3
    -- gaps that don't rise
    refine ⟨_, rfl, rixLC 3 e_lo4 rfl rfl ?_⟩

    refine ⟨by show 2 ≤ sizeLine; decide, fun d0 h_d0 => ?_⟩
    have z_d0 : Xn G4 (upd G4 d0 (.tup [.int 0, .int 0])) := Xt.new h_d0
    have e_d0 : upd G4 d0 (.tup [.int 0, .int 0]) d0 = some (.tup [.int 0, .int 0]) := upd_same
    generalize upd G4 d0 (.tup [.int 0, .int 0]) = G_d0 at z_d0 e_d0 ⊢
    refine ⟨by show 1 ≤ sizeLine; decide, fun d1 h_d1 => ?_⟩
    have z_d1 : Xn G_d0 (upd G_d0 d1 (.tup [.ref d0])) := Xt.new h_d1
    have e_d1 : upd G_d0 d1 (.tup [.ref d0]) d1 = some (.tup [.ref d0]) := upd_same
    generalize upd G_d0 d1 (.tup [.ref d0]) = G_d1 at z_d1 e_d1 ⊢
    refine ⟨_, rfl, rixV 3 ((y4.trans (z_d0.trans z_d1)).tups _ _ h1) rfl rfl ?_⟩
    refine ⟨1, rfl, LX.sl_fromN (k := 1) ((y4.trans (z_d0.trans z_d1)).tups _ _ h5) rfl (by omega) fun J2 d2 j2 ed2 => ?_⟩
    refine LX.catA (j2.tups _ _ e_d1) ed2 (by rw [List.length_drop]; show 1 + (rg.length - 1) ≤ 1000; omega) fun J3 d3 j3 ed3 => ?_
    have w1 : Xn G4 J3 := Xt.trans (z_d0.trans z_d1) (j2.trans j3)
    have ed0 := (z_d1.trans (j2.trans j3)).tups _ _ e_d0
    clear e_d0 e_d1 z_d0 z_d1 j2 j3 ed2

    refine ⟨by show 2 ≤ sizeLine; decide, fun d4 h_d4 => ?_⟩
    have z_d4 : Xn J3 (upd J3 d4 (.tup [.int 1, .int 0])) := Xt.new h_d4
    have e_d4 : upd J3 d4 (.tup [.int 1, .int 0]) d4 = some (.tup [.int 1, .int 0]) := upd_same
    generalize upd J3 d4 (.tup [.int 1, .int 0]) = G_d4 at z_d4 e_d4 ⊢
    refine ⟨by show 1 ≤ sizeLine; decide, fun d5 h_d5 => ?_⟩
    have z_d5 : Xn G_d4 (upd G_d4 d5 (.tup [.ref d4])) := Xt.new h_d5
    have e_d5 : upd G_d4 d5 (.tup [.ref d4]) d5 = some (.tup [.ref d4]) := upd_same
    generalize upd G_d4 d5 (.tup [.ref d4]) = G_d5 at z_d5 e_d5 ⊢
    refine ⟨_, rfl, rixV 3 ((y4.trans (w1.trans (z_d4.trans z_d5))).tups _ _ h1) rfl rfl ?_⟩
    refine ⟨1, rfl, LX.sl_fromN (k := 1) ((y4.trans (w1.trans (z_d4.trans z_d5))).tups _ _ h5) rfl (by omega) fun J4 d6 j4 ed6 => ?_⟩
    refine LX.catA (j4.tups _ _ e_d5) ed6 (by rw [List.length_drop]; show 1 + (rg.length - 1) ≤ 1000; omega) fun J5 d7 j5 ed7 => ?_
    have w2 : Xn J3 J5 := Xt.trans (z_d4.trans z_d5) (j4.trans j5)
    have ed4 := (z_d5.trans (j4.trans j5)).tups _ _ e_d4
    have ed0 := w2.tups _ _ ed0
    have ed3 := w2.tups _ _ ed3
    have w1 := w1.trans w2
    clear e_d4 e_d5 z_d4 z_d5 j4 j5 ed6 w2

    refine ⟨by show 2 ≤ sizeLine; decide, fun d8 h_d8 => ?_⟩
    have z_d8 : Xn J5 (upd J5 d8 (.lst [.ref d3, .ref d7])) := Xt.new h_d8
    have e_d8 : upd J5 d8 (.lst [.ref d3, .ref d7]) d8 = some (.lst [.ref d3, .ref d7]) := upd_same
    generalize upd J5 d8 (.lst [.ref d3, .ref d7]) = G_d8 at z_d8 e_d8 ⊢
    have e_l35 := Xt.keep (w1.trans z_d8) l3 _ (fun z => z) (fun _ z => by cases z) e_l3
    have e_lo5 := Xt.keep (w1.trans z_d8) lo _ (fun z => z) (fun _ z => by cases z) e_lo4
    refine ⟨l3, d8, _, _, rfl, rfl, e_l35, e_d8, by rw [hx3]; show 5 + 2 ≤ sizeLine; decide, fun l3x h_l3x => ?_⟩
    skip
    have z_l3x : Xn G_d8 (upd G_d8 l3x (.lst (xs3 ++ [.ref d3, .ref d7]))) := Xt.new h_l3x
    have e_l3x : upd G_d8 l3x (.lst (xs3 ++ [.ref d3, .ref d7])) l3x = some (.lst (xs3 ++ [.ref d3, .ref d7])) := upd_same
    generalize upd G_d8 l3x (.lst (xs3 ++ [.ref d3, .ref d7])) = G_l3x at z_l3x e_l3x ⊢
    have e_lo6 := z_l3x.keep lo _ (fun z => z) (fun _ z => by cases z) e_lo5
    have nl3x : ¬ S3 row PL lo l3x := nS_of s3 ((y4.trans (w1.trans z_d8)).backN h_l3x) (ne_none e_lo5 h_l3x).symm
    have f3x : ∀ v ∈ xs3 ++ [.ref d3, .ref d7], Far (S3 row PL lo) (PB k 3) G_l3x v := by
      intro v hv
      rcases List.mem_append.mp hv with hv | hv
      · exact (f3 v hv).x (Xt.any (w1.trans (z_d8.trans z_l3x)))
      intro J z
      have zz : ∀ {a : Addr} {xs : List V}, J5 a = some (.tup xs) → J a = some (.tup xs) := fun h => z.tups _ _ (Xt.tups (z_d8.trans z_l3x) _ _ h)
      have h6' := ((h6.x y4).x w1).x (z_d8.trans z_l3x)
      simp only [List.mem_cons, List.not_mem_nil, or_false] at hv
      rcases hv with rfl | rfl
      · exact .inr ⟨d3, _, [0, 0], k.gps.drop 1, rfl, zz ed3, LX.rows_cons (zz ed0) (rows_drop (h6'.x z) 1), by rw [List.length_drop, ok.gpsN]; omega, ⟨List.cons_ne_nil _ _, by decide, .inr (by decide)⟩, fun i e' g' he hg => by rw [List.getElem?_drop, Nat.add_comm 1 i] at hg; exact ok.gps (i + 1) e' g' he hg⟩
      · exact .inr ⟨d7, _, [1, 0], k.gps.drop 1, rfl, zz ed7, LX.rows_cons (zz ed4) (rows_drop (h6'.x z) 1), by rw [List.length_drop, ok.gpsN]; omega, ⟨List.cons_ne_nil _ _, by decide, .inr (by decide)⟩, fun i e' g' he hg => by rw [List.getElem?_drop, Nat.add_comm 1 i] at hg; exact ok.gps (i + 1) e' g' he hg⟩
    refine ⟨_, rfl, lo, _, 3, 3, rfl, rfl, e_lo6, rfl, ?_⟩
    rw [show ([V.ref l0, V.ref l1, V.ref l2, V.ref l3] : List V).set 3 (V.ref l3x) = [V.ref l0, V.ref l1, V.ref l2, V.ref l3x] from rfl]
    have y5 : Xn H3 (upd G_l3x lo (.lst [.ref l0, .ref l1, .ref l2, .ref l3x])) := (y4.trans (w1.trans (z_d8.trans z_l3x))).young hlo0
    have o1 : Xt (At1 lo) G_l3x (upd G_l3x lo (.lst [.ref l0, .ref l1, .ref l2, .ref l3x])) := Xt.own rfl e_lo6
    have e_lo : upd G_l3x lo (.lst [.ref l0, .ref l1, .ref l2, .ref l3x]) lo = _ := upd_same
    generalize upd G_l3x lo (.lst [.ref l0, .ref l1, .ref l2, .ref l3x]) = G5 at y5 o1 e_lo ⊢
    have qq : Xt (S3 row PL lo) G4 G5 := (Xt.any (w1.trans (z_d8.trans z_l3x))).trans (o1.weak fun _ z => .inr (.inr z))
    have L0 := L0.x qq
    have L1 := L1.x qq
    have L2 := L2.x qq
    have L3 : Lot (S3 row PL lo) k 3 G5 l3x := ⟨⟨_, o1.keep l3x _ (fun z => nl3x (.inr (.inr z))) (fun _ z => by cases z) e_l3x, by rw [List.length_append, hx3]; show 1 ≤ 5 + 2; decide, by rw [List.length_append, hx3]; show 5 + 2 ≤ 1000; decide, fun v hv => (f3x v hv).x (o1.weak fun _ z => .inr (.inr z))⟩, nl3x⟩
    clear f3 f3x e_lo4 e_lo5 e_lo6 e_l3 e_l35 e_l3x e_d8 z_d8 z_l3x w1 o1 y4 qq ed0 ed3 ed4 nl3 nl3x hx3
    -- the book
    refine ⟨_, rfl, .inl ⟨rfl, _, SqL.of e_lo⟩, ?_⟩

    refine ⟨by show 0 ≤ sizeLine; decide, fun f0 h_f0 => ?_⟩
    have z_f0 : Xn G5 (upd G5 f0 (.lst [])) := Xt.new h_f0
    have e_f0 : upd G5 f0 (.lst []) f0 = some (.lst []) := upd_same
    generalize upd G5 f0 (.lst []) = G_f0 at z_f0 e_f0 ⊢
    refine ⟨by show 4 ≤ sizeLine; decide, fun f1 h_f1 => ?_⟩
    have z_f1 : Xn G_f0 (upd G_f0 f1 (.tup [.int 0, .int 1, .int 0, .int 1])) := Xt.new h_f1
    have e_f1 : upd G_f0 f1 (.tup [.int 0, .int 1, .int 0, .int 1]) f1 = some (.tup [.int 0, .int 1, .int 0, .int 1]) := upd_same
    generalize upd G_f0 f1 (.tup [.int 0, .int 1, .int 0, .int 1]) = G_f1 at z_f1 e_f1 ⊢
    refine ⟨by show 1 ≤ sizeLine; decide, fun f2 h_f2 => ?_⟩
    have z_f2 : Xn G_f1 (upd G_f1 f2 (.tup [.ref f1])) := Xt.new h_f2
    have e_f2 : upd G_f1 f2 (.tup [.ref f1]) f2 = some (.tup [.ref f1]) := upd_same
    generalize upd G_f1 f2 (.tup [.ref f1]) = G_f2 at z_f2 e_f2 ⊢
    refine ⟨by show 4 ≤ sizeLine; decide, fun f3 h_f3 => ?_⟩
    have z_f3 : Xn G_f2 (upd G_f2 f3 (.tup [.int 0, .int 0, .int 1, .int 1])) := Xt.new h_f3
    have e_f3 : upd G_f2 f3 (.tup [.int 0, .int 0, .int 1, .int 1]) f3 = some (.tup [.int 0, .int 0, .int 1, .int 1]) := upd_same
    generalize upd G_f2 f3 (.tup [.int 0, .int 0, .int 1, .int 1]) = G_f3 at z_f3 e_f3 ⊢
    refine ⟨by show 1 ≤ sizeLine; decide, fun f4 h_f4 => ?_⟩
    have z_f4 : Xn G_f3 (upd G_f3 f4 (.tup [.ref f3])) := Xt.new h_f4
    have e_f4 : upd G_f3 f4 (.tup [.ref f3]) f4 = some (.tup [.ref f3]) := upd_same
    generalize upd G_f3 f4 (.tup [.ref f3]) = G_f4 at z_f4 e_f4 ⊢
    refine ⟨by show 4 ≤ sizeLine; decide, fun f5 h_f5 => ?_⟩
    have z_f5 : Xn G_f4 (upd G_f4 f5 (.tup [.int 0, .int 9, .int 1, .int 1])) := Xt.new h_f5
    have e_f5 : upd G_f4 f5 (.tup [.int 0, .int 9, .int 1, .int 1]) f5 = some (.tup [.int 0, .int 9, .int 1, .int 1]) := upd_same
    generalize upd G_f4 f5 (.tup [.int 0, .int 9, .int 1, .int 1]) = G_f5 at z_f5 e_f5 ⊢
    refine ⟨by show 1 ≤ sizeLine; decide, fun f6 h_f6 => ?_⟩
    have z_f6 : Xn G_f5 (upd G_f5 f6 (.tup [.ref f5])) := Xt.new h_f6
    have e_f6 : upd G_f5 f6 (.tup [.ref f5]) f6 = some (.tup [.ref f5]) := upd_same
    generalize upd G_f5 f6 (.tup [.ref f5]) = G_f6 at z_f6 e_f6 ⊢
    refine ⟨_, rfl, by show 4 ≤ sizeLine; decide, fun f7 h_f7 => ?_⟩
    have z_f7 : Xn G_f6 (upd G_f6 f7 (.tup [.int 0, .int 1, .int (k.eds.length : Nat), .int 1])) := Xt.new h_f7
    have e_f7 : upd G_f6 f7 (.tup [.int 0, .int 1, .int (k.eds.length : Nat), .int 1]) f7 = some (.tup [.int 0, .int 1, .int (k.eds.length : Nat), .int 1]) := upd_same
    generalize upd G_f6 f7 (.tup [.int 0, .int 1, .int (k.eds.length : Nat), .int 1]) = G_f7 at z_f7 e_f7 ⊢
    refine ⟨by show 1 ≤ sizeLine; decide, fun f8 h_f8 => ?_⟩
    have z_f8 : Xn G_f7 (upd G_f7 f8 (.tup [.ref f7])) := Xt.new h_f8
    have e_f8 : upd G_f7 f8 (.tup [.ref f7]) f8 = some (.tup [.ref f7]) := upd_same
    generalize upd G_f7 f8 (.tup [.ref f7]) = G_f8 at z_f8 e_f8 ⊢
    refine ⟨by show 3 ≤ sizeLine; decide, fun f9 h_f9 => ?_⟩
    have z_f9 : Xn G_f8 (upd G_f8 f9 (.tup [.int 0, .int 1, .int 1])) := Xt.new h_f9
    have e_f9 : upd G_f8 f9 (.tup [.int 0, .int 1, .int 1]) f9 = some (.tup [.int 0, .int 1, .int 1]) := upd_same
    generalize upd G_f8 f9 (.tup [.int 0, .int 1, .int 1]) = G_f9 at z_f9 e_f9 ⊢
    refine ⟨by show 1 ≤ sizeLine; decide, fun fa h_fa => ?_⟩
    have z_fa : Xn G_f9 (upd G_f9 fa (.tup [.ref f9])) := Xt.new h_fa
    have e_fa : upd G_f9 fa (.tup [.ref f9]) fa = some (.tup [.ref f9]) := upd_same
    generalize upd G_f9 fa (.tup [.ref f9]) = G_fa at z_fa e_fa ⊢
    refine ⟨by show 7 ≤ sizeLine; decide, fun l4 h_l4 => ?_⟩
    have z_l4 : Xn G_fa (upd G_fa l4 (.lst [.non, .ref f0, .ref f2, .ref f4, .ref f6, .ref f8, .ref fa])) := Xt.new h_l4
    have e_l4 : upd G_fa l4 (.lst [.non, .ref f0, .ref f2, .ref f4, .ref f6, .ref f8, .ref fa]) l4 = some (.lst [.non, .ref f0, .ref f2, .ref f4, .ref f6, .ref f8, .ref fa]) := upd_same
    generalize upd G_fa l4 (.lst [.non, .ref f0, .ref f2, .ref f4, .ref f6, .ref f8, .ref fa]) = G_l4 at z_l4 e_l4 ⊢
    have nf0 : ¬ S3 row PL lo f0 := nS_of s3 (y5.backN h_f0) (ne_none e_lo h_f0).symm
    have e_lo2 := Xt.keep ((((((((((z_f0.trans z_f1).trans z_f2).trans z_f3).trans z_f4).trans z_f5).trans z_f6).trans z_f7).trans z_f8).trans z_f9).trans z_fa) lo _ (fun z => z) (fun _ z => by cases z) e_lo
    have nl4 : ¬ S3 row PL lo l4 := nS_of s3 ((y5.trans ((((((((((z_f0.trans z_f1).trans z_f2).trans z_f3).trans z_f4).trans z_f5).trans z_f6).trans z_f7).trans z_f8).trans z_f9).trans z_fa)).backN h_l4) (ne_none e_lo2 h_l4).symm
    have e_lo3 := z_l4.keep lo _ (fun z => z) (fun _ z => by cases z) e_lo2
    have ed4 : k.eds[(0 : Int).toNat]?.getD 0 ≤ 4 := by
      have := ok.eds (k.eds[(0 : Int).toNat]?.getD 0) (by rw [List.getElem?_eq_getElem (show (0 : Int).toNat < k.eds.length by show 0 < k.eds.length; omega)]; exact List.getElem_mem _)
      omega
    have f4f : ∀ v ∈ ([.non, .ref f0, .ref f2, .ref f4, .ref f6, .ref f8, .ref fa] : List V), Far (S3 row PL lo) (PB k 4) G_l4 v := by
      intro v hv J z
      have i0 : 0 ≤ (0 : Int) ∧ (0 : Int) ≤ (k.eds.length : Int) - 1 := by omega
      have i1 : 0 ≤ (1 : Int) ∧ (1 : Int) ≤ (k.eds.length : Int) - 1 := by omega
      simp only [List.mem_cons, List.not_mem_nil, or_false] at hv
      rcases hv with rfl | rfl | rfl | rfl | rfl | rfl | rfl
      · exact .inl ⟨.non, rfl⟩
      · exact .inl (noTup_lst (z.keep f0 _ nf0 (fun _ z => by cases z) (Xt.keep ((((((((((z_f1.trans z_f2).trans z_f3).trans z_f4).trans z_f5).trans z_f6).trans z_f7).trans z_f8).trans z_f9).trans z_fa).trans z_l4) f0 _ (fun z => z) (fun _ z => by cases z) e_f0)))
      · exact .inr ⟨f2, _, rfl, z.tups _ _ (((((((((z_f3.trans z_f4).trans z_f5).trans z_f6).trans z_f7).trans z_f8).trans z_f9).trans z_fa).trans z_l4).tups _ _ e_f2), .inr ⟨f1, _, _, _, _, rfl, z.tups _ _ ((((((((((z_f2.trans z_f3).trans z_f4).trans z_f5).trans z_f6).trans z_f7).trans z_f8).trans z_f9).trans z_fa).trans z_l4).tups _ _ e_f1), .int _, .inr ⟨0, rfl, i0, .inr ⟨i0, .inl rfl⟩⟩⟩⟩
      · exact .inr ⟨f4, _, rfl, z.tups _ _ (((((((z_f5.trans z_f6).trans z_f7).trans z_f8).trans z_f9).trans z_fa).trans z_l4).tups _ _ e_f4), .inr ⟨f3, _, _, _, _, rfl, z.tups _ _ ((((((((z_f4.trans z_f5).trans z_f6).trans z_f7).trans z_f8).trans z_f9).trans z_fa).trans z_l4).tups _ _ e_f3), .int _, .inr ⟨0, rfl, i0, .inr ⟨i1, .inr ⟨by decide, by omega⟩⟩⟩⟩⟩
      · exact .inr ⟨f6, _, rfl, z.tups _ _ (((((z_f7.trans z_f8).trans z_f9).trans z_fa).trans z_l4).tups _ _ e_f6), .inr ⟨f5, _, _, _, _, rfl, z.tups _ _ ((((((z_f6.trans z_f7).trans z_f8).trans z_f9).trans z_fa).trans z_l4).tups _ _ e_f5), .int _, .inr ⟨0, rfl, i0, .inr ⟨i1, .inr ⟨by decide, by omega⟩⟩⟩⟩⟩
      · exact .inr ⟨f8, _, rfl, z.tups _ _ (((z_f9.trans z_fa).trans z_l4).tups _ _ e_f8), .inr ⟨f7, _, _, _, _, rfl, z.tups _ _ ((((z_f8.trans z_f9).trans z_fa).trans z_l4).tups _ _ e_f7), .int _, .inr ⟨0, rfl, i0, .inl (by omega)⟩⟩⟩
      · exact .inr ⟨fa, _, rfl, z.tups _ _ (z_l4.tups _ _ e_fa), .inl (notTup_of (z.tups _ _ ((z_fa.trans z_l4).tups _ _ e_f9)) (by decide))⟩
    have c1 : Xn G5 G_l4 := (((((((((((z_f0.trans z_f1).trans z_f2).trans z_f3).trans z_f4).trans z_f5).trans z_f6).trans z_f7).trans z_f8).trans z_f9).trans z_fa).trans z_l4)
    clear e_f0 e_f1 e_f2 e_f3 e_f4 e_f5 e_f6 e_f7 e_f8 e_f9 e_fa z_f0 z_f1 z_f2 z_f3 z_f4 z_f5 z_f6 z_f7 z_f8 z_f9 z_fa z_l4 nf0 e_lo2 ed4
    refine ⟨lo, _, _, rfl, rfl, e_lo3, by show 4 < sizeLine; decide, ?_⟩
    have o1 : Xt (At1 lo) G_l4 (upd G_l4 lo (.lst ([.ref l0, .ref l1, .ref l2, .ref l3x] ++ [.ref l4]))) := Xt.own rfl e_lo3
    have y6 : Xn H3 (upd G_l4 lo (.lst ([.ref l0, .ref l1, .ref l2, .ref l3x] ++ [.ref l4]))) := (y5.trans c1).young hlo0
    have e_lo6 : upd G_l4 lo (.lst ([.ref l0, .ref l1, .ref l2, .ref l3x] ++ [.ref l4])) lo = some (.lst [.ref l0, .ref l1, .ref l2, .ref l3x, .ref l4]) := upd_same
    generalize upd G_l4 lo (.lst ([.ref l0, .ref l1, .ref l2, .ref l3x] ++ [.ref l4])) = G6 at o1 e_lo6 y6 ⊢
    have qq : Xt (S3 row PL lo) G5 G6 := (Xt.any c1).trans (o1.weak fun _ z => .inr (.inr z))
    have L0 := L0.x qq
    have L1 := L1.x qq
    have L2 := L2.x qq
    have L3 := L3.x qq
    have f4f : ∀ v ∈ ([.non, .ref f0, .ref f2, .ref f4, .ref f6, .ref f8, .ref fa] : List V), Far (S3 row PL lo) (PB k 4) G6 v := fun v hv => (f4f v hv).x (o1.weak fun _ z => .inr (.inr z))
    have e_l4 := o1.keep l4 _ (fun z => nl4 (.inr (.inr z))) (fun _ z => by cases z) e_l4
    clear e_lo e_lo3 y5 qq o1 c1
    obtain ⟨xs4, exs4⟩ : ∃ xs4, ([.non, .ref f0, .ref f2, .ref f4, .ref f6, .ref f8, .ref fa] : List V) = xs4 := ⟨_, rfl⟩
    have hx4 : xs4.length = 7 := by rw [← exs4]; rfl
    rw [exs4] at f4f e_l4
    clear exs4
    -- entries that are none
    refine ⟨_, rfl, rixLC 4 e_lo6 rfl rfl ?_⟩

    refine ⟨by show 4 ≤ sizeLine; decide, fun g0 h_g0 => ?_⟩
    have z_g0 : Xn G6 (upd G6 g0 (.tup [.bl true, .int 1, .int 0, .int 1])) := Xt.new h_g0
    have e_g0 : upd G6 g0 (.tup [.bl true, .int 1, .int 0, .int 1]) g0 = some (.tup [.bl true, .int 1, .int 0, .int 1]) := upd_same
    generalize upd G6 g0 (.tup [.bl true, .int 1, .int 0, .int 1]) = G_g0 at z_g0 e_g0 ⊢
    refine ⟨by show 1 ≤ sizeLine; decide, fun g1 h_g1 => ?_⟩
    have z_g1 : Xn G_g0 (upd G_g0 g1 (.tup [.ref g0])) := Xt.new h_g1
    have e_g1 : upd G_g0 g1 (.tup [.ref g0]) g1 = some (.tup [.ref g0]) := upd_same
    generalize upd G_g0 g1 (.tup [.ref g0]) = G_g1 at z_g1 e_g1 ⊢
    refine ⟨by show 1 ≤ sizeLine; decide, fun g2 h_g2 => ?_⟩
    have z_g2 : Xn G_g1 (upd G_g1 g2 (.tup [.non])) := Xt.new h_g2
    have e_g2 : upd G_g1 g2 (.tup [.non]) g2 = some (.tup [.non]) := upd_same
    generalize upd G_g1 g2 (.tup [.non]) = G_g2 at z_g2 e_g2 ⊢
    refine ⟨by show 2 ≤ sizeLine; decide, fun g3 h_g3 => ?_⟩
    have z_g3 : Xn G_g2 (upd G_g2 g3 (.lst [.ref g1, .ref g2])) := Xt.new h_g3
    have e_g3 : upd G_g2 g3 (.lst [.ref g1, .ref g2]) g3 = some (.lst [.ref g1, .ref g2]) := upd_same
    generalize upd G_g2 g3 (.lst [.ref g1, .ref g2]) = G_g3 at z_g3 e_g3 ⊢
    have e_l46 := Xt.keep (((z_g0.trans z_g1).trans z_g2).trans z_g3) l4 _ (fun z => z) (fun _ z => by cases z) e_l4
    have e_lo7 := Xt.keep (((z_g0.trans z_g1).trans z_g2).trans z_g3) lo _ (fun z => z) (fun _ z => by cases z) e_lo6
    refine ⟨l4, g3, _, _, rfl, rfl, e_l46, e_g3, by rw [hx4]; show 7 + 2 ≤ sizeLine; decide, fun l4x h_l4x => ?_⟩
    have nl4x : ¬ S3 row PL lo l4x := nS_of s3 ((y6.trans (((z_g0.trans z_g1).trans z_g2).trans z_g3)).backN h_l4x) (ne_none e_lo7 h_l4x).symm
    skip
    have z_l4x : Xn G_g3 (upd G_g3 l4x (.lst (xs4 ++ [.ref g1, .ref g2]))) := Xt.new h_l4x
    have e_l4x : upd G_g3 l4x (.lst (xs4 ++ [.ref g1, .ref g2])) l4x = some (.lst (xs4 ++ [.ref g1, .ref g2])) := upd_same
    generalize upd G_g3 l4x (.lst (xs4 ++ [.ref g1, .ref g2])) = G_l4x at z_l4x e_l4x ⊢
    have e_lo8 := z_l4x.keep lo _ (fun z => z) (fun _ z => by cases z) e_lo7
    have f4x : ∀ v ∈ xs4 ++ [.ref g1, .ref g2], Far (S3 row PL lo) (PB k 4) G_l4x v := by
      intro v hv
      rcases List.mem_append.mp hv with hv | hv
      · exact (f4f v hv).x (Xt.any ((((z_g0.trans z_g1).trans z_g2).trans z_g3).trans z_l4x))
      intro J z
      simp only [List.mem_cons, List.not_mem_nil, or_false] at hv
      rcases hv with rfl | rfl
      · exact .inr ⟨g1, _, rfl, z.tups _ _ (((z_g2.trans z_g3).trans z_l4x).tups _ _ e_g1), .inr ⟨g0, _, _, _, _, rfl, z.tups _ _ ((((z_g1.trans z_g2).trans z_g3).trans z_l4x).tups _ _ e_g0), .bl _, .inl rfl⟩⟩
      · exact .inr ⟨g2, _, rfl, z.tups _ _ ((z_g3.trans z_l4x).tups _ _ e_g2), .inl ⟨.non, fun xs e => nomatch e⟩⟩
    refine ⟨_, rfl, lo, _, 4, 4, rfl, rfl, e_lo8, rfl, ?_⟩
    rw [show ([V.ref l0, V.ref l1, V.ref l2, V.ref l3x, V.ref l4] : List V).set 4 (V.ref l4x) = [V.ref l0, V.ref l1, V.ref l2, V.ref l3x, V.ref l4x] from rfl]
    have y7 : Xn H3 (upd G_l4x lo (.lst [.ref l0, .ref l1, .ref l2, .ref l3x, .ref l4x])) := (y6.trans ((((z_g0.trans z_g1).trans z_g2).trans z_g3).trans z_l4x)).young hlo0
    have o1 : Xt (At1 lo) G_l4x (upd G_l4x lo (.lst [.ref l0, .ref l1, .ref l2, .ref l3x, .ref l4x])) := Xt.own rfl e_lo8
    have e_lo : upd G_l4x lo (.lst [.ref l0, .ref l1, .ref l2, .ref l3x, .ref l4x]) lo = _ := upd_same
    generalize upd G_l4x lo (.lst [.ref l0, .ref l1, .ref l2, .ref l3x, .ref l4x]) = G7 at y7 o1 e_lo ⊢
    have qq : Xt (S3 row PL lo) G6 G7 := (Xt.any ((((z_g0.trans z_g1).trans z_g2).trans z_g3).trans z_l4x)).trans (o1.weak fun _ z => .inr (.inr z))
    have L0 := L0.x qq
    have L1 := L1.x qq
    have L2 := L2.x qq
    have L3 := L3.x qq
    have L4 : Lot (S3 row PL lo) k 4 G7 l4x := ⟨⟨_, o1.keep l4x _ (fun z => nl4x (.inr (.inr z))) (fun _ z => by cases z) e_l4x, by rw [List.length_append, hx4]; show 1 ≤ 7 + 2; decide, by rw [List.length_append, hx4]; show 7 + 2 ≤ 1000; decide, fun v hv => (f4x v hv).x (o1.weak fun _ z => .inr (.inr z))⟩, nl4x⟩
    clear f4f f4x e_lo6 e_lo7 e_lo8 e_l4 e_l46 e_l4x e_g0 e_g1 e_g2 e_g3 z_g0 z_g1 z_g2 z_g3 z_l4x o1 y6 qq nl4 nl4x hx4
    -- the words, a place

    refine ⟨by show 5 ≤ sizeLine; decide, fun wo h_wo => ?_⟩
    have z_wo : Xn G7 (upd G7 wo (.lst [.str "period", .str "editions", .str "touches", .str "gaps", .str "book"])) := Xt.new h_wo
    have e_wo : upd G7 wo (.lst [.str "period", .str "editions", .str "touches", .str "gaps", .str "book"]) wo = some (.lst [.str "period", .str "editions", .str "touches", .str "gaps", .str "book"]) := upd_same
    generalize upd G7 wo (.lst [.str "period", .str "editions", .str "touches", .str "gaps", .str "book"]) = G_wo at z_wo e_wo ⊢
    have y8 := y7.trans z_wo
    have s8 := s3.xn nPL y8
    refine ⟨_, rfl, row, scr, ns, 6, rfl, s8.r, by decide, by decide, fun H5 at' a0 a1 x5 hR5 => ?_⟩
    have s9 := s8.drawn nPL x5 hR5
    obtain ⟨a, rfl⟩ : ∃ a : Nat, at' = (a : Int) := ⟨at'.toNat, by omega⟩
    have x59 : Xt (S3 row PL lo) G7 H5 := (Xt.any z_wo).trans (x5.weak fun _ z => .inl z)
    have L0 := L0.x x59
    have L1 := L1.x x59
    have L2 := L2.x x59
    have L3 := L3.x x59
    have L4 := L4.x x59
    have x35 : Xt (At1 row) H3 H5 := y8.any.trans x5
    have h1 := x35.tups _ _ h1
    have h2 := x35.tups _ _ h2
    have h3 := x35.tups _ _ h3
    have h4 := h4.x x35
    have h5 := x35.tups _ _ h5
    have h6 := h6.x x35
    have h7 := x35.tups _ _ h7
    have h8 := h8.x x35
    have hC5 := hC.x x35
    have nlo : lo ≠ row := s3.r.nn hlo0
    have nwo : wo ≠ row := s3.r.nn (y7.backN h_wo)
    have e_lo5 := x5.keep lo _ nlo (fun _ z => by cases z) (z_wo.keep lo _ (fun z => z) (fun _ z => by cases z) e_lo)
    have e_wo5 := x5.keep wo _ nwo (fun _ z => by cases z) e_wo
    clear x59 x35 e_lo e_wo z_wo y7 y8 s8 s3 x5 hR5 hC hlo0
    -- the bent clock, the word
    refine ⟨fun σ' H' => ∃ (bv : V) (z : Str), σ' = [some (.ref scr), some (.ref row), some (.ref ca), some (.ref lo), some (.ref wo), some (.int a), none, none, none, some (.int k.per), some (.int (k.eds.length : Nat)), some bv, some (.str z), none] ∧ LX.Sta K Ts PL q_works H' row scr ns ∧ ClkAt H' (.ref ca) k ∧ Far (LX.RP row PL) (fun H v => BadCk H v z) H' bv ∧ PyData.strOk z = true, ?_, ?_⟩
    rotate_left
    · clear L0 L1 L2 L3 L4 e_lo5 e_wo5 h1 h2 h3 h4 h5 h6 h7 h8 hC5 s9
      rintro σ' H6 ⟨bv, z, rfl, c13, hC13, hfp, hz⟩
      -- refused for the clock's part
      refine ⟨_, rfl, _, _, _, _, rfl, c13.l, fun Ga L f0 f1 f2 f3 f4 f5 xw hL0 e_L lw l0 l1 l2 l3 l4 l5 => ?_⟩
      have c14 := c13.works xw lw
      have hN : BadCk Ga bv z := hfp Ga (xw.weak fun _ z => .inr z)
      have hB : BadClk Ga [bv] "BadClock" (some (("part" : Str), V.str z)) := ⟨_, _, rfl, hN, rfl, rfl⟩
      have rf_f0 := rf_exchanges R_exchanges l0 c14.t hB
      have rf_f1 := rf_earliest R_earliest l1 c14.t hB
      have rf_f2 := rf_ring R_ring l2 c14.t hB
      have rf_f3 := rf_is_ring R_is_ring l3 c14.t ⟨_, _, rfl, hB⟩
      have rf_f4 := rf_touching R_touching l4 c14.t ⟨_, _, rfl, .inl hB⟩
      have rf_f5 := rf_needed R_needed l5 c14.t ⟨_, _, _, _, rfl, .inl hB⟩
      have hC14 := hC13.x xw

      refine ⟨L, rfl, ⟨_, SqL.of e_L⟩, fun D hD => ?_⟩
      refine lc_list (xs := [.ref f0, .ref f1, .ref f2, .ref f3, .ref f4, .ref f5]) (fun i G => Xn Ga G ∧ G L = some (.lst [.ref f0, .ref f1, .ref f2, .ref f3, .ref f4, .ref f5]) ∧ ∃ acc, G D = some (.lst acc) ∧ acc.length = i ∧ Ats G (List.replicate i (LC.D.tup [.str "clock", .str z])) acc) ⟨Xt.new hD, upd_old e_L hD, [], upd_same, rfl, Ats.nil⟩ (fun i G _ hp => SqL.of hp.2.1) (fun i x G ex hp => ?_) (fun G hp => ?_)
      · obtain ⟨hx, hl, acc, hacc, hal, hat⟩ := hp
        have hi : i < 6 := (List.getElem?_eq_some_iff.mp ex).1
        obtain ⟨fx, rfl, hf⟩ : ∃ fx, x = .ref fx ∧ LX.Refuses P w K mg base ad 11 fx Ga _ _ := (match i, ex with | 0, ex => by cases ex; exact ⟨_, rfl, rf_f0⟩ | 1, ex => by cases ex; exact ⟨_, rfl, rf_f1⟩ | 2, ex => by cases ex; exact ⟨_, rfl, rf_f2⟩ | 3, ex => by cases ex; exact ⟨_, rfl, rf_f3⟩ | 4, ex => by cases ex; exact ⟨_, rfl, rf_f4⟩ | 5, ex => by cases ex; exact ⟨_, rfl, rf_f5⟩ | i + 6, ex => absurd ex (by simp))
        refine ⟨rfl, yes_of ⟨_, rfl, fx, _, _, (LC.D.tup [.str "clock", .str z]), rfl, hf.mv hx, .inl ⟨rfl, _, .str z, rfl, (fun _ => by unfold At; rfl), rfl⟩, fun G2 v y hv => ?_⟩⟩
        have hD2 := y.keep D _ (fun z => z) (fun _ z => by cases z) hacc
        have hl2 := y.keep L _ (fun z => z) (fun _ z => by cases z) hl
        refine ⟨acc, hD2, sz_lt (by omega), (hx.trans y).young hD, (upd_ne (ne_of_none e_L hD)).trans hl2, acc ++ [v], upd_same, by rw [List.length_append, hal]; rfl, ?_⟩
        rw [List.replicate_succ']
        have own : Xt (At1 D) G2 (upd G2 D (.lst (acc ++ [v]))) := Xt.own rfl hD2
        exact Ats.x own (fixs_all fun e he => by rw [← List.replicate_succ'] at he; rw [(List.mem_replicate.mp he).2]; rfl) ((Ats.x y (fixs_all fun e he => by rw [(List.mem_replicate.mp he).2]; rfl) hat).snoc hv)
      obtain ⟨yD, _, acc, hacc, _, aD⟩ := hp

      refine ⟨_, rfl, by show 2 ≤ sizeLine; decide, fun pc h_pc => ?_⟩
      have z_pc : Xn G (upd G pc (.tup [.str "clock", .str z])) := Xt.new h_pc
      have e_pc : upd G pc (.tup [.str "clock", .str z]) pc = some (.tup [.str "clock", .str z]) := upd_same
      generalize upd G pc (.tup [.str "clock", .str z]) = G_pc at z_pc e_pc ⊢
      refine ⟨by show 1 ≤ sizeLine; decide, fun lc h_lc => ?_⟩
      have z_lc : Xn G_pc (upd G_pc lc (.lst [.ref pc])) := Xt.new h_lc
      have e_lc : upd G_pc lc (.lst [.ref pc]) lc = some (.lst [.ref pc]) := upd_same
      generalize upd G_pc lc (.lst [.ref pc]) = G_lc at z_lc e_lc ⊢
      refine ⟨lc, 6, _, rfl, rfl, e_lc, by decide, by decide, by show 1 * 6 ≤ sizeLine; decide, fun lr h_lr => ?_⟩
      have z_lr : Xn G_lc (upd G_lc lr (.lst (List.replicate (6 : Int).toNat [.ref pc]).flatten)) := Xt.new h_lr
      have e_lr : upd G_lc lr (.lst (List.replicate (6 : Int).toNat [.ref pc]).flatten) lr = some (.lst (List.replicate (6 : Int).toNat [.ref pc]).flatten) := upd_same
      generalize upd G_lc lr (.lst (List.replicate (6 : Int).toNat [.ref pc]).flatten) = G_lr at z_lr e_lr ⊢
      refine LX.ne_same (.lst (List.replicate 6 (LC.D.tup [.str "clock", .str z]))) (at_lst.mpr ⟨D, acc, rfl, ((z_pc.trans z_lc).trans z_lr).keep D _ (fun z => z) (fun _ z => by cases z) hacc, Ats.x ((z_pc.trans z_lc).trans z_lr) (fixs_all fun e he => by rw [(List.mem_replicate.mp he).2]; rfl) aD⟩) (at_lst.mpr ⟨lr, _, rfl, e_lr, (Ats.cons (at_tup.mpr ⟨pc, _, rfl, ((z_lc.trans z_lr).tups _ _ e_pc), Ats.cons (by unfold At; rfl) (Ats.cons (by unfold At; rfl) Ats.nil)⟩) (Ats.cons (at_tup.mpr ⟨pc, _, rfl, ((z_lc.trans z_lr).tups _ _ e_pc), Ats.cons (by unfold At; rfl) (Ats.cons (by unfold At; rfl) Ats.nil)⟩) (Ats.cons (at_tup.mpr ⟨pc, _, rfl, ((z_lc.trans z_lr).tups _ _ e_pc), Ats.cons (by unfold At; rfl) (Ats.cons (by unfold At; rfl) Ats.nil)⟩) (Ats.cons (at_tup.mpr ⟨pc, _, rfl, ((z_lc.trans z_lr).tups _ _ e_pc), Ats.cons (by unfold At; rfl) (Ats.cons (by unfold At; rfl) Ats.nil)⟩) (Ats.cons (at_tup.mpr ⟨pc, _, rfl, ((z_lc.trans z_lr).tups _ _ e_pc), Ats.cons (by unfold At; rfl) (Ats.cons (by unfold At; rfl) Ats.nil)⟩) (Ats.cons (at_tup.mpr ⟨pc, _, rfl, ((z_lc.trans z_lr).tups _ _ e_pc), Ats.cons (by unfold At; rfl) (Ats.cons (by unfold At; rfl) Ats.nil)⟩) Ats.nil))))))⟩) (cw hz).s6 (cw hz).e6 ⟨_, rfl, iteF ?_⟩
      have c15 := c14.xn nPL (yD.trans ((z_pc.trans z_lc).trans z_lr))
      have hC15 := hC14.x (yD.trans ((z_pc.trans z_lc).trans z_lr))
      clear c13 c14 hC13 hC14 hfp hN hB xw hL0 lw l0 l1 l2 l3 l4 l5 rf_f0 rf_f1 rf_f2 rf_f3 rf_f4 rf_f5 yD
      -- ticks that are none
      refine ⟨_, rfl, _, _, rfl, rfl, _, _, rfl, rfl, ⟨by decide, by decide, by decide⟩, _, _, rfl, rfl, ?_⟩

      refine ⟨by show 1 ≤ sizeLine; decide, fun k1 h_k1 => ?_⟩
      have z_k1 : Xn G_lr (upd G_lr k1 (.tup [.int 1])) := Xt.new h_k1
      have e_k1 : upd G_lr k1 (.tup [.int 1]) k1 = some (.tup [.int 1]) := upd_same
      generalize upd G_lr k1 (.tup [.int 1]) = G_k1 at z_k1 e_k1 ⊢
      refine ⟨by show 6 ≤ sizeLine; decide, fun kl h_kl => ?_⟩
      have z_kl : Xn G_k1 (upd G_k1 kl (.lst [.non, .bl true, .int (0 - 1), .int ((10 : Int) ^ (30 : Int).toNat + 1), .str "1", .ref k1])) := Xt.new h_kl
      have e_kl : upd G_k1 kl (.lst [.non, .bl true, .int (0 - 1), .int ((10 : Int) ^ (30 : Int).toNat + 1), .str "1", .ref k1]) kl = some (.lst [.non, .bl true, .int (0 - 1), .int ((10 : Int) ^ (30 : Int).toNat + 1), .str "1", .ref k1]) := upd_same
      generalize upd G_k1 kl (.lst [.non, .bl true, .int (0 - 1), .int ((10 : Int) ^ (30 : Int).toNat + 1), .str "1", .ref k1]) = G_kl at z_kl e_kl ⊢
      have c18 := c15.xn nPL z_k1
      refine ⟨row, scr, kl, ns, _, rfl, (c18.xn nPL z_kl).r, e_kl, c18.r.nn h_kl, by show 1 ≤ 6; decide, by show 6 ≤ 1000; decide, fun Hq ix tk htk xq hRq => ?_⟩
      have c19 := (c18.xn nPL z_kl).drawn nPL xq hRq
      have hC19 := (hC15.x (z_k1.trans z_kl)).x xq
      obtain ⟨hbt, hbk⟩ : LX.ShpT Hq tk ∧ btw tk 0 1000000000000000000000000000000 = false := by
        match ix, htk with
        | 0, h => cases h; exact ⟨.non, rfl⟩
        | 1, h => cases h; exact ⟨.bl _, rfl⟩
        | 2, h => cases h; exact ⟨.int _, by decide⟩
        | 3, h => cases h; exact ⟨.int _, by rw [e30]; decide⟩
        | 4, h => cases h; exact ⟨.str _, rfl⟩
        | 5, h => cases h; exact ⟨.tup (xq.tups _ _ (z_kl.tups _ _ e_k1)), rfl⟩
        | n + 6, h => exact absurd h (by simp)
      clear c15 c18 hC15 xq hRq
      refine ⟨_, rfl, _, rfl, _, _, _, _, rfl, c19.l, fun Ga L f0 f1 f2 f3 f4 f5 xw hL0 e_L0 lw l0 l1 l2 l3 l4 l5 => ?_⟩
      have c20 := c19.works xw lw
      have hC20 := hC19.x xw
      refine rixL 4 (SqL.of e_L0) rfl rfl ?_
      refine ⟨f4, _, _, (LC.D.str "tick"), rfl, rf_touching R_touching l4 c20.t ⟨_, _, rfl, .inr ⟨k, hC20, ok, ⟨(hbt.x xw).shp, hbk⟩, rfl, rfl⟩⟩, .inr (.inr (.inr ⟨rfl, rfl, rfl⟩)), fun Gc v9 yy hv => ?_⟩
      obtain rfl : v9 = .str "tick" := by unfold At at hv; exact hv
      refine ⟨rfl, _, rfl, LX.itF (by decide) ?_⟩
      have c21 := c20.xn nPL yy
      have hC21 := hC20.x yy
      clear c19 c20 hC19 hC20 xw hL0 e_L0 lw l0 l1 l2 l3 l4 l5 yy hv hbt hbk
      -- wheels that are none
      refine ⟨_, rfl, _, _, rfl, rfl, _, rfl, ?_⟩

      refine ⟨by show 1 ≤ sizeLine; decide, fun k2 h_k2 => ?_⟩
      have z_k2 : Xn Gc (upd Gc k2 (.tup [.int 0])) := Xt.new h_k2
      have e_k2 : upd Gc k2 (.tup [.int 0]) k2 = some (.tup [.int 0]) := upd_same
      generalize upd Gc k2 (.tup [.int 0]) = G_k2 at z_k2 e_k2 ⊢
      refine ⟨by show 6 ≤ sizeLine; decide, fun kw h_kw => ?_⟩
      have z_kw : Xn G_k2 (upd G_k2 kw (.lst [.non, .bl true, .int (0 - 1), .int (k.eds.length : Nat), .str "0", .ref k2])) := Xt.new h_kw
      have e_kw : upd G_k2 kw (.lst [.non, .bl true, .int (0 - 1), .int (k.eds.length : Nat), .str "0", .ref k2]) kw = some (.lst [.non, .bl true, .int (0 - 1), .int (k.eds.length : Nat), .str "0", .ref k2]) := upd_same
      generalize upd G_k2 kw (.lst [.non, .bl true, .int (0 - 1), .int (k.eds.length : Nat), .str "0", .ref k2]) = G_kw at z_kw e_kw ⊢
      have c22 := c21.xn nPL z_k2
      refine ⟨row, scr, kw, ns, _, rfl, (c22.xn nPL z_kw).r, e_kw, c22.r.nn h_kw, by show 1 ≤ 6; decide, by show 6 ≤ 1000; decide, fun Hr ix wr hwr xr hRr => ?_⟩
      have c23 := (c22.xn nPL z_kw).drawn nPL xr hRr
      have hC23 := (hC21.x (z_k2.trans z_kw)).x xr
      obtain ⟨hws, hwb⟩ : LX.ShpT Hr wr ∧ btw wr 0 ((k.eds.length : Int) - 1) = false := by
        match ix, hwr with
        | 0, h => cases h; exact ⟨.non, rfl⟩
        | 1, h => cases h; exact ⟨.bl _, rfl⟩
        | 2, h => cases h; exact ⟨.int _, btw_out (by omega)⟩
        | 3, h => cases h; exact ⟨.int _, btw_out (by omega)⟩
        | 4, h => cases h; exact ⟨.str _, rfl⟩
        | 5, h => cases h; exact ⟨.tup (xr.tups _ _ (z_kw.tups _ _ e_k2)), rfl⟩
        | n + 6, h => exact absurd h (by simp)
      clear c21 c22 hC21 xr hRr
      refine ⟨_, rfl, _, rfl, _, _, _, _, rfl, c23.l, fun Ga L f0 f1 f2 f3 f4 f5 xw hL0 e_L0 lw l0 l1 l2 l3 l4 l5 => ?_⟩
      have c24 := c23.works xw lw
      have hC24 := hC23.x xw
      have hws := hws.x xw
      refine rixL 5 (SqL.of e_L0) rfl rfl ?_
      refine ⟨f5, _, _, (LC.D.str "wheel"), rfl, rf_needed R_needed l5 c24.t ⟨_, _, _, _, rfl, .inr ⟨k, hC24, ok, .inl ⟨hws.shp, hwb, rfl, rfl⟩⟩⟩, .inr (.inl ⟨rfl, rfl, rfl⟩), fun Gd v9 yy hv => ?_⟩
      obtain rfl : v9 = .str "wheel" := by unfold At at hv; exact hv
      refine ⟨rfl, _, rfl, LX.itF (by decide) ?_⟩
      have c25 := c24.xn nPL yy
      have hC25 := hC24.x yy
      have hws := hws.x yy
      clear c23 c24 hC23 hC24 xw hL0 e_L0 lw l0 l1 l2 l3 l4 l5 yy hv
      -- editions that are none
      obtain ⟨⟨ca', e', t', g', b', rt', rg', rb', ec, h1, h2, _⟩⟩ := id hC25
      cases ec
      have ei : k.eds[0]? = some (k.eds[(0 : Int).toNat]?.getD 0) := by
        show k.eds[0]? = some (k.eds[0]?.getD 0)
        rw [List.getElem?_eq_getElem (by omega : 0 < k.eds.length)]; rfl
      have e0 : 0 ≤ k.eds[(0 : Int).toNat]?.getD 0 := (ok.eds _ (List.mem_of_getElem? ei)).1
      refine ⟨_, rfl, _, _, rfl, rfl, _, rfl, rixV 1 h1 rfl rfl (rixC 0 h2 rfl ei ⟨_, _, rfl, rfl, ?_⟩)⟩

      refine ⟨by show 5 ≤ sizeLine; decide, fun ke h_ke => ?_⟩
      have z_ke : Xn Gd (upd Gd ke (.lst [.non, .bl true, .int (0 - 1), .int (k.eds[(0 : Int).toNat]?.getD 0 + 1), .str "0"])) := Xt.new h_ke
      have e_ke : upd Gd ke (.lst [.non, .bl true, .int (0 - 1), .int (k.eds[(0 : Int).toNat]?.getD 0 + 1), .str "0"]) ke = some (.lst [.non, .bl true, .int (0 - 1), .int (k.eds[(0 : Int).toNat]?.getD 0 + 1), .str "0"]) := upd_same
      generalize upd Gd ke (.lst [.non, .bl true, .int (0 - 1), .int (k.eds[(0 : Int).toNat]?.getD 0 + 1), .str "0"]) = G_ke at z_ke e_ke ⊢
      refine ⟨row, scr, ke, ns, _, rfl, (c25.xn nPL z_ke).r, e_ke, c25.r.nn h_ke, by show 1 ≤ 5; decide, by show 5 ≤ 1000; decide, fun Hr ix er her xr hRr => ?_⟩
      have c26 := (c25.xn nPL z_ke).drawn nPL xr hRr
      have hC26 := (hC25.x z_ke).x xr
      have hws := (hws.x z_ke).x xr
      obtain ⟨hes, heb⟩ : (∀ H : Hp, LX.Shp H er) ∧ btw er 0 (k.eds[(0 : Int).toNat]?.getD 0) = false := by
        match ix, her with
        | 0, h => cases h; exact ⟨fun _ => .non, rfl⟩
        | 1, h => cases h; exact ⟨fun _ => .bl _, rfl⟩
        | 2, h => cases h; exact ⟨fun _ => .int _, btw_out (by omega)⟩
        | 3, h => cases h; exact ⟨fun _ => .int _, btw_out (by omega)⟩
        | 4, h => cases h; exact ⟨fun _ => .str _, rfl⟩
        | n + 5, h => exact absurd h (by simp)
      clear c25 hC25 h1 h2 xr hRr
      refine ⟨_, rfl, _, rfl, _, _, _, _, rfl, c26.l, fun Ga L f0 f1 f2 f3 f4 f5 xw hL0 e_L0 lw l0 l1 l2 l3 l4 l5 => ?_⟩
      have c27 := c26.works xw lw
      have hC27 := hC26.x xw
      have hws := hws.x xw
      refine rixL 5 (SqL.of e_L0) rfl rfl ?_
      refine ⟨f5, _, _, (LC.D.str "edition"), rfl, rf_needed R_needed l5 c27.t ⟨_, _, _, _, rfl, .inr ⟨k, hC27, ok, .inr ⟨0, rfl, Int.le_refl _, by omega, .inl ⟨hes _, heb, rfl, rfl⟩⟩⟩⟩, .inr (.inr (.inl ⟨rfl, rfl, rfl⟩)), fun Ge v9 yy hv => ?_⟩
      obtain rfl : v9 = .str "edition" := by unfold At at hv; exact hv
      refine ⟨rfl, _, rfl, LX.itF (by decide) ?_⟩
      have c28 := c27.xn nPL yy
      have hC28 := hC27.x yy
      have hws := hws.x yy
      clear c26 c27 hC26 hC27 xw hL0 e_L0 lw l0 l1 l2 l3 l4 l5 yy hv hes heb
      -- another wheel, or the same
      refine ⟨_, rfl, _, rfl, _, rfl, ?_⟩

      refine ⟨by show 2 ≤ sizeLine; decide, fun ko h_ko => ?_⟩
      have z_ko : Xn Ge (upd Ge ko (.lst [wr, .int 0])) := Xt.new h_ko
      have e_ko : upd Ge ko (.lst [wr, .int 0]) ko = some (.lst [wr, .int 0]) := upd_same
      generalize upd Ge ko (.lst [wr, .int 0]) = G_ko at z_ko e_ko ⊢
      refine ⟨row, scr, ko, ns, _, rfl, (c28.xn nPL z_ko).r, e_ko, c28.r.nn h_ko, by show 1 ≤ 2; decide, by show 2 ≤ 1000; decide, fun Hs ix ot hot xs hRs => ?_⟩
      have c29 := (c28.xn nPL z_ko).drawn nPL xs hRs
      have hC29 := (hC28.x z_ko).x xs
      have hws := (hws.x z_ko).x xs
      have hot : ot = wr ∨ ot = .int 0 := by
        match ix, hot with
        | 0, h => cases h; exact .inl rfl
        | 1, h => cases h; exact .inr rfl
        | n + 2, h => exact absurd h (by simp)
      clear c28 hC28 xs hRs
      refine ⟨_, _, _, _, rfl, c29.l, fun Ga L f0 f1 f2 f3 f4 f5 xw hL0 e_L0 lw l0 l1 l2 l3 l4 l5 => ?_⟩
      have c30 := c29.works xw lw
      have hC30 := hC29.x xw
      have hws := hws.x xw
      refine rixL 5 (SqL.of e_L0) rfl rfl ?_
      have hlast : (LX.Shp Ga ot ∧ btw ot 0 ((k.eds.length : Int) - 1) = false ∧ ("BadWheel" : Str) = "BadWheel" ∧ (none : Option (Str × V)) = none) ∨ (ot = .int 0 ∧ ("BadWheel" : Str) = "BadWheel" ∧ (none : Option (Str × V)) = none) := by
        rcases hot with rfl | rfl
        · exact .inl ⟨hws.shp, hwb, rfl, rfl⟩
        · exact .inr ⟨rfl, rfl, rfl⟩
      refine ⟨f5, _, _, (LC.D.str "wheel"), rfl, rf_needed R_needed l5 c30.t ⟨_, _, _, _, rfl, .inr ⟨k, hC30, ok, .inr ⟨0, rfl, Int.le_refl _, by omega, .inr ⟨0, rfl, Int.le_refl _, e0, hlast⟩⟩⟩⟩, .inr (.inl ⟨rfl, rfl, rfl⟩), fun Gz v9 yy hv => ?_⟩
      obtain rfl : v9 = .str "wheel" := by unfold At at hv; exact hv
      refine ⟨rfl, ?_⟩
      rw [decide_eq_true (rfl : V.str "wheel" = V.str "wheel")]
      exact q _
    refine ⟨_, rfl, _, _, rfl, rfl, _, rfl, ?_⟩
    by_cases ha5 : (a : Int) < 5
    · rw [decide_eq_true ha5]
      refine iteT ?_
      obtain ⟨la, za, e1, e2, hL, hz, hBC⟩ : ∃ (la : Addr) (za : Str), ([.ref l0, .ref l1, .ref l2, .ref l3x, .ref l4x] : List V)[a]? = some (.ref la) ∧ ([.str "period", .str "editions", .str "touches", .str "gaps", .str "book"] : List V)[a]? = some (.str za) ∧ Lot (S3 row PL lo) k a H5 la ∧ PyData.strOk za = true ∧
          ∀ (J : Hp) (bu : Addr) (v : V), Xt (S3 row PL lo) H5 J → J bu = some (.tup (([.int k.per, .ref e, .ref tt, .ref g, .ref b] : List V).take a ++ [v] ++ ([.int k.per, .ref e, .ref tt, .ref g, .ref b] : List V).drop (a + 1))) → PB k a J v → BadCk J (.ref bu) za := by
        match a, ha5 with
        | 0, _ => exact ⟨l0, "period", rfl, rfl, L0, by decide +kernel, fun J bu v x h hb => .period h hb.1 hb.2⟩
        | 1, _ => exact ⟨l1, "editions", rfl, rfl, L1, by decide +kernel, fun J bu v x h hb => .editions h ok.per hb⟩
        | 2, _ => exact ⟨l2, "touches", rfl, rfl, L2, by decide +kernel, fun J bu v x h hb => .touches h ok (x.tups _ _ h2) hb⟩
        | 3, _ => exact ⟨l3x, "gaps", rfl, rfl, L3, by decide +kernel, fun J bu v x h hb => .gaps h ok (x.tups _ _ h2) (x.tups _ _ h3) (h4.x x) hb⟩
        | 4, _ => exact ⟨l4x, "book", rfl, rfl, L4, by decide +kernel, fun J bu v x h hb => .book h ok (x.tups _ _ h2) (x.tups _ _ h3) (h4.x x) (x.tups _ _ h5) (h6.x x) hb⟩
        | n + 5, h => exact absurd h (by omega)
      clear L0 L1 L2 L3 L4
      obtain ⟨⟨xs, exs, xl1, xl2, hfar⟩, nSla⟩ := hL
      refine ⟨_, rfl, _, rfl, _, rfl, LX.sl_to (k := a) h1 (by show a ≤ 5; omega) fun I1 n1 i1 en1 => ?_⟩
      have s10 := s9.xn nPL i1
      refine ⟨_, rfl, _, rfl, _, rfl, rixL a (SqL.of (i1.keep lo _ (fun z => z) (fun _ z => by cases z) e_lo5)) rfl e1 ?_⟩
      refine ⟨row, scr, la, ns, xs, rfl, s10.r, i1.keep la _ (fun z => z) (fun _ z => by cases z) exs, fun z => nSla (.inl z), xl1, xl2, fun I2 ix v hv x2 hR2 => ?_⟩
      have x12 : Xt (S3 row PL lo) H5 I2 := (Xt.any i1).trans (x2.weak fun _ z => .inl z)
      have hfv := (hfar v (List.mem_of_getElem? hv)).x x12
      have s11 := s10.drawn nPL x2 hR2
      have en1 := x2.tups _ _ en1
      have e_wo6 := x2.keep wo _ nwo (fun _ z => by cases z) (i1.keep wo _ (fun z => z) (fun _ z => by cases z) e_wo5)

      refine ⟨by show 1 ≤ sizeLine; decide, fun n2 h_n2 => ?_⟩
      have z_n2 : Xn I2 (upd I2 n2 (.tup [v])) := Xt.new h_n2
      have e_n2 : upd I2 n2 (.tup [v]) n2 = some (.tup [v]) := upd_same
      generalize upd I2 n2 (.tup [v]) = G_n2 at z_n2 e_n2 ⊢
      refine LX.catA (z_n2.tups _ _ en1) e_n2 (by rw [List.length_take]; show min a 5 + 1 ≤ 1000; omega) fun I3 n3 i3 en3 => ?_
      refine ⟨_, rfl, _, rfl, _, _, rfl, rfl, _, rfl, LX.sl_fromN (k := a + 1) ((z_n2.trans i3).tups _ _ (x12.tups _ _ h1)) (by omega) (by show a + 1 ≤ 5; omega) fun I4 n4 i4 en4 => ?_⟩
      refine LX.catA (i4.tups _ _ en3) en4 (by rw [List.length_append, List.length_take, List.length_drop]; show min a 5 + 1 + (5 - (a + 1)) ≤ 1000; omega) fun I5 n5 i5 en5 => ?_
      have w5 : Xn I2 I5 := (z_n2.trans i3).trans (i4.trans i5)
      refine ⟨_, rfl, _, rfl, rixL a (SqL.of (w5.keep wo _ (fun z => z) (fun _ z => by cases z) e_wo6)) rfl e2 ?_⟩
      refine ⟨.ref n5, za, rfl, s11.xn nPL w5, (hC5.x x12).x w5, fun J y => hBC J n5 v ((x12.trans (Xt.any w5)).trans (y.weak fun _ z => z.elim .inl fun z => .inr (.inl z))) (y.tups _ _ en5) ?_, hz⟩
      exact hfv J ((Xt.any w5).trans (y.weak fun _ z => z.elim .inl fun z => .inr (.inl z)))
    · rw [decide_eq_false ha5]
      refine iteF ?_
      clear L0 L1 L2 L3 L4 e_lo5 e_wo5 nlo nwo
      refine ⟨_, rfl, _, rfl, ca, _, rfl, .inr (SqT.of h1), fun m0 h_m0 => ?_⟩

      skip
      have z_m0 : Xn H5 (upd H5 m0 (.lst [.int k.per, .ref e, .ref tt, .ref g, .ref b])) := Xt.new h_m0
      have e_m0 : upd H5 m0 (.lst [.int k.per, .ref e, .ref tt, .ref g, .ref b]) m0 = some (.lst [.int k.per, .ref e, .ref tt, .ref g, .ref b]) := upd_same
      generalize upd H5 m0 (.lst [.int k.per, .ref e, .ref tt, .ref g, .ref b]) = G_m0 at z_m0 e_m0 ⊢
      refine ⟨_, rfl, 4, rfl, LX.sl_to (k := 4) (z_m0.tups _ _ h1) (by show 4 ≤ 5; decide) fun J1 m1 j1 em1 => ?_⟩
      refine ⟨_, rfl, ?_⟩

      refine ⟨by show 0 ≤ sizeLine; decide, fun m2 h_m2 => ?_⟩
      have z_m2 : Xn J1 (upd J1 m2 (.tup [])) := Xt.new h_m2
      have e_m2 : upd J1 m2 (.tup []) m2 = some (.tup []) := upd_same
      generalize upd J1 m2 (.tup []) = G_m2 at z_m2 e_m2 ⊢
      refine ⟨by show 1 ≤ sizeLine; decide, fun m3 h_m3 => ?_⟩
      have z_m3 : Xn G_m2 (upd G_m2 m3 (.tup [.ref m2])) := Xt.new h_m3
      have e_m3 : upd G_m2 m3 (.tup [.ref m2]) m3 = some (.tup [.ref m2]) := upd_same
      generalize upd G_m2 m3 (.tup [.ref m2]) = G_m3 at z_m3 e_m3 ⊢
      refine LX.catA ((z_m0.trans (j1.trans (z_m2.trans z_m3))).tups _ _ h1) e_m3 (by show 5 + 1 ≤ 1000; decide) fun J2 m4 j2 em4 => ?_
      have w2 : Xn H5 J2 := (z_m0.trans (j1.trans (z_m2.trans z_m3))).trans j2
      have em0 := Xt.keep (j1.trans (Xt.trans (z_m2.trans z_m3) j2)) m0 _ (fun z => z) (fun _ z => by cases z) e_m0
      have em1 := Xt.tups (Xt.trans (z_m2.trans z_m3) j2) _ _ em1
      have nm0 : m0 ≠ row := s9.r.nn h_m0
      clear e_m0 e_m2 e_m3 z_m0 z_m2 z_m3 j1 j2

      intro m5 h_m5
      have z_m5 : Xn J2 (upd J2 m5 (.dT [])) := Xt.new h_m5
      have e_m5 : upd J2 m5 (.dT []) m5 = some (.dT []) := upd_same
      generalize upd J2 m5 (.dT []) = G_m5 at z_m5 e_m5 ⊢
      refine ⟨by show 7 ≤ sizeLine; decide, fun m6 h_m6 => ?_⟩
      have z_m6 : Xn G_m5 (upd G_m5 m6 (.lst [.non, .ref m0, .ref m1, .ref m4, .ref m5, .str "clock", .int 7])) := Xt.new h_m6
      have e_m6 : upd G_m5 m6 (.lst [.non, .ref m0, .ref m1, .ref m4, .ref m5, .str "clock", .int 7]) m6 = some (.lst [.non, .ref m0, .ref m1, .ref m4, .ref m5, .str "clock", .int 7]) := upd_same
      generalize upd G_m5 m6 (.lst [.non, .ref m0, .ref m1, .ref m4, .ref m5, .str "clock", .int 7]) = G_m6 at z_m6 e_m6 ⊢
      have w3 : Xn H5 G_m6 := w2.trans (z_m5.trans z_m6)
      have s10 := s9.xn nPL w3
      have nm5 : m5 ≠ row := s9.r.nn (w2.backN h_m5)
      have nm6 : m6 ≠ row := s9.r.nn ((w2.trans z_m5).backN h_m6)
      have hap : ∀ {a : Addr} {o : HO}, G_m6 a = some o → (∀ ps, o ≠ .tbl ps) → a ≠ row → ∀ {J : Hp}, Xt (LX.RP row PL) G_m6 J → J a = some o := fun {a o} h n nr J x => x.keep a o (fun z => z.elim nr fun z => by
        obtain ⟨ps, e1, _⟩ := s10.l
        rw [z, e1] at h; cases h; exact n _ rfl) n h
      have hfa : ∀ v ∈ ([.non, .ref m0, .ref m1, .ref m4, .ref m5, .str "clock", .int 7] : List V), Far (LX.RP row PL) (fun H v => NotTup H v 5) G_m6 v := by
        intro v hv J z
        simp only [List.mem_cons, List.not_mem_nil, or_false] at hv
        rcases hv with rfl | rfl | rfl | rfl | rfl | rfl | rfl
        · exact ⟨.non, fun xs e => nomatch e⟩
        · exact notTup_lst (hap (Xt.keep (z_m5.trans z_m6) m0 _ (fun z => z) (fun _ z => by cases z) em0) (fun _ z => by cases z) nm0 z)
        · exact notTup_of (z.tups _ _ (Xt.tups (z_m5.trans z_m6) _ _ em1)) (by show 4 ≠ 5; decide)
        · exact notTup_of (z.tups _ _ (Xt.tups (z_m5.trans z_m6) _ _ em4)) (by show 6 ≠ 5; decide)
        · exact notTup_dT (hap (z_m6.keep m5 _ (fun z => z) (fun _ z => by cases z) e_m5) (fun _ z => by cases z) nm5 z)
        · exact ⟨.str _, fun xs e => nomatch e⟩
        · exact ⟨.int _, fun xs e => nomatch e⟩
      refine ⟨row, scr, m6, ns, _, rfl, s10.r, e_m6, nm6, by show 1 ≤ 7; decide, by show 7 ≤ 1000; decide, fun I2 ix v hv x2 hR2 => ⟨_, _, rfl, ?_⟩⟩
      exact ⟨v, "clock", rfl, s10.drawn nPL x2 hR2, (hC5.x w3).x x2, fun J y => .clock (hfa v (List.mem_of_getElem? hv) J ((x2.weak fun _ z => .inl z).trans y)), by decide +kernel⟩

end K02
-- E1
namespace LC
open PySem PySem.Spec PyProof.Rows L2 LamX
/-- the end of a law whose defs hold generator expressions: what the head leaves at their code objects is handed on, and the loose numbers -/
theorem walk_tb {l : PySem.W.OpenLaw} {n k : Nat} {q : Program} {loose : List Str} {XP : (Str → Option Value) → Heap → Prop} {YP : World → Heap → Prop} {d : DefRec}
    {K : Params → PySem.W.Frag} {CX : World → CXT} {x : Str} (hn : l.most = some n) (hn2 : n ≤ sizeLine) (hdf : d.params.defaults = []) (hr : Room k callerA)
    (hY : ∀ (w : World) (h : Heap), YP w h → (K w.params).In h)
    (F : ∀ (w : World) (mg : Str → Option Value) (fa : Addr) (h : Heap), YP w h → XP mg h → (K w.params).In h → h.Ns mainGlobals mg → mg d.name = some (.ref fa) →
      (∀ (y : Str) (e : DefRec) (c P : Addr), (recsOf q).find? (fun r => r.name == y) = some e → PySem.W.tabIn (K w.params) y = some (c, P) → PySem.W.CodeHd h c P ∧ h.get? P = some (PySem.W.tabObj #[])) →
      LawAtS l w (K w.params) (CX w) k n x mg fa h)
    (hCX : ∀ (w : World) (H : Hp) (s : Shared) (e : Value) (s' : Shared), CX w [] H s (fun _ _ _ => False) e s' → False) :
    PySem.W.WalkO q loose XP YP l.row.toRowW d [] (fun f vs => PySem.call f vs) := by
  refine Att.attach_callB hn hdf ?_
  intro w s₀ s₁ mg mb fa o pm cd doc a vs ns G Y ho hd hcd hmg hobj hints hlen hbits hg
  have KX := hY w _ Y
  obtain ⟨fd, cs, sp, hT, nT, C, hb, hsp, hF⟩ := F w mg fa _ Y G.X KX G.T.g hmg fun y e c P h1 h2 => PySem.W.tab_of G.T KX h1 h2
  exact law_callTs KX G.T.g G.T.b G.T.builtins G.T.nolimit hg hT nT C G.T.bmain hobj hints (Nat.le_trans hlen hn2) hr hF hb
    (fun H hH hS => hsp H a ns hlen hbits hH hS) (fun H e s' => hCX w H s₁ e s')
end LC
namespace LC
open PySem PySem.Spec PyProof.Rows L2
/-- a def of the text as the head leaves it -/
structure DefAt (K : PySem.W.Frag) (x : Str) (st : Stmt) (f c : Addr) : Prop where
  ns : PySem.W.nsIn K mainGlobals x = some (some (.ref f))
  lk : ∃ (oc : Value) (od : Option Addr) (kV doc pm : Value) (an : Option Addr) (ct : Value) (osl : Array (Option Value)), K.lookup f = some ⟨oc, od, .func (PySem.W.fnOf x x (defArgs st) (defBody st) (defScope st) .none kV doc pm an (.ref c) ct), osl⟩
  cd : PySem.W.codeIn K (.ref c) x = true
  kp : PySem.W.keepIn K (.ref f) = true
theorem DefAt.fn {K : PySem.W.Frag} {x : Str} {st : Stmt} {f c : Addr} {h : Heap} {mg : Str → Option Value} (D : DefAt K x st f c) (X : K.In h) (G : h.Ns mainGlobals mg) : ∃ fd, FunC K x st f fd c ∧ mg x = some (.ref f) := by
  obtain ⟨oc, od, kV, doc, pm, an, ct, osl, l⟩ := D.lk
  exact ⟨_, ⟨⟨oc, od, kV, doc, pm, an, ct, osl, rfl, l, D.cd⟩, D.kp⟩, PySem.W.mg_of X G D.ns⟩
end LC
namespace LC
open PySem PySem.Spec PyProof.Rows L2
theorem tabB_of {base : Heap} {mg : Str → Option Value} {c P : Addr} (h : LamX.TabB base mg c P) : GxR.TabB base mg c P := ⟨h.code, h.bm, h.gP⟩
theorem triples_nil : TriplesOk (#[] : Array Value).toList := by
  first | exact .nil | exact trivial | (intro x hx; cases hx)
theorem loose_int {lv : List (Str × PySem.W.WData)} {mg : Str → Option Value} {h : Heap} {x : Str} {i : Int} (L : PySem.W.LooseAre lv mg h) (hm : (x, PySem.W.WData.int i) ∈ lv) : ∃ t, mg x = some (.int i t) := by
  obtain ⟨v, e, r⟩ := L.val _ hm
  cases r
  exact ⟨_, e⟩
end LC
namespace LC
open PySem PySem.Spec PyProof.Rows L2
section
variable {K : PySem.W.Frag} {x : Str} {st : Stmt} {f c P : Addr}
theorem defAt_mk {oc : Value} {od : Option Addr} {kV doc pm : Value} {an : Option Addr} {ct : Value} {osl : Array (Option Value)} (a : PySem.W.nsIn K mainGlobals x = some (some (.ref f)))
    (l : K.lookup f = some ⟨oc, od, .func (PySem.W.fnOf x x (defArgs st) (defBody st) (defScope st) .none kV doc pm an (.ref c) ct), osl⟩) (hc : PySem.W.codeIn K (.ref c) x = true) (hk : PySem.W.keepIn K (.ref f) = true) : DefAt K x st f c :=
  ⟨a, ⟨oc, od, kV, doc, pm, an, ct, osl, l⟩, hc, hk⟩
theorem DefAt.tab {e : Value} {dd : Option Addr} {vs : Array Value} {sl : Array (Option Value)} (D : DefAt K x st f c) (lc : K.lookup c = some ⟨e, dd, .fields vs, sl⟩) (h : (vs[11]? : Option Value) = some (.ref P)) : PySem.W.tabIn K x = some (c, P) := by
  obtain ⟨oc, od, kV, doc, pm, an, ct, osl, l⟩ := D.lk
  unfold PySem.W.tabIn
  rw [D.ns]
  show (match K.lookup f with | _ => _) = _
  simp only [l, lc, h]
theorem mg_int {h : Heap} {mg : Str → Option Value} {i : Int} {t : Tok} (X : K.In h) (G : h.Ns mainGlobals mg) (e : PySem.W.nsIn K mainGlobals x = some (some (.int i t))) : ∃ t, mg x = some (.int i t) := ⟨t, PySem.W.mg_of X G e⟩
end
theorem tabs_of {K : PySem.W.Frag} {h : Heap} {q : Program} (tabs : ∀ (y : Str) (e : DefRec) (c P : Addr), (recsOf q).find? (fun r => r.name == y) = some e → PySem.W.tabIn K y = some (c, P) → PySem.W.CodeHd h c P ∧ h.get? P = some (PySem.W.tabObj #[]))
    {x : Str} {c P : Addr} (r : ((recsOf q).find? (fun r => r.name == x)).isSome = true) (t : PySem.W.tabIn K x = some (c, P)) : PySem.W.CodeHd h c P ∧ h.get? P = some (PySem.W.tabObj #[]) := by
  obtain ⟨e, he⟩ := Option.isSome_iff_exists.mp r
  exact tabs x e c P he t
end LC
-- K02_fin
namespace K02
open PySem PySem.Spec PyProof.Rows L2 LC
theorem law_at {w : World} {K : PySem.W.Frag} {h : Heap} {mg : Str → Option Value} {fa : Addr} (X : K.In h) (G : h.Ns mainGlobals mg) (hfa : mg "law" = some (.ref fa)) (T : Txt mg)
    {f_is_whole c_is_whole f_is_between c_is_between f_is_tuple_of c_is_tuple_of f_is_rising c_is_rising f_is_touch c_is_touch f_are_editions c_are_editions f_are_touches c_are_touches f_are_wheel_gaps c_are_wheel_gaps f_are_gaps c_are_gaps f_is_entry c_is_entry f_is_book c_is_book f_wrong_part c_wrong_part f_check_clock c_check_clock f_check_tick c_check_tick f_check_wheel c_check_wheel f_exchanges c_exchanges f_earliest c_earliest f_ring c_ring f_is_ring c_is_ring f_touching c_touching f_needed c_needed f_law_taken c_law_taken f_law_low_clock c_law_low_clock f_law_pick c_law_pick f_law_works c_law_works f_law_refused c_law_refused f_law c_law : Addr}
    (D_is_whole : DefAt K "is_whole" s_is_whole f_is_whole c_is_whole) (D_is_between : DefAt K "is_between" s_is_between f_is_between c_is_between) (D_is_tuple_of : DefAt K "is_tuple_of" s_is_tuple_of f_is_tuple_of c_is_tuple_of) (D_is_rising : DefAt K "is_rising" s_is_rising f_is_rising c_is_rising) (D_is_touch : DefAt K "is_touch" s_is_touch f_is_touch c_is_touch) (D_are_editions : DefAt K "are_editions" s_are_editions f_are_editions c_are_editions) (D_are_touches : DefAt K "are_touches" s_are_touches f_are_touches c_are_touches) (D_are_wheel_gaps : DefAt K "are_wheel_gaps" s_are_wheel_gaps f_are_wheel_gaps c_are_wheel_gaps) (D_are_gaps : DefAt K "are_gaps" s_are_gaps f_are_gaps c_are_gaps) (D_is_entry : DefAt K "is_entry" s_is_entry f_is_entry c_is_entry) (D_is_book : DefAt K "is_book" s_is_book f_is_book c_is_book) (D_wrong_part : DefAt K "wrong_part" s_wrong_part f_wrong_part c_wrong_part) (D_check_clock : DefAt K "check_clock" s_check_clock f_check_clock c_check_clock) (D_check_tick : DefAt K "check_tick" s_check_tick f_check_tick c_check_tick) (D_check_wheel : DefAt K "check_wheel" s_check_wheel f_check_wheel c_check_wheel) (D_exchanges : DefAt K "exchanges" s_exchanges f_exchanges c_exchanges) (D_earliest : DefAt K "earliest" s_earliest f_earliest c_earliest) (D_ring : DefAt K "ring" s_ring f_ring c_ring) (D_is_ring : DefAt K "is_ring" s_is_ring f_is_ring c_is_ring) (D_touching : DefAt K "touching" s_touching f_touching c_touching) (D_needed : DefAt K "needed" s_needed f_needed c_needed) (D_law_taken : DefAt K "_law_taken" s_law_taken f_law_taken c_law_taken) (D_law_low_clock : DefAt K "_law_low_clock" s_law_low_clock f_law_low_clock c_law_low_clock) (D_law_pick : DefAt K "_law_pick" s_law_pick f_law_pick c_law_pick) (D_law_works : DefAt K "_law_works" s_law_works f_law_works c_law_works) (D_law_refused : DefAt K "_law_refused" s_law_refused f_law_refused c_law_refused) (D_law : DefAt K "law" s_law f_law c_law)
    {P_are_editions P_are_touches P_are_wheel_gaps P_is_book P_law_works : Addr}
    {q : Program} (tabs : ∀ (y : Str) (e : DefRec) (c P : Addr), (recsOf q).find? (fun r => r.name == y) = some e → PySem.W.tabIn K y = some (c, P) → PySem.W.CodeHd h c P ∧ h.get? P = some (PySem.W.tabObj #[]))
    {ev_are_editions ev_are_touches ev_are_wheel_gaps ev_is_book ev_law_works : Value} {dd_are_editions dd_are_touches dd_are_wheel_gaps dd_is_book dd_law_works : Option Addr} {vs_are_editions vs_are_touches vs_are_wheel_gaps vs_is_book vs_law_works : Array Value} {sl_are_editions sl_are_touches sl_are_wheel_gaps sl_is_book sl_law_works : Array (Option Value)}
    (r_are_editions : ((recsOf q).find? (fun r => r.name == ("are_editions" : Str))).isSome = true) (lc_are_editions : K.lookup c_are_editions = some ⟨ev_are_editions, dd_are_editions, .fields vs_are_editions, sl_are_editions⟩) (h_are_editions : (vs_are_editions[11]? : Option Value) = some (.ref P_are_editions)) (n_are_editions : K.lookup P_are_editions = none)
    (r_are_touches : ((recsOf q).find? (fun r => r.name == ("are_touches" : Str))).isSome = true) (lc_are_touches : K.lookup c_are_touches = some ⟨ev_are_touches, dd_are_touches, .fields vs_are_touches, sl_are_touches⟩) (h_are_touches : (vs_are_touches[11]? : Option Value) = some (.ref P_are_touches)) (n_are_touches : K.lookup P_are_touches = none)
    (r_are_wheel_gaps : ((recsOf q).find? (fun r => r.name == ("are_wheel_gaps" : Str))).isSome = true) (lc_are_wheel_gaps : K.lookup c_are_wheel_gaps = some ⟨ev_are_wheel_gaps, dd_are_wheel_gaps, .fields vs_are_wheel_gaps, sl_are_wheel_gaps⟩) (h_are_wheel_gaps : (vs_are_wheel_gaps[11]? : Option Value) = some (.ref P_are_wheel_gaps)) (n_are_wheel_gaps : K.lookup P_are_wheel_gaps = none)
    (r_is_book : ((recsOf q).find? (fun r => r.name == ("is_book" : Str))).isSome = true) (lc_is_book : K.lookup c_is_book = some ⟨ev_is_book, dd_is_book, .fields vs_is_book, sl_is_book⟩) (h_is_book : (vs_is_book[11]? : Option Value) = some (.ref P_is_book)) (n_is_book : K.lookup P_is_book = none)
    (r_law_works : ((recsOf q).find? (fun r => r.name == ("_law_works" : Str))).isSome = true) (lc_law_works : K.lookup c_law_works = some ⟨ev_law_works, dd_law_works, .fields vs_law_works, sl_law_works⟩) (h_law_works : (vs_law_works[11]? : Option Value) = some (.ref P_law_works)) (n_law_works : K.lookup P_law_works = none)
    {C_ClockError : Addr} (N_ClockError : PySem.W.nsIn K mainGlobals "ClockError" = some (some (.ref C_ClockError))) (B_top : LX.BaseI K C_ClockError)
    {C_BadClock : Addr} (N_BadClock : PySem.W.nsIn K mainGlobals "BadClock" = some (some (.ref C_BadClock))) (E_BadClock : LX.ErrK K C_BadClock) (M_BadClock : PySem.W.exmOne K (.ref C_BadClock) (.ref C_ClockError) = some true)
    {C_BadWheel : Addr} (N_BadWheel : PySem.W.nsIn K mainGlobals "BadWheel" = some (some (.ref C_BadWheel))) (E_BadWheel : LX.ErrK K C_BadWheel) (M_BadWheel : PySem.W.exmOne K (.ref C_BadWheel) (.ref C_ClockError) = some true)
    (X_BadWheel : PySem.W.excIn K C_BadWheel LX.veB "ValueError.__new__" = true)
    {C_BadEdition : Addr} (N_BadEdition : PySem.W.nsIn K mainGlobals "BadEdition" = some (some (.ref C_BadEdition))) (E_BadEdition : LX.ErrK K C_BadEdition) (M_BadEdition : PySem.W.exmOne K (.ref C_BadEdition) (.ref C_ClockError) = some true)
    (X_BadEdition : PySem.W.excIn K C_BadEdition LX.veB "ValueError.__new__" = true)
    {C_BadTick : Addr} (N_BadTick : PySem.W.nsIn K mainGlobals "BadTick" = some (some (.ref C_BadTick))) (E_BadTick : LX.ErrK K C_BadTick) (M_BadTick : PySem.W.exmOne K (.ref C_BadTick) (.ref C_ClockError) = some true)
    (X_BadTick : PySem.W.excIn K C_BadTick LX.veB "ValueError.__new__" = true)
    (O_BadClock : OexC K C_BadClock) (V_BadClock : PySem.W.findIn K (.ref C_BadClock) "part" = some none) {fI_BadClock : Addr} {oc_BadClock kV_BadClock dc_BadClock pm_BadClock cd_BadClock ct_BadClock : Value} {od_BadClock an_BadClock : Option Addr} {sl_BadClock : Array (Option Value)} (I_BadClock : PySem.W.findIn K (.ref C_BadClock) "__init__" = some (some (.ref fI_BadClock))) (Y_BadClock : PySem.W.typeIn K (.ref fI_BadClock) = some (.type "function")) (L_BadClock : K.lookup fI_BadClock = some ⟨oc_BadClock, od_BadClock, .func (PySem.W.fnOf "__init__" "BadClock.__init__" (defArgs s_init_BadClock) (defBody s_init_BadClock) (defScope s_init_BadClock) .none kV_BadClock dc_BadClock pm_BadClock an_BadClock cd_BadClock ct_BadClock), sl_BadClock⟩) (U_BadClock : PySem.W.codeIn K cd_BadClock "BadClock.__init__" = true)
    (K_BadClock_BadClock : PySem.W.kitOne K (.ref C_BadClock) (.ref C_BadClock) = some true)
    (K_BadClock_BadWheel : PySem.W.kitOne K (.ref C_BadClock) (.ref C_BadWheel) = some false)
    (K_BadClock_BadEdition : PySem.W.kitOne K (.ref C_BadClock) (.ref C_BadEdition) = some false)
    (K_BadClock_BadTick : PySem.W.kitOne K (.ref C_BadClock) (.ref C_BadTick) = some false)
    (K_BadWheel_BadClock : PySem.W.kitOne K (.ref C_BadWheel) (.ref C_BadClock) = some false)
    (K_BadWheel_BadWheel : PySem.W.kitOne K (.ref C_BadWheel) (.ref C_BadWheel) = some true)
    (K_BadWheel_BadEdition : PySem.W.kitOne K (.ref C_BadWheel) (.ref C_BadEdition) = some false)
    (K_BadWheel_BadTick : PySem.W.kitOne K (.ref C_BadWheel) (.ref C_BadTick) = some false)
    (K_BadEdition_BadClock : PySem.W.kitOne K (.ref C_BadEdition) (.ref C_BadClock) = some false)
    (K_BadEdition_BadWheel : PySem.W.kitOne K (.ref C_BadEdition) (.ref C_BadWheel) = some false)
    (K_BadEdition_BadEdition : PySem.W.kitOne K (.ref C_BadEdition) (.ref C_BadEdition) = some true)
    (K_BadEdition_BadTick : PySem.W.kitOne K (.ref C_BadEdition) (.ref C_BadTick) = some false)
    (K_BadTick_BadClock : PySem.W.kitOne K (.ref C_BadTick) (.ref C_BadClock) = some false)
    (K_BadTick_BadWheel : PySem.W.kitOne K (.ref C_BadTick) (.ref C_BadWheel) = some false)
    (K_BadTick_BadEdition : PySem.W.kitOne K (.ref C_BadTick) (.ref C_BadEdition) = some false)
    (K_BadTick_BadTick : PySem.W.kitOne K (.ref C_BadTick) (.ref C_BadTick) = some true)
    (NT : P_law_works ∉ [P_are_editions, P_are_touches, P_are_wheel_gaps, P_is_book])
    : LamX.LawAtS PySem.Challenge.rw_livingclock_k02_clocks_refused w K CX0 13 63 "script" mg fa h := by
  obtain ⟨fd_is_whole, F_is_whole, m_is_whole⟩ := D_is_whole.fn X G
  obtain ⟨fd_is_between, F_is_between, m_is_between⟩ := D_is_between.fn X G
  obtain ⟨fd_is_tuple_of, F_is_tuple_of, m_is_tuple_of⟩ := D_is_tuple_of.fn X G
  obtain ⟨fd_is_rising, F_is_rising, m_is_rising⟩ := D_is_rising.fn X G
  obtain ⟨fd_is_touch, F_is_touch, m_is_touch⟩ := D_is_touch.fn X G
  obtain ⟨fd_are_editions, F_are_editions, m_are_editions⟩ := D_are_editions.fn X G
  obtain ⟨fd_are_touches, F_are_touches, m_are_touches⟩ := D_are_touches.fn X G
  obtain ⟨fd_are_wheel_gaps, F_are_wheel_gaps, m_are_wheel_gaps⟩ := D_are_wheel_gaps.fn X G
  obtain ⟨fd_are_gaps, F_are_gaps, m_are_gaps⟩ := D_are_gaps.fn X G
  obtain ⟨fd_is_entry, F_is_entry, m_is_entry⟩ := D_is_entry.fn X G
  obtain ⟨fd_is_book, F_is_book, m_is_book⟩ := D_is_book.fn X G
  obtain ⟨fd_wrong_part, F_wrong_part, m_wrong_part⟩ := D_wrong_part.fn X G
  obtain ⟨fd_check_clock, F_check_clock, m_check_clock⟩ := D_check_clock.fn X G
  obtain ⟨fd_check_tick, F_check_tick, m_check_tick⟩ := D_check_tick.fn X G
  obtain ⟨fd_check_wheel, F_check_wheel, m_check_wheel⟩ := D_check_wheel.fn X G
  obtain ⟨fd_exchanges, F_exchanges, m_exchanges⟩ := D_exchanges.fn X G
  obtain ⟨fd_earliest, F_earliest, m_earliest⟩ := D_earliest.fn X G
  obtain ⟨fd_ring, F_ring, m_ring⟩ := D_ring.fn X G
  obtain ⟨fd_is_ring, F_is_ring, m_is_ring⟩ := D_is_ring.fn X G
  obtain ⟨fd_touching, F_touching, m_touching⟩ := D_touching.fn X G
  obtain ⟨fd_needed, F_needed, m_needed⟩ := D_needed.fn X G
  obtain ⟨fd_law_taken, F_law_taken, m_law_taken⟩ := D_law_taken.fn X G
  obtain ⟨fd_law_low_clock, F_law_low_clock, m_law_low_clock⟩ := D_law_low_clock.fn X G
  obtain ⟨fd_law_pick, F_law_pick, m_law_pick⟩ := D_law_pick.fn X G
  obtain ⟨fd_law_works, F_law_works, m_law_works⟩ := D_law_works.fn X G
  obtain ⟨fd_law_refused, F_law_refused, m_law_refused⟩ := D_law_refused.fn X G
  obtain ⟨fd_law, F_law, m_law⟩ := D_law.fn X G
  have t_are_editions := LC.tabs_of tabs r_are_editions (D_are_editions.tab lc_are_editions h_are_editions)
  have t_are_touches := LC.tabs_of tabs r_are_touches (D_are_touches.tab lc_are_touches h_are_touches)
  have t_are_wheel_gaps := LC.tabs_of tabs r_are_wheel_gaps (D_are_wheel_gaps.tab lc_are_wheel_gaps h_are_wheel_gaps)
  have t_is_book := LC.tabs_of tabs r_is_book (D_is_book.tab lc_is_book h_is_book)
  have t_law_works := LC.tabs_of tabs r_law_works (D_law_works.tab lc_law_works h_law_works)
  cases hfa.symm.trans m_law
  letI : LC.Tbl := ⟨[P_are_editions, P_are_touches, P_are_wheel_gaps, P_is_book]⟩
  refine ⟨fd_law, [(c_are_editions, P_are_editions), (c_are_touches, P_are_touches), (c_are_wheel_gaps, P_are_wheel_gaps), (c_is_book, P_is_book), (c_law_works, P_law_works)], sp_law K [P_are_editions, P_are_touches, P_are_wheel_gaps, P_is_book] P_law_works, ?_, ?_, ?_, ?_, ?_, ?_⟩
  · intro p hp
    simp only [List.mem_cons, List.not_mem_nil, or_false] at hp
    rcases hp with rfl | rfl | rfl | rfl | rfl
    · exact t_are_editions.2
    · exact t_are_touches.2
    · exact t_are_wheel_gaps.2
    · exact t_is_book.2
    · exact t_law_works.2
  · intro p hp
    simp only [List.mem_cons, List.not_mem_nil, or_false] at hp
    rcases hp with rfl | rfl | rfl | rfl | rfl
    · exact n_are_editions
    · exact n_are_touches
    · exact n_are_wheel_gaps
    · exact n_is_book
    · exact n_law_works
  · intro p hp
    simp only [List.mem_cons, List.not_mem_nil, or_false] at hp
    rcases hp with rfl | rfl | rfl | rfl | rfl
    · exact t_are_editions.1
    · exact t_are_touches.1
    · exact t_are_wheel_gaps.1
    · exact t_is_book.1
    · exact t_law_works.1
  · obtain ⟨oc, od, kV, doc, pm, an, ct, osl, rfl, _⟩ := F_law.ex
    exact fun s u => .of_eq rfl
  · intro H a ns hl _ hT hS
    refine ⟨a, ns, rfl, hS, fun P hP => ?_, LamX.TabS.nil (hT (c_law_works, P_law_works) (by simp)), fun _ => rfl⟩
    refine ⟨⟨#[], ?_, ?_⟩, hP⟩
    · simp only [List.mem_cons, List.not_mem_nil, or_false] at hP
      rcases hP with e | e | e | e
      · rw [e]; exact hT (c_are_editions, P_are_editions) (by simp)
      · rw [e]; exact hT (c_are_touches, P_are_touches) (by simp)
      · rw [e]; exact hT (c_are_wheel_gaps, P_are_wheel_gaps) (by simp)
      · rw [e]; exact hT (c_is_book, P_is_book) (by simp)
    · exact LC.triples_nil
  · intro base KB GB tb
    have TB_are_editions : GxR.TabB base mg c_are_editions P_are_editions := LC.tabB_of (tb (c_are_editions, P_are_editions) (by simp))
    have hT_are_editions : P_are_editions ∈ [P_are_editions, P_are_touches, P_are_wheel_gaps, P_is_book] := by simp
    have TB_are_touches : GxR.TabB base mg c_are_touches P_are_touches := LC.tabB_of (tb (c_are_touches, P_are_touches) (by simp))
    have hT_are_touches : P_are_touches ∈ [P_are_editions, P_are_touches, P_are_wheel_gaps, P_is_book] := by simp
    have TB_are_wheel_gaps : GxR.TabB base mg c_are_wheel_gaps P_are_wheel_gaps := LC.tabB_of (tb (c_are_wheel_gaps, P_are_wheel_gaps) (by simp))
    have hT_are_wheel_gaps : P_are_wheel_gaps ∈ [P_are_editions, P_are_touches, P_are_wheel_gaps, P_is_book] := by simp
    have TB_is_book : GxR.TabB base mg c_is_book P_is_book := LC.tabB_of (tb (c_is_book, P_is_book) (by simp))
    have hT_is_book : P_is_book ∈ [P_are_editions, P_are_touches, P_are_wheel_gaps, P_is_book] := by simp
    have TB_law_works : GxR.TabB base mg c_law_works P_law_works := LC.tabB_of (tb (c_law_works, P_law_works) (by simp))
    have TL_law_works := tb (c_law_works, P_law_works) (by simp)
    let ad : Str → Addr := fun z => (([("ClockError", C_ClockError), ("BadClock", C_BadClock), ("BadWheel", C_BadWheel), ("BadEdition", C_BadEdition), ("BadTick", C_BadTick)] : List (Str × Addr)).lookup z).getD 0
    have TE : LX.ErrT K mg ad askedL plainL := by
      refine ⟨fun x hx => ?_, fun x hx => ?_, by decide, fun x hx y hy => ?_, PySem.W.mg_of X G N_ClockError, fun x hx => ?_⟩
      · simp only [askedL, List.mem_cons, List.not_mem_nil, or_false] at hx
        rcases hx with rfl | rfl | rfl | rfl
        · exact { E_BadClock with g := PySem.W.mg_of X G N_BadClock }
        · exact { E_BadWheel with g := PySem.W.mg_of X G N_BadWheel }
        · exact { E_BadEdition with g := PySem.W.mg_of X G N_BadEdition }
        · exact { E_BadTick with g := PySem.W.mg_of X G N_BadTick }
      · simp only [plainL, List.mem_cons, List.not_mem_nil, or_false] at hx
        rcases hx with rfl | rfl | rfl
        · exact X_BadWheel
        · exact X_BadEdition
        · exact X_BadTick
      · simp only [askedL, List.mem_cons, List.not_mem_nil, or_false] at hx hy
        rcases hx with rfl | rfl | rfl | rfl <;> rcases hy with rfl | rfl | rfl | rfl
        · exact K_BadClock_BadClock.trans (congrArg some (by decide))
        · exact K_BadClock_BadWheel.trans (congrArg some (by decide))
        · exact K_BadClock_BadEdition.trans (congrArg some (by decide))
        · exact K_BadClock_BadTick.trans (congrArg some (by decide))
        · exact K_BadWheel_BadClock.trans (congrArg some (by decide))
        · exact K_BadWheel_BadWheel.trans (congrArg some (by decide))
        · exact K_BadWheel_BadEdition.trans (congrArg some (by decide))
        · exact K_BadWheel_BadTick.trans (congrArg some (by decide))
        · exact K_BadEdition_BadClock.trans (congrArg some (by decide))
        · exact K_BadEdition_BadWheel.trans (congrArg some (by decide))
        · exact K_BadEdition_BadEdition.trans (congrArg some (by decide))
        · exact K_BadEdition_BadTick.trans (congrArg some (by decide))
        · exact K_BadTick_BadClock.trans (congrArg some (by decide))
        · exact K_BadTick_BadWheel.trans (congrArg some (by decide))
        · exact K_BadTick_BadEdition.trans (congrArg some (by decide))
        · exact K_BadTick_BadTick.trans (congrArg some (by decide))
      · simp only [askedL, List.mem_cons, List.not_mem_nil, or_false] at hx
        rcases hx with rfl | rfl | rfl | rfl
        · exact M_BadClock
        · exact M_BadWheel
        · exact M_BadEdition
        · exact M_BadTick
    have TI_BadClock : LX.ErrI PySem.Challenge.rw_livingclock_k02_clocks_refused.prog w K mg base "BadClock" "part" (ad "BadClock") := { E_BadClock with g := PySem.W.mg_of X G N_BadClock, ox := O_BadClock, nof := V_BadClock, ini := ⟨fI_BadClock, _, I_BadClock, Y_BadClock, .all (fun us hu => match us, hu with | [_, _], _ => rfl), ok_init_BadClock L_BadClock U_BadClock (PySem.W.mg_of X G N_ClockError) B_top⟩ }
    have C_is_wholeW := F_is_whole.callee (P := PySem.Challenge.rw_livingclock_k02_clocks_refused.prog) (w := w) (base := base) (k := 1) (sp := sp_is_whole K) m_is_whole (ok_is_whole T  F_is_whole) (fun _ _ _ _ _ _ us hl => match us, hl with | [_], _ => rfl)
    have C_is_between := between1 (F_is_between.callee (P := PySem.Challenge.rw_livingclock_k02_clocks_refused.prog) (w := w) (base := base) (k := 2) (sp := sp_is_between K) m_is_between (ok_is_between T C_is_wholeW F_is_between) (fun _ _ _ _ _ _ us hl => match us, hl with | [_, _, _], _ => rfl))
    have C_is_betweenE := betweenE (F_is_between.callee (P := PySem.Challenge.rw_livingclock_k02_clocks_refused.prog) (w := w) (base := base) (k := 2) (sp := sp_is_between K) m_is_between (ok_is_between T C_is_wholeW F_is_between) (fun _ _ _ _ _ _ us hl => match us, hl with | [_, _, _], _ => rfl))
    have C_is_tuple_of := tuple_of1 (F_is_tuple_of.callee (P := PySem.Challenge.rw_livingclock_k02_clocks_refused.prog) (w := w) (base := base) (k := 1) (sp := sp_is_tuple_of K) m_is_tuple_of (ok_is_tuple_of T  F_is_tuple_of) (fun _ _ _ _ _ _ us hl => match us, hl with | [_, _], _ => rfl))
    have C_is_tuple_ofE := tuple_ofE (F_is_tuple_of.callee (P := PySem.Challenge.rw_livingclock_k02_clocks_refused.prog) (w := w) (base := base) (k := 1) (sp := sp_is_tuple_of K) m_is_tuple_of (ok_is_tuple_of T  F_is_tuple_of) (fun _ _ _ _ _ _ us hl => match us, hl with | [_, _], _ => rfl))
    have C_is_rising := rising1 (F_is_rising.callee (P := PySem.Challenge.rw_livingclock_k02_clocks_refused.prog) (w := w) (base := base) (k := 1) (sp := sp_is_rising K) m_is_rising (ok_is_rising T  F_is_rising) (fun _ _ _ _ _ _ us hl => match us, hl with | [_], _ => rfl))
    have C_is_risingA := F_is_rising.callee (P := PySem.Challenge.rw_livingclock_k02_clocks_refused.prog) (w := w) (base := base) (k := 1) (sp := sp_is_rising K) m_is_rising (ok_is_rising T  F_is_rising) (fun _ _ _ _ _ _ us hl => match us, hl with | [_], _ => rfl)
    have C_is_touch := F_is_touch.callee (P := PySem.Challenge.rw_livingclock_k02_clocks_refused.prog) (w := w) (base := base) (k := 3) (sp := sp_is_touch) m_is_touch (ok_is_touch T C_is_between C_is_tuple_of F_is_touch) (fun _ _ _ _ _ _ us hl => match us, hl with | [_, _, _], _ => rfl)
    have C_is_touchO := F_is_touch.callee (P := PySem.Challenge.rw_livingclock_k02_clocks_refused.prog) (w := w) (base := base) (k := 3) (sp := (fun vs H Q E => sp_is_touch vs H Q E ∨ sn_is_touch vs H Q E)) m_is_touch (LX.fn_or (ok_is_touch T C_is_between C_is_tuple_of F_is_touch) (ok_is_touch_b T C_is_betweenE C_is_tuple_ofE F_is_touch)) (fun _ _ _ _ _ _ us hl => match us, hl with | [_, _, _], _ => rfl)
    have C_are_editions := F_are_editions.callee (P := PySem.Challenge.rw_livingclock_k02_clocks_refused.prog) (w := w) (base := base) (k := 5) (sp := sp_are_editions ([P_are_editions, P_are_touches, P_are_wheel_gaps, P_is_book])) m_are_editions (ok_are_editions T TB_are_editions hT_are_editions C_is_between F_are_editions) (fun _ _ _ _ _ _ us hl => match us, hl with | [_], _ => rfl)
    have C_are_editionsO := F_are_editions.callee (P := PySem.Challenge.rw_livingclock_k02_clocks_refused.prog) (w := w) (base := base) (k := 5) (sp := orP (sp_are_editions ([P_are_editions, P_are_touches, P_are_wheel_gaps, P_is_book])) (sn_are_editions ([P_are_editions, P_are_touches, P_are_wheel_gaps, P_is_book]))) m_are_editions (LX.fn_or (ok_are_editions T TB_are_editions hT_are_editions C_is_between F_are_editions) (ok_are_editions_b T TB_are_editions hT_are_editions C_is_betweenE F_are_editions)) (fun _ _ _ _ _ _ us hl => match us, hl with | [_], _ => rfl)
    have C_are_touches := F_are_touches.callee (P := PySem.Challenge.rw_livingclock_k02_clocks_refused.prog) (w := w) (base := base) (k := 6) (sp := sp_are_touches ([P_are_editions, P_are_touches, P_are_wheel_gaps, P_is_book])) m_are_touches (ok_are_touches T TB_are_touches hT_are_touches C_is_touch C_is_rising F_are_touches) (fun _ _ _ _ _ _ us hl => match us, hl with | [_, _, _], _ => rfl)
    have C_are_touchesO := F_are_touches.callee (P := PySem.Challenge.rw_livingclock_k02_clocks_refused.prog) (w := w) (base := base) (k := 6) (sp := orP (sp_are_touches ([P_are_editions, P_are_touches, P_are_wheel_gaps, P_is_book])) (sn_are_touches ([P_are_editions, P_are_touches, P_are_wheel_gaps, P_is_book]))) m_are_touches (LX.fn_or (ok_are_touches T TB_are_touches hT_are_touches C_is_touch C_is_rising F_are_touches) (ok_are_touches_b T TB_are_touches hT_are_touches C_is_touchO C_is_risingA F_are_touches)) (fun _ _ _ _ _ _ us hl => match us, hl with | [_, _, _], _ => rfl)
    have C_are_wheel_gaps := F_are_wheel_gaps.callee (P := PySem.Challenge.rw_livingclock_k02_clocks_refused.prog) (w := w) (base := base) (k := 5) (sp := sp_are_wheel_gaps ([P_are_editions, P_are_touches, P_are_wheel_gaps, P_is_book])) m_are_wheel_gaps (ok_are_wheel_gaps T TB_are_wheel_gaps hT_are_wheel_gaps C_is_between C_is_rising F_are_wheel_gaps) (fun _ _ _ _ _ _ us hl => match us, hl with | [_, _, _], _ => rfl)
    have C_are_wheel_gapsO := F_are_wheel_gaps.callee (P := PySem.Challenge.rw_livingclock_k02_clocks_refused.prog) (w := w) (base := base) (k := 5) (sp := (fun vs H Q E => sp_are_wheel_gaps ([P_are_editions, P_are_touches, P_are_wheel_gaps, P_is_book]) vs H Q E ∨ sn_are_wheel_gaps ([P_are_editions, P_are_touches, P_are_wheel_gaps, P_is_book]) vs H Q E)) m_are_wheel_gaps (LX.fn_or (ok_are_wheel_gaps T TB_are_wheel_gaps hT_are_wheel_gaps C_is_between C_is_rising F_are_wheel_gaps) (ok_are_wheel_gaps_b T TB_are_wheel_gaps hT_are_wheel_gaps C_is_betweenE C_is_risingA F_are_wheel_gaps)) (fun _ _ _ _ _ _ us hl => match us, hl with | [_, _, _], _ => rfl)
    have C_are_gaps := F_are_gaps.callee (P := PySem.Challenge.rw_livingclock_k02_clocks_refused.prog) (w := w) (base := base) (k := 6) (sp := sp_are_gaps ([P_are_editions, P_are_touches, P_are_wheel_gaps, P_is_book])) m_are_gaps (ok_are_gaps T C_are_wheel_gaps C_is_tuple_of F_are_gaps) (fun _ _ _ _ _ _ us hl => match us, hl with | [_, _, _], _ => rfl)
    have C_are_gapsO := F_are_gaps.callee (P := PySem.Challenge.rw_livingclock_k02_clocks_refused.prog) (w := w) (base := base) (k := 6) (sp := orP (sp_are_gaps ([P_are_editions, P_are_touches, P_are_wheel_gaps, P_is_book])) (sn_are_gaps ([P_are_editions, P_are_touches, P_are_wheel_gaps, P_is_book]))) m_are_gaps (LX.fn_or (ok_are_gaps T C_are_wheel_gaps C_is_tuple_of F_are_gaps) (ok_are_gaps_b T C_are_wheel_gapsO C_is_tuple_ofE F_are_gaps)) (fun _ _ _ _ _ _ us hl => match us, hl with | [_, _, _], _ => rfl)
    have C_is_entry := F_is_entry.callee (P := PySem.Challenge.rw_livingclock_k02_clocks_refused.prog) (w := w) (base := base) (k := 3) (sp := sp_is_entry) m_is_entry (ok_is_entry T C_is_between C_is_tuple_of F_is_entry) (fun _ _ _ _ _ _ us hl => match us, hl with | [_, _], _ => rfl)
    have C_is_entryB := F_is_entry.callee (P := PySem.Challenge.rw_livingclock_k02_clocks_refused.prog) (w := w) (base := base) (k := 3) (sp := sn_is_entry) m_is_entry (ok_is_entry_b T C_is_betweenE C_is_tuple_ofE F_is_entry) (fun _ _ _ _ _ _ us hl => match us, hl with | [_, _], _ => rfl)
    have C_is_book := F_is_book.callee (P := PySem.Challenge.rw_livingclock_k02_clocks_refused.prog) (w := w) (base := base) (k := 6) (sp := sp_is_book ([P_are_editions, P_are_touches, P_are_wheel_gaps, P_is_book])) m_is_book (ok_is_book T TB_is_book hT_is_book C_is_entry C_is_rising F_is_book) (fun _ _ _ _ _ _ us hl => match us, hl with | [_, _], _ => rfl)
    have C_is_bookB := F_is_book.callee (P := PySem.Challenge.rw_livingclock_k02_clocks_refused.prog) (w := w) (base := base) (k := 6) (sp := sn_is_book ([P_are_editions, P_are_touches, P_are_wheel_gaps, P_is_book])) m_is_book (ok_is_book_b T TB_is_book hT_is_book C_is_entryB C_is_risingA F_is_book) (fun _ _ _ _ _ _ us hl => match us, hl with | [_, _], _ => rfl)
    have C_wrong_part := F_wrong_part.callee (P := PySem.Challenge.rw_livingclock_k02_clocks_refused.prog) (w := w) (base := base) (k := 7) (sp := sp_wrong_part ([P_are_editions, P_are_touches, P_are_wheel_gaps, P_is_book])) m_wrong_part (ok_wrong_part T C_is_tuple_of C_is_between C_are_editions C_are_touches C_are_gaps C_is_book F_wrong_part) (fun _ _ _ _ _ _ us hl => match us, hl with | [_], _ => rfl)
    have C_wrong_partB := F_wrong_part.callee (P := PySem.Challenge.rw_livingclock_k02_clocks_refused.prog) (w := w) (base := base) (k := 7) (sp := sn_wrong_part ([P_are_editions, P_are_touches, P_are_wheel_gaps, P_is_book])) m_wrong_part (ok_wrong_part_b T C_is_tuple_ofE C_is_betweenE C_are_editionsO C_are_touchesO C_are_gapsO C_is_bookB F_wrong_part) (fun _ _ _ _ _ _ us hl => match us, hl with | [_], _ => rfl)
    have R_check_clock := LX.calleeR F_check_clock m_check_clock (k := 8) (P := PySem.Challenge.rw_livingclock_k02_clocks_refused.prog) (w := w) (base := base) (sp := sp_check_clock_r ([P_are_editions, P_are_touches, P_are_wheel_gaps, P_is_book]) ad) (ok_check_clock_r T TI_BadClock C_wrong_part C_wrong_partB F_check_clock) (fun _ _ _ _ _ _ us hl => match us, hl with | [_], _ => rfl)
    have R_check_tick := LX.calleeR F_check_tick m_check_tick (k := 3) (P := PySem.Challenge.rw_livingclock_k02_clocks_refused.prog) (w := w) (base := base) (sp := sp_check_tick_r ad) (ok_check_tick_r T TE C_is_betweenE F_check_tick) (fun _ _ _ _ _ _ us hl => match us, hl with | [_, _], _ => rfl)
    have R_check_wheel := LX.calleeR F_check_wheel m_check_wheel (k := 3) (P := PySem.Challenge.rw_livingclock_k02_clocks_refused.prog) (w := w) (base := base) (sp := sp_check_wheel_r ad) (ok_check_wheel_r T TE C_is_betweenE F_check_wheel) (fun _ _ _ _ _ _ us hl => match us, hl with | [_, _], _ => rfl)
    have R_exchanges := LX.calleeR F_exchanges m_exchanges (k := 9) (P := PySem.Challenge.rw_livingclock_k02_clocks_refused.prog) (w := w) (base := base) (sp := spT ([P_are_editions, P_are_touches, P_are_wheel_gaps, P_is_book]) ad BadClk) (ok_exchanges_r T R_check_clock F_exchanges) (fun _ _ _ _ _ _ us hl => match us, hl with | [_], _ => rfl)
    have R_earliest := LX.calleeR F_earliest m_earliest (k := 9) (P := PySem.Challenge.rw_livingclock_k02_clocks_refused.prog) (w := w) (base := base) (sp := spT ([P_are_editions, P_are_touches, P_are_wheel_gaps, P_is_book]) ad BadClk) (ok_earliest_r T R_check_clock F_earliest) (fun _ _ _ _ _ _ us hl => match us, hl with | [_], _ => rfl)
    have R_ring := LX.calleeR F_ring m_ring (k := 10) (P := PySem.Challenge.rw_livingclock_k02_clocks_refused.prog) (w := w) (base := base) (sp := spT ([P_are_editions, P_are_touches, P_are_wheel_gaps, P_is_book]) ad BadClk) (ok_ring_r T R_earliest F_ring) (fun _ _ _ _ _ _ us hl => match us, hl with | [_], _ => rfl)
    have R_is_ring := LX.calleeR F_is_ring m_is_ring (k := 9) (P := PySem.Challenge.rw_livingclock_k02_clocks_refused.prog) (w := w) (base := base) (sp := spT ([P_are_editions, P_are_touches, P_are_wheel_gaps, P_is_book]) ad BadRg) (ok_is_ring_r T R_check_clock F_is_ring) (fun _ _ _ _ _ _ us hl => match us, hl with | [_, _], _ => rfl)
    have R_touching := LX.calleeR F_touching m_touching (k := 9) (P := PySem.Challenge.rw_livingclock_k02_clocks_refused.prog) (w := w) (base := base) (sp := spT ([P_are_editions, P_are_touches, P_are_wheel_gaps, P_is_book]) ad BadTo) (ok_touching_r T R_check_clock R_check_tick F_touching) (fun _ _ _ _ _ _ us hl => match us, hl with | [_, _], _ => rfl)
    have R_needed := LX.calleeR F_needed m_needed (k := 9) (P := PySem.Challenge.rw_livingclock_k02_clocks_refused.prog) (w := w) (base := base) (sp := spT ([P_are_editions, P_are_touches, P_are_wheel_gaps, P_is_book]) ad BadNd) (ok_needed_r T TE R_check_clock R_check_wheel C_is_betweenE F_needed) (fun _ _ _ _ _ _ us hl => match us, hl with | [_, _, _, _], _ => rfl)
    have C_law_taken := F_law_taken.callee (P := PySem.Challenge.rw_livingclock_k02_clocks_refused.prog) (w := w) (base := base) (k := 1) (sp := sb_taken K) m_law_taken (ok_law_taken T  F_law_taken) (fun _ _ _ _ _ _ us hl => match us, hl with | [_, _], _ => rfl)
    have C_law_low_clock := F_law_low_clock.callee (P := PySem.Challenge.rw_livingclock_k02_clocks_refused.prog) (w := w) (base := base) (k := 2) (sp := sp_low_clockX K) m_law_low_clock (ok_law_low_clockX T C_law_taken F_law_low_clock) (fun _ _ _ _ _ _ us hl => match us, hl with | [_, _, _, _, _], _ => rfl)
    have C_law_pick := F_law_pick.callee (P := PySem.Challenge.rw_livingclock_k02_clocks_refused.prog) (w := w) (base := base) (k := 2) (sp := sp_law_pick K) m_law_pick (ok_law_pick T C_law_taken F_law_pick) (fun _ _ _ _ _ _ us hl => match us, hl with | [_, _], _ => rfl)
    have C_law_works := F_law_works.callee (P := PySem.Challenge.rw_livingclock_k02_clocks_refused.prog) (w := w) (base := base) (k := 1) (sp := sp_law_works P_law_works) m_law_works (ok_law_works T TL_law_works  F_law_works) (fun _ _ _ _ _ _ us hl => match us, hl with | [_, _, _, _], _ => rfl)
    have C_law_refused := F_law_refused.callee (P := PySem.Challenge.rw_livingclock_k02_clocks_refused.prog) (w := w) (base := base) (k := 12) (sp := sp_law_refused PySem.Challenge.rw_livingclock_k02_clocks_refused.prog w K mg base ad 11) m_law_refused (ok_law_refused T TE V_BadClock F_law_refused) (fun _ _ _ _ _ _ us hl => match us, hl with | [_], _ => rfl)
    exact ok_law T NT C_law_taken C_law_low_clock C_law_pick C_law_refused C_law_works R_exchanges R_earliest R_ring R_is_ring R_touching R_needed F_law
end K02
-- K02_end
open PySem PySem.W PyProof.Rows
set_option maxRecDepth 100000 in
set_option maxHeartbeats 16000000 in
theorem PySem.Challenge.cw_livingclock_k02_clocks_refused_holds : PySem.Challenge.rw_livingclock_k02_clocks_refused.Holds := by
  w_on; o_law; k_head; (case hw => w_witness2)
  k_fill
  refine LC.walk_tb (l := PySem.Challenge.rw_livingclock_k02_clocks_refused) (n := 63) (k := 13) (CX := fun _ => L2.CX0) (x := "script") (by rfl) (by decide) rfl ⟨rfl, by decide, by decide⟩ (fun w h Y => by first | exact PySem.W.kIn_of Y | exact PySem.W.km_in_of Y) ?F (fun _ _ _ _ _ z => z)
  case F =>
    intro w mg fa h Y XX KX G hmg tabs
    have T : K02.Txt mg := by
      refine' {g_all := PySem.W.mg_none_of KX G ?g_all, g_bool := PySem.W.mg_none_of KX G ?g_bool, g_divmod := PySem.W.mg_none_of KX G ?g_divmod, g_enumerate := PySem.W.mg_none_of KX G ?g_enumerate, g_int := PySem.W.mg_none_of KX G ?g_int, g_isinstance := PySem.W.mg_none_of KX G ?g_isinstance, g_len := PySem.W.mg_none_of KX G ?g_len, g_list := PySem.W.mg_none_of KX G ?g_list, g_max := PySem.W.mg_none_of KX G ?g_max, g_min := PySem.W.mg_none_of KX G ?g_min, g_range := PySem.W.mg_none_of KX G ?g_range, g_sorted := PySem.W.mg_none_of KX G ?g_sorted, g_sum := PySem.W.mg_none_of KX G ?g_sum, g_tuple := PySem.W.mg_none_of KX G ?g_tuple, g_zip := PySem.W.mg_none_of KX G ?g_zip, m_MOST := LC.loose_int XX.2 (by simp), m_MOST_PERIOD := LC.mg_int KX G ?m_MOST_PERIOD, m_MOST_WHEELS := LC.mg_int KX G ?m_MOST_WHEELS, m_MOST_EDITION := LC.mg_int KX G ?m_MOST_EDITION, m_MOST_EXCHANGES := LC.mg_int KX G ?m_MOST_EXCHANGES, m_MOST_PAIRS := LC.mg_int KX G ?m_MOST_PAIRS}
      case g_all => k_is
      case g_bool => k_is
      case g_divmod => k_is
      case g_enumerate => k_is
      case g_int => k_is
      case g_isinstance => k_is
      case g_len => k_is
      case g_list => k_is
      case g_max => k_is
      case g_min => k_is
      case g_range => k_is
      case g_sorted => k_is
      case g_sum => k_is
      case g_tuple => k_is
      case g_zip => k_is
      case m_MOST_PERIOD => k_is
      case m_MOST_WHEELS => k_is
      case m_MOST_EDITION => k_is
      case m_MOST_EXCHANGES => k_is
      case m_MOST_PAIRS => k_is
    refine' K02.law_at KX G hmg T (LC.defAt_mk ?a_is_whole ?l_is_whole ?c_is_whole ?k_is_whole) (LC.defAt_mk ?a_is_between ?l_is_between ?c_is_between ?k_is_between) (LC.defAt_mk ?a_is_tuple_of ?l_is_tuple_of ?c_is_tuple_of ?k_is_tuple_of) (LC.defAt_mk ?a_is_rising ?l_is_rising ?c_is_rising ?k_is_rising) (LC.defAt_mk ?a_is_touch ?l_is_touch ?c_is_touch ?k_is_touch) (LC.defAt_mk ?a_are_editions ?l_are_editions ?c_are_editions ?k_are_editions) (LC.defAt_mk ?a_are_touches ?l_are_touches ?c_are_touches ?k_are_touches) (LC.defAt_mk ?a_are_wheel_gaps ?l_are_wheel_gaps ?c_are_wheel_gaps ?k_are_wheel_gaps) (LC.defAt_mk ?a_are_gaps ?l_are_gaps ?c_are_gaps ?k_are_gaps) (LC.defAt_mk ?a_is_entry ?l_is_entry ?c_is_entry ?k_is_entry) (LC.defAt_mk ?a_is_book ?l_is_book ?c_is_book ?k_is_book) (LC.defAt_mk ?a_wrong_part ?l_wrong_part ?c_wrong_part ?k_wrong_part) (LC.defAt_mk ?a_check_clock ?l_check_clock ?c_check_clock ?k_check_clock) (LC.defAt_mk ?a_check_tick ?l_check_tick ?c_check_tick ?k_check_tick) (LC.defAt_mk ?a_check_wheel ?l_check_wheel ?c_check_wheel ?k_check_wheel) (LC.defAt_mk ?a_exchanges ?l_exchanges ?c_exchanges ?k_exchanges) (LC.defAt_mk ?a_earliest ?l_earliest ?c_earliest ?k_earliest) (LC.defAt_mk ?a_ring ?l_ring ?c_ring ?k_ring) (LC.defAt_mk ?a_is_ring ?l_is_ring ?c_is_ring ?k_is_ring) (LC.defAt_mk ?a_touching ?l_touching ?c_touching ?k_touching) (LC.defAt_mk ?a_needed ?l_needed ?c_needed ?k_needed) (LC.defAt_mk ?a_law_taken ?l_law_taken ?c_law_taken ?k_law_taken) (LC.defAt_mk ?a_law_low_clock ?l_law_low_clock ?c_law_low_clock ?k_law_low_clock) (LC.defAt_mk ?a_law_pick ?l_law_pick ?c_law_pick ?k_law_pick) (LC.defAt_mk ?a_law_works ?l_law_works ?c_law_works ?k_law_works) (LC.defAt_mk ?a_law_refused ?l_law_refused ?c_law_refused ?k_law_refused) (LC.defAt_mk ?a_law ?l_law ?c_law ?k_law) tabs ?r_are_editions ?lc_are_editions ?h_are_editions ?n_are_editions ?r_are_touches ?lc_are_touches ?h_are_touches ?n_are_touches ?r_are_wheel_gaps ?lc_are_wheel_gaps ?h_are_wheel_gaps ?n_are_wheel_gaps ?r_is_book ?lc_is_book ?h_is_book ?n_is_book ?r_law_works ?lc_law_works ?h_law_works ?n_law_works ?n_ClockError (LX.baseI_mk ?b1 ?b2 ?b3 ?b4) ?n_BadClock (LX.errK_mk ?e0_BadClock ?e1_BadClock ?e2_BadClock ?e3_BadClock ?e4_BadClock ?e5_BadClock ?e6_BadClock ?e7_BadClock ?e8_BadClock ?e9_BadClock) ?m_BadClock ?n_BadWheel (LX.errK_mk ?e0_BadWheel ?e1_BadWheel ?e2_BadWheel ?e3_BadWheel ?e4_BadWheel ?e5_BadWheel ?e6_BadWheel ?e7_BadWheel ?e8_BadWheel ?e9_BadWheel) ?m_BadWheel ?x_BadWheel ?n_BadEdition (LX.errK_mk ?e0_BadEdition ?e1_BadEdition ?e2_BadEdition ?e3_BadEdition ?e4_BadEdition ?e5_BadEdition ?e6_BadEdition ?e7_BadEdition ?e8_BadEdition ?e9_BadEdition) ?m_BadEdition ?x_BadEdition ?n_BadTick (LX.errK_mk ?e0_BadTick ?e1_BadTick ?e2_BadTick ?e3_BadTick ?e4_BadTick ?e5_BadTick ?e6_BadTick ?e7_BadTick ?e8_BadTick ?e9_BadTick) ?m_BadTick ?x_BadTick (LX.oexC_mk ?q1_BadClock ?q2_BadClock ?q3_BadClock (LX.errK_mk ?f0_BadClock ?f1_BadClock ?f2_BadClock ?f3_BadClock ?f4_BadClock ?f5_BadClock ?f6_BadClock ?f7_BadClock ?f8_BadClock ?f9_BadClock)) ?v_BadClock ?i_BadClock ?y_BadClock ?ll_BadClock ?u_BadClock ?k_BadClock_BadClock ?k_BadClock_BadWheel ?k_BadClock_BadEdition ?k_BadClock_BadTick ?k_BadWheel_BadClock ?k_BadWheel_BadWheel ?k_BadWheel_BadEdition ?k_BadWheel_BadTick ?k_BadEdition_BadClock ?k_BadEdition_BadWheel ?k_BadEdition_BadEdition ?k_BadEdition_BadTick ?k_BadTick_BadClock ?k_BadTick_BadWheel ?k_BadTick_BadEdition ?k_BadTick_BadTick ?nt
    (case n_ClockError => first | k_is | k_exc | rfl | decide +kernel)
    (case b1 => first | k_is | k_exc | rfl | decide +kernel)
    (case b2 => first | k_is | k_exc | rfl | decide +kernel)
    (case b3 => first | k_is | k_exc | rfl | decide +kernel)
    (case b4 => first | k_is | k_exc | rfl | decide +kernel)
    (case n_BadClock => first | k_is | k_exc | rfl | decide +kernel)
    (case e0_BadClock => first | k_is | k_exc | rfl | decide +kernel)
    (case e1_BadClock => first | k_is | k_exc | rfl | decide +kernel)
    (case e2_BadClock => first | k_is | k_exc | rfl | decide +kernel)
    (case e3_BadClock => first | k_is | k_exc | rfl | decide +kernel)
    (case e4_BadClock => first | k_is | k_exc | rfl | decide +kernel)
    (case e5_BadClock => first | k_is | k_exc | rfl | decide +kernel)
    (case e6_BadClock => first | k_is | k_exc | rfl | decide +kernel)
    (case e7_BadClock => first | k_is | k_exc | rfl | decide +kernel)
    (case e8_BadClock => first | k_is | k_exc | rfl | decide +kernel)
    (case e9_BadClock => first | k_is | k_exc | rfl | decide +kernel)
    (case m_BadClock => first | k_is | k_exc | rfl | decide +kernel)
    (case n_BadWheel => first | k_is | k_exc | rfl | decide +kernel)
    (case e0_BadWheel => first | k_is | k_exc | rfl | decide +kernel)
    (case e1_BadWheel => first | k_is | k_exc | rfl | decide +kernel)
    (case e2_BadWheel => first | k_is | k_exc | rfl | decide +kernel)
    (case e3_BadWheel => first | k_is | k_exc | rfl | decide +kernel)
    (case e4_BadWheel => first | k_is | k_exc | rfl | decide +kernel)
    (case e5_BadWheel => first | k_is | k_exc | rfl | decide +kernel)
    (case e6_BadWheel => first | k_is | k_exc | rfl | decide +kernel)
    (case e7_BadWheel => first | k_is | k_exc | rfl | decide +kernel)
    (case e8_BadWheel => first | k_is | k_exc | rfl | decide +kernel)
    (case e9_BadWheel => first | k_is | k_exc | rfl | decide +kernel)
    (case m_BadWheel => first | k_is | k_exc | rfl | decide +kernel)
    (case x_BadWheel => first | k_is | k_exc | rfl | decide +kernel)
    (case n_BadEdition => first | k_is | k_exc | rfl | decide +kernel)
    (case e0_BadEdition => first | k_is | k_exc | rfl | decide +kernel)
    (case e1_BadEdition => first | k_is | k_exc | rfl | decide +kernel)
    (case e2_BadEdition => first | k_is | k_exc | rfl | decide +kernel)
    (case e3_BadEdition => first | k_is | k_exc | rfl | decide +kernel)
    (case e4_BadEdition => first | k_is | k_exc | rfl | decide +kernel)
    (case e5_BadEdition => first | k_is | k_exc | rfl | decide +kernel)
    (case e6_BadEdition => first | k_is | k_exc | rfl | decide +kernel)
    (case e7_BadEdition => first | k_is | k_exc | rfl | decide +kernel)
    (case e8_BadEdition => first | k_is | k_exc | rfl | decide +kernel)
    (case e9_BadEdition => first | k_is | k_exc | rfl | decide +kernel)
    (case m_BadEdition => first | k_is | k_exc | rfl | decide +kernel)
    (case x_BadEdition => first | k_is | k_exc | rfl | decide +kernel)
    (case n_BadTick => first | k_is | k_exc | rfl | decide +kernel)
    (case e0_BadTick => first | k_is | k_exc | rfl | decide +kernel)
    (case e1_BadTick => first | k_is | k_exc | rfl | decide +kernel)
    (case e2_BadTick => first | k_is | k_exc | rfl | decide +kernel)
    (case e3_BadTick => first | k_is | k_exc | rfl | decide +kernel)
    (case e4_BadTick => first | k_is | k_exc | rfl | decide +kernel)
    (case e5_BadTick => first | k_is | k_exc | rfl | decide +kernel)
    (case e6_BadTick => first | k_is | k_exc | rfl | decide +kernel)
    (case e7_BadTick => first | k_is | k_exc | rfl | decide +kernel)
    (case e8_BadTick => first | k_is | k_exc | rfl | decide +kernel)
    (case e9_BadTick => first | k_is | k_exc | rfl | decide +kernel)
    (case m_BadTick => first | k_is | k_exc | rfl | decide +kernel)
    (case x_BadTick => first | k_is | k_exc | rfl | decide +kernel)
    (case q1_BadClock => first | k_is | k_exc | rfl | decide +kernel)
    (case q2_BadClock => decide +kernel)
    (case q3_BadClock => first | k_is | k_exc | rfl | decide +kernel)
    (case f0_BadClock => first | k_is | k_exc | rfl | decide +kernel)
    (case f1_BadClock => first | k_is | k_exc | rfl | decide +kernel)
    (case f2_BadClock => first | k_is | k_exc | rfl | decide +kernel)
    (case f3_BadClock => first | k_is | k_exc | rfl | decide +kernel)
    (case f4_BadClock => first | k_is | k_exc | rfl | decide +kernel)
    (case f5_BadClock => first | k_is | k_exc | rfl | decide +kernel)
    (case f6_BadClock => first | k_is | k_exc | rfl | decide +kernel)
    (case f7_BadClock => first | k_is | k_exc | rfl | decide +kernel)
    (case f8_BadClock => first | k_is | k_exc | rfl | decide +kernel)
    (case f9_BadClock => first | k_is | k_exc | rfl | decide +kernel)
    (case v_BadClock => first | k_is | k_exc | rfl | decide +kernel)
    (case i_BadClock => first | k_is | k_exc | rfl | decide +kernel)
    (case y_BadClock => first | k_is | k_exc | rfl | decide +kernel)
    (case ll_BadClock => first | k_is | k_exc | rfl | decide +kernel)
    (case u_BadClock => first | k_is | k_exc | rfl | decide +kernel)
    (case k_BadClock_BadClock => first | k_is | k_exc | rfl | decide +kernel)
    (case k_BadClock_BadWheel => first | k_is | k_exc | rfl | decide +kernel)
    (case k_BadClock_BadEdition => first | k_is | k_exc | rfl | decide +kernel)
    (case k_BadClock_BadTick => first | k_is | k_exc | rfl | decide +kernel)
    (case k_BadWheel_BadClock => first | k_is | k_exc | rfl | decide +kernel)
    (case k_BadWheel_BadWheel => first | k_is | k_exc | rfl | decide +kernel)
    (case k_BadWheel_BadEdition => first | k_is | k_exc | rfl | decide +kernel)
    (case k_BadWheel_BadTick => first | k_is | k_exc | rfl | decide +kernel)
    (case k_BadEdition_BadClock => first | k_is | k_exc | rfl | decide +kernel)
    (case k_BadEdition_BadWheel => first | k_is | k_exc | rfl | decide +kernel)
    (case k_BadEdition_BadEdition => first | k_is | k_exc | rfl | decide +kernel)
    (case k_BadEdition_BadTick => first | k_is | k_exc | rfl | decide +kernel)
    (case k_BadTick_BadClock => first | k_is | k_exc | rfl | decide +kernel)
    (case k_BadTick_BadWheel => first | k_is | k_exc | rfl | decide +kernel)
    (case k_BadTick_BadEdition => first | k_is | k_exc | rfl | decide +kernel)
    (case k_BadTick_BadTick => first | k_is | k_exc | rfl | decide +kernel)
    (case a_is_whole => k_is); (case l_is_whole => k_is); (case c_is_whole => k_is); (case k_is_whole => k_is)
    (case a_is_between => k_is); (case l_is_between => k_is); (case c_is_between => k_is); (case k_is_between => k_is)
    (case a_is_tuple_of => k_is); (case l_is_tuple_of => k_is); (case c_is_tuple_of => k_is); (case k_is_tuple_of => k_is)
    (case a_is_rising => k_is); (case l_is_rising => k_is); (case c_is_rising => k_is); (case k_is_rising => k_is)
    (case a_is_touch => k_is); (case l_is_touch => k_is); (case c_is_touch => k_is); (case k_is_touch => k_is)
    (case a_are_editions => k_is); (case l_are_editions => k_is); (case c_are_editions => k_is); (case k_are_editions => k_is)
    (case a_are_touches => k_is); (case l_are_touches => k_is); (case c_are_touches => k_is); (case k_are_touches => k_is)
    (case a_are_wheel_gaps => k_is); (case l_are_wheel_gaps => k_is); (case c_are_wheel_gaps => k_is); (case k_are_wheel_gaps => k_is)
    (case a_are_gaps => k_is); (case l_are_gaps => k_is); (case c_are_gaps => k_is); (case k_are_gaps => k_is)
    (case a_is_entry => k_is); (case l_is_entry => k_is); (case c_is_entry => k_is); (case k_is_entry => k_is)
    (case a_is_book => k_is); (case l_is_book => k_is); (case c_is_book => k_is); (case k_is_book => k_is)
    (case a_wrong_part => k_is); (case l_wrong_part => k_is); (case c_wrong_part => k_is); (case k_wrong_part => k_is)
    (case a_check_clock => k_is); (case l_check_clock => k_is); (case c_check_clock => k_is); (case k_check_clock => k_is)
    (case a_check_tick => k_is); (case l_check_tick => k_is); (case c_check_tick => k_is); (case k_check_tick => k_is)
    (case a_check_wheel => k_is); (case l_check_wheel => k_is); (case c_check_wheel => k_is); (case k_check_wheel => k_is)
    (case a_exchanges => k_is); (case l_exchanges => k_is); (case c_exchanges => k_is); (case k_exchanges => k_is)
    (case a_earliest => k_is); (case l_earliest => k_is); (case c_earliest => k_is); (case k_earliest => k_is)
    (case a_ring => k_is); (case l_ring => k_is); (case c_ring => k_is); (case k_ring => k_is)
    (case a_is_ring => k_is); (case l_is_ring => k_is); (case c_is_ring => k_is); (case k_is_ring => k_is)
    (case a_touching => k_is); (case l_touching => k_is); (case c_touching => k_is); (case k_touching => k_is)
    (case a_needed => k_is); (case l_needed => k_is); (case c_needed => k_is); (case k_needed => k_is)
    (case a_law_taken => k_is); (case l_law_taken => k_is); (case c_law_taken => k_is); (case k_law_taken => k_is)
    (case a_law_low_clock => k_is); (case l_law_low_clock => k_is); (case c_law_low_clock => k_is); (case k_law_low_clock => k_is)
    (case a_law_pick => k_is); (case l_law_pick => k_is); (case c_law_pick => k_is); (case k_law_pick => k_is)
    (case a_law_works => k_is); (case l_law_works => k_is); (case c_law_works => k_is); (case k_law_works => k_is)
    (case a_law_refused => k_is); (case l_law_refused => k_is); (case c_law_refused => k_is); (case k_law_refused => k_is)
    (case a_law => k_is); (case l_law => k_is); (case c_law => k_is); (case k_law => k_is)
    (case r_are_editions => decide +kernel); (case lc_are_editions => k_is); (case h_are_editions => rfl); (case n_are_editions => rfl)
    (case r_are_touches => decide +kernel); (case lc_are_touches => k_is); (case h_are_touches => rfl); (case n_are_touches => rfl)
    (case r_are_wheel_gaps => decide +kernel); (case lc_are_wheel_gaps => k_is); (case h_are_wheel_gaps => rfl); (case n_are_wheel_gaps => rfl)
    (case r_is_book => decide +kernel); (case lc_is_book => k_is); (case h_is_book => rfl); (case n_is_book => rfl)
    (case r_law_works => decide +kernel); (case lc_law_works => k_is); (case h_law_works => rfl); (case n_law_works => rfl)
    (case nt => decide)
