import PyProof.Rows.All
import Wide.All
import OpenK.AllK
import Wide.FinOn
import HandS.ForMost
import HandS.GenList
import HandS.AnyAll
import PyProof.TupleOfGen
import HandS.SortKw
import HandS.Zip
import HandS.Conv
import HandS.TupSets
import HandS.IsInst
import HandS.Wide
import HandS.Flow
import KE.GoesMore
import PySem.Challenge.RW_livingclock_k17_whole_safe
import HandS.TupAny
import KE.KEqSeq
import HandS.SetFor
import HandS.Strs
import KE.SortData
import PyProof.LongRange
import HandS.Gcd
import HandS.DictComp
import HandS.DictTup
import KE.KDictCopyH
import HandS.TupLen
import HandS.Nested
import HandS.WordsExc
import HandS.ExcInit
import OpenK.KWalk
import HandS.ExcOwn
import HandS.ExcField
import KE.KExcIs
import KE.KTryMore
import HandS.FStr
import PyProof.FString2
import HandS.TupMul
import HandS.Deep
import PyProof.P3Eq
import HandS.ListItems
import KE.KDictZip
import HandS.ForDict
import PyProof.EnumIter
import PyProof.ZipIter
import HandS.EndTab
import HandS.EndBits
import KE.KNest
set_option Elab.async false
set_option linter.all false
set_option maxRecDepth 100000
set_option maxHeartbeats 4000000
-- G1
namespace LC
open PySem PySem.Spec PyProof.Rows L2 GenW

/-- where the parts of a generator expression run: its own frame over the frame that walks it -/
abbrev gx (X : Cx) (B : Around) (s : Shared) (H : Hp) (cenv : Env) (fp : List Addr) : Cx :=
  { X with A := B, s_0 := s, H_0 := H, env := cenv, outer := X.stack, stack := cenv :: X.stack, ex := fp, fn := fun _ => false, pn := [], xe := fun _ _ => False }

/-- the names of a generator expression's scope: its own ones (places in N), the walked thing, captured ones -/
structure GScp (N : List Str) (sc scope : Scope) (own : List (Str × Nat)) : Prop where
  kind : scope.kind = .function
  co : scope.isCoroutine = false
  cell : ∀ y ∈ scope.names, y.2 ≠ .cell
  dot : scope.names.lookup (".0" : Str) = some NameKind.local
  uniq : ∀ y ∈ scope.names, scope.names.lookup y.1 = some y.2
  ix : ∀ p ∈ own, N[p.2]? = some p.1
  free : ∀ y ∈ scope.names, y.2 = .free → sc.names.lookup y.1 = some .cell ∨ sc.names.lookup y.1 = some .free
  own : ∀ y ∈ scope.names, y.2 = .local → y.1 ∈ own.map (·.1) ∨ y.1 ∉ N
def gscpC (N : List Str) (sc scope : Scope) (own : List (Str × Nat)) : Bool :=
  (match scope.kind with | .function => true | _ => false) && !scope.isCoroutine && (scope.names.all fun y => match y.2 with | .cell => false | _ => true) && decide (scope.names.lookup (".0" : Str) = some NameKind.local) &&
  (scope.names.all fun y => decide (scope.names.lookup y.1 = some y.2)) && (own.all fun p => decide (N[p.2]? = some p.1)) &&
    (scope.names.all fun y => match y.2 with
      | .free => (match sc.names.lookup y.1 with | some .cell => true | some .free => true | _ => false)
      | .local => decide (y.1 ∈ own.map (·.1)) || decide (y.1 ∉ N)
      | _ => true)
theorem gscp_by {N : List Str} {sc scope : Scope} {own : List (Str × Nat)} (h : gscpC N sc scope own = true) : GScp N sc scope own := by
  unfold gscpC at h
  simp only [Bool.and_eq_true, List.all_eq_true, decide_eq_true_eq, Bool.not_eq_true'] at h
  obtain ⟨⟨⟨⟨⟨⟨h1, h2⟩, h3⟩, h4⟩, h5⟩, h6⟩, h7⟩ := h
  refine ⟨?_, h2, fun y hy e => ?_, h4, h5, h6, fun y hy e => ?_, fun y hy e => ?_⟩
  · split at h1
    · assumption
    · cases h1
  · have := h3 y hy
    rw [e] at this
    cases this
  · have := h7 y hy
    rw [e] at this
    dsimp only at this
    split at this
    · exact .inl (by assumption)
    · exact .inr (by assumption)
    · cases this
  · have := h7 y hy
    rw [e] at this
    dsimp only at this
    rcases Bool.or_eq_true_iff.mp this with z | z
    · exact .inl (of_decide_eq_true z)
    · exact .inr (of_decide_eq_true z)

section
variable {X : Cx} {pins : List (Addr × Obj)} {σ : L2.St} {H : Hp} {s : Shared}
theorem gx_frames {A : Around} {ge : Expr} {it : Value} {env : Env} {l : List Env} (h : A.frames = some l) (hk : (Code.compLoop ge 0 it .none env).envs = [env]) :
    (A.over (.compLoop ge 0 it .none env) []).frames = some (env :: l) := by
  show pushEnvs (Code.envs _) (pushEnvs (envsOf []) A.frames) = _
  rw [hk, h]
  rfl

/-- the expression's own frame, just made -/
theorem gx_start {scope : Scope} {own : List (Str × Nat)} {fp : List Addr} {B : Around} {code : Value} {bi : Addr} {h' : Heap} {tk : Nat} {gs : Array GenState} {m : Str → Option Value}
    (I : Inv X pins σ H s) (ok : GScp X.N X.env.scope scope own) (hN : X.N.Nodup) (hfp : ∀ b ∈ fp, FpOk X pins H b ∧ b < s.heap.objs.size) (hbi : bi = builtinsNs)
    (hfr : B.frames = some (genEnv scope (cloFrom X.env.cells scope.names []) s.heap.objs.size code bi X.env :: X.stack)) (hB : B.handled = none)
    (kp : ∀ b o, s.heap.get? b = some o → h'.get? b = some o) (hns : h'.Ns s.heap.objs.size m) (hgs : AllBare gs) :
    Inv (gx X B s H (genEnv scope (cloFrom X.env.cells scope.names []) s.heap.objs.size code bi X.env) fp) [] (wipe σ (own.map (·.2))) H { s with heap := h', gens := gs, toks := tk } := by
  have hfree : ∀ y ∈ scope.names, y.2 = .free → ∃ c, X.env.cells.lookup y.1 = some c := fun y hy e => by
    rcases ok.free y hy e with k | k
    · exact I.ok.has _ (.inl k)
    · exact I.ok.has _ (.inr k)
  generalize hcenv : genEnv scope (cloFrom X.env.cells scope.names []) s.heap.objs.size code bi X.env = cenv at hfr ⊢
  have hL : cenv.locals = s.heap.objs.size := by rw [← hcenv]; rfl
  have hcl : cenv.cells = cloFrom X.env.cells scope.names [] := by rw [← hcenv]; rfl
  have hsc : cenv.scope = scope := by rw [← hcenv]; rfl
  have mem : ∀ {y c}, cenv.cells.lookup y = some c → X.env.cells.lookup y = some c ∧ c < s.heap.objs.size := fun {y c} e => by
    rw [hcl] at e
    rcases cloFrom_mem (PySem.mem_of_lookup e) with hm | ⟨h1, rfl⟩
    · cases hm
    · obtain ⟨c, hc⟩ := hfree _ h1 rfl
      rw [hc]
      obtain ⟨w, z⟩ := I.cell _ _ hc
      exact ⟨rfl, z.lt⟩
  have look : ∀ {y}, scope.names.lookup y = some .free → ∃ c, cenv.cells.lookup y = some c ∧ X.env.cells.lookup y = some c := fun {y} hl => by
    have hy : (y, NameKind.free) ∈ scope.names := PySem.mem_of_lookup hl
    obtain ⟨c', e'⟩ := mem_lookup (cloFrom_has (cells := X.env.cells) (acc := []) hy)
    rw [← hcl] at e'
    exact ⟨c', e', (mem e').1⟩
  have okB : (gx X B s H cenv fp).Ok := by
    refine ⟨I.ok.mod, by show cenv.scope.kind = _; rw [hsc]; exact ok.kind, by show cenv.globals = _; rw [← hcenv]; exact I.ok.glob, by show cenv.builtins = _; rw [← hcenv]; exact hbi, by show s.heap.objs.size ≤ cenv.locals; rw [hL]; exact Nat.le_refl _,
      fun y z c e1 e2 => I.ok.inj y z c (mem e1).1 (mem e2).1, fun y hy => ?_, fun y c z e => ?_, fun _ => hB, hfr, .inr ⟨rfl, ?_⟩, fun b hb => ⟨?_, fun y c e z => ?_⟩, I.bs, Nat.le_trans I.ok.bsz I.sz, fun b o e hb => ?_, fun b hb z => ?_, I.stack, I.stkFree⟩
    · show ∃ c, cenv.cells.lookup y = some c
      have hy : cenv.kindOf y = some .cell ∨ cenv.kindOf y = some .free := hy
      unfold Env.kindOf at hy
      rw [hsc] at hy
      rcases hy with hy | hy
      · exact absurd rfl (ok.cell _ (PySem.mem_of_lookup hy))
      · obtain ⟨c, h1, _⟩ := look hy
        exact ⟨c, h1⟩
    · cases z
    · show cenv.frame = some cenv.locals
      rw [← hcenv]; rfl
    · show b ≠ cenv.locals
      rw [hL]; exact Nat.ne_of_lt (hfp b hb).2
    · exact (hfp b hb).1.2.2.2.2.1 y c (mem e).1 z
    · rcases (hfp b hb).1.2.2.2.1 with z | z
      · exact I.ok.noex b o e z
      · exact absurd (Nat.lt_of_lt_of_le (Heap.lt_size e) (Nat.le_trans I.ok.bsz z)) (Nat.lt_irrefl _)
    · rcases List.mem_cons.mp (I.stkSub b z) with z | z
      · exact (hfp b hb).1.2.1 z
      · exact (hfp b hb).1.2.2.1 z
  refine ⟨okB, rfl, hgs, Un.kept kp, ⟨m, ?_, fun i y av e1 e2 e3 => ?_⟩, fun y c e => ?_, ?_, fun y c e => ?_, fun p hp => ?_, I.hok.kept kp, by rw [wipe_length]; exact I.len⟩
  · show Heap.Ns _ cenv.locals _
    rw [hL]
    exact hns
  · obtain ⟨e2, hne⟩ := wipe_some e2
    have e3 : Vis cenv.scope y := e3
    have hfr2 : scope.names.lookup y = some .free := by
      unfold Vis at e3
      rw [hsc] at e3
      rcases e3 with e3 | e3 | e3
      · rcases ok.own _ (PySem.mem_of_lookup e3) rfl with e' | e'
        · obtain ⟨p, hp, hpy⟩ := List.mem_map.mp e'
          have e4 := ok.ix p hp
          have : p.1 = y := hpy
          rw [this] at e4
          exact absurd (List.mem_map.mpr ⟨p, hp, nodup_ix hN e4 e1⟩) hne
        · exact absurd (List.mem_of_getElem? e1) e'
      · exact absurd rfl (ok.cell _ (PySem.mem_of_lookup e3))
      · exact e3
    obtain ⟨m', hn, hl⟩ := I.loc
    have hvis : Vis X.env.scope y := (ok.free _ (PySem.mem_of_lookup hfr2) rfl).elim (fun k => .inr (.inl k)) (fun k => .inr (.inr k))
    obtain ⟨w, r, q⟩ := hl i y av e1 e2 hvis
    obtain ⟨c, h1, h2⟩ := look hfr2
    refine ⟨w, r, .inr ⟨.inr ?_, ?_⟩⟩
    · show cenv.scope.names.lookup y = some .free
      rw [hsc]; exact hfr2
    · rcases q with ⟨k, _⟩ | ⟨_, c', e', z⟩
      · have k : X.env.scope.names.lookup y = some .local := k
        rcases ok.free _ (PySem.mem_of_lookup hfr2) rfl with k' | k' <;> rw [show X.env.scope.names.lookup y = _ from k'] at k <;> cases k
      · rw [h2] at e'; cases e'
        exact ⟨c, h1, z.keeps kp⟩
  · obtain ⟨w, z⟩ := I.cell y c (mem e).1
    exact ⟨w, z.keeps kp⟩
  · show H cenv.locals = none
    rw [hL]; exact I.hok.fresh (Nat.le_refl _)
  · exact I.freeC y c (mem e).1
  · exact absurd (show p ∈ ([] : List (Addr × Obj)) ++ [] from hp) (by simp)
end
end LC
-- G2
namespace LC
open PySem PySem.Spec PyProof.Rows L2 GenW

/-- the walked expression at rest (or about to go on): ys is out, i things of the walked one are taken; CP: what the walker holds meanwhile -/
def GInv (Xg : Cx) (tn : Nat → Heap → Prop) (fp : List Addr) (CP : List V → List (Addr × Obj) → Prop) (a : Addr) (go : Obj) (σ0 : L2.St) (ys : List V) (i : Nat) (H : Hp) (s : Shared) : Prop :=
  ∃ cp, CP ys cp ∧ (∀ p ∈ (a, go) :: cp, ∀ b ∈ fp, p.1 ≠ b) ∧ Inv Xg ((a, go) :: cp) σ0 H s ∧ tn i s.heap ∧ ∀ b ∈ fp, H b = none
abbrev GW := List V → Nat → Nat → Hp → Prop
abbrev GO := List V → Nat → Nat → V → Hp → Prop
def GYp (G : List V → Nat → Hp → Shared → Prop) (W : GW) (O : GO) : Protocol := fun _ _ v s kap =>
  ∃ ys i m x H, RelV x v ∧ G ys (i + 1) H s ∧ O ys i m x H ∧ ∀ s' H' m', m' < m → G (ys ++ [x]) (i + 1) H' s' → W (ys ++ [x]) (i + 1) m' H' → kap (.send .none) s'
def GFin (Xg : Cx) (CP : List V → List (Addr × Obj) → Prop) (a : Addr) (go : Obj) (σ0 : L2.St) (End : List V → Hp → Prop) (s : Shared) : Prop := ∃ ys H cp, CP ys cp ∧ Inv Xg ((a, go) :: cp) σ0 H s ∧ End ys H
def GRp (F : Shared → Prop) : GenEnd := fun _ _ r s => r = .ok .next ∧ F s
/-- what the parts of an expression do at each turn -/
def GTurn (J : It) (g : TG) (tt : TT) (te : TE) (vs : List Nat) (σ0 : L2.St) (W : GW) (O : GO) (End : List V → Hp → Prop) : Prop := ∀ ys i m H, W ys i m H →
  (J.stop i H ∧ End ys H) ∨ (J.go i H ∧ ∃ (Oy : V → Hp → Prop) (Nx : Hp → Prop), (∀ y H', Oy y H' → O ys i m y H') ∧ (∀ H', Nx H' → ∃ m', m' < m ∧ W ys (i + 1) m' H') ∧ ∀ x H', J.yld i H x H' → g x σ0 H' fun σ2 H2 => wipe σ2 vs = σ0 ∧ tt σ2 H2 fun b H3 =>
    if b = true then te σ2 H3 fun y H4 => Oy y H4 else Nx H3)

section
variable {X : Cx} {Ag : Around} {elt tg iter : Expr} {ifs : List Expr} {scope : Scope} {gpos : Pos} {it : Addr} {cenv : Env} {fp : List Addr} {tn : Nat → Heap → Prop} {J : It} {s4 : Shared} {H4 : Hp}
  {CP : List V → List (Addr × Obj) → Prop} {a : Addr} {go : Obj} {σ0 : L2.St} {vs : List Nat} {g : TG} {tt : TT} {te : TE} {W : GW} {O : GO} {End : List V → Hp → Prop}

theorem gfp {Xg : Cx} {pins : List (Addr × Obj)} {σ' : L2.St} {H' : Hp} {s' : Shared} (hex : Xg.ex = fp) (hpn : Xg.pn = []) (I' : Inv Xg pins σ' H' s') (hp : ∀ p ∈ pins, ∀ b ∈ fp, p.1 ≠ b) (hn : ∀ b ∈ fp, H' b = none) : ∀ b ∈ fp, FpOk Xg pins H' b := fun b hb =>
  have hb' : b ∈ Xg.ex := by rw [hex]; exact hb
  ⟨hn b hb, (I'.ok.exf b hb').1, I'.ok.exfs b hb', .inl hb', fun x c e => (I'.ok.exf b hb').2 x c e, fun p h => hp p (by rw [hpn] at h; exact h) b hb⟩

theorem ge_loop (hc : X.calm = true) (hco : cenv.scope.isCoroutine = false) (T : Turn X.prog X.w X.K tg J fp it tn)
    (pg : PG (gx X (Ag.over (.compLoop (.GeneratorExp elt [⟨tg, iter, ifs, 0⟩] scope gpos) 0 (.ref it) .none cenv) []) s4 H4 cenv fp) tg g)
    (pt : PTs (gx X (Ag.over (.compLoop (.GeneratorExp elt [⟨tg, iter, ifs, 0⟩] scope gpos) 0 (.ref it) .none cenv) []) s4 H4 cenv fp) ifs tt)
    (pe : PE (gx X (Ag.over (.compLoop (.GeneratorExp elt [⟨tg, iter, ifs, 0⟩] scope gpos) 0 (.ref it) .none cenv) []) s4 H4 cenv fp) elt te)
    (turn : GTurn J g tt te vs σ0 W O End) (hσ : wipe σ0 vs = σ0) :
    ∀ (n m : Nat), m < n → ∀ (ys : List V) (i : Nat) (H : Hp) (s₀ s : Shared),
      GInv (gx X (Ag.over (.compLoop (.GeneratorExp elt [⟨tg, iter, ifs, 0⟩] scope gpos) 0 (.ref it) .none cenv) []) s4 H4 cenv fp) tn fp CP a go σ0 ys i H s → W ys i m H →
      Seg (model X.prog X.w) Ag (GRp (GFin (gx X (Ag.over (.compLoop (.GeneratorExp elt [⟨tg, iter, ifs, 0⟩] scope gpos) 0 (.ref it) .none cenv) []) s4 H4 cenv fp) CP a go σ0 End))
        (GYp (GInv (gx X (Ag.over (.compLoop (.GeneratorExp elt [⟨tg, iter, ifs, 0⟩] scope gpos) 0 (.ref it) .none cenv) []) s4 H4 cenv fp) tn fp CP a go σ0) W O) n s₀
        (.compLoop (.GeneratorExp elt [⟨tg, iter, ifs, 0⟩] scope gpos) 0 (.ref it) .none cenv)
        ((model X.prog X.w).den (.compLoop (.GeneratorExp elt [⟨tg, iter, ifs, 0⟩] scope gpos) 0 (.ref it) .none cenv)) [] s := by
  intro n
  induction n with
  | zero => intro m hm; exact absurd hm (Nat.not_lt_zero _)
  | succ n ihn =>
    intro m
    induction m using Nat.strongRecOn with
    | ind m ihm =>
      intro hm ys i H s₀ s hI hw
      obtain ⟨cp, hcp, hpf, I, st, fr⟩ := hI
      show Seg _ Ag _ _ _ s₀ _ ((compTurn (.GeneratorExp elt [⟨tg, iter, ifs, 0⟩] scope gpos) 0 (.ref it) .none cenv).onRaise (leaving cenv)) [] s
      rw [compTurn_gen, Sem.onRaise_eq_wrap]
      refine seg_bind_wrap (wpAny_standAt ?_)
      rcases turn ys i m H hw with ⟨stop, qend⟩ | ⟨go', Oy, Nx, hOy, hNx, step⟩
      · have td := T.done (gx X (Ag.over (.compLoop (.GeneratorExp elt [⟨tg, iter, ifs, 0⟩] scope gpos) 0 (.ref it) .none cenv) []) s4 H4 cenv fp) rfl rfl rfl hc i _ s _ H (fun _ _ => False) I (gfp rfl rfl I hpf fr) st stop
        refine seg_bind_wrap (thnF td fun r s6 h6 => ?_)
        obtain ⟨hr, I6⟩ := h6
        subst hr
        exact seg_end (.ok .next) ⟨rfl, ys, H, cp, hcp, I6, qend⟩
      · have ti := T.item (gx X (Ag.over (.compLoop (.GeneratorExp elt [⟨tg, iter, ifs, 0⟩] scope gpos) 0 (.ref it) .none cenv) []) s4 H4 cenv fp) rfl rfl rfl hc i _ s _ H (fun _ _ => False) I (gfp rfl rfl I hpf fr) st go'
        refine seg_bind_wrap (thnF ti fun r s6 h6 => ?_)
        obtain ⟨u, hr, h6⟩ := h6
        subst hr
        refine seg_bind_wrap (thnF h6 fun _ s7 h7 => ?_)
        obtain ⟨x, H7, I7, r7, y7, st7, n7⟩ := h7
        have I7' := I7.pinned (gfp rfl rfl I7 hpf n7) (T.obj _ _ st7)
        refine seg_bind_wrap (thnF (pg.run _ s7 _ H7 x u _ I7' r7 (step x H7 y7)) fun _ s8 h8 => ?_)
        obtain ⟨σ8, H8, I8, hw8, q8⟩ := h8
        refine seg_bind_wrap (thnF (pt.run _ s8 σ8 H8 _ I8 q8) fun b s9 h9 => ?_)
        obtain ⟨H9, I9, q9⟩ := h9
        -- the turn's end
        have fin : ∀ {s' : Shared} {H' : Hp}, Inv (gx X (Ag.over (.compLoop (.GeneratorExp elt [⟨tg, iter, ifs, 0⟩] scope gpos) 0 (.ref it) .none cenv) []) s4 H4 cenv fp) (((a, go) :: cp) ++ pinsAt fp s7.heap) σ8 H' s' →
            GInv (gx X (Ag.over (.compLoop (.GeneratorExp elt [⟨tg, iter, ifs, 0⟩] scope gpos) 0 (.ref it) .none cenv) []) s4 H4 cenv fp) tn fp CP a go σ0 ys (i + 1) H' s' := fun {s' H'} I' => by
          have pin' : ∀ b ∈ fp, ∀ o, s7.heap.get? b = some o → s'.heap.get? b = some o ∧ H' b = none := fun b hb o e =>
            let z := I'.pin (b, o) (List.mem_append_right _ (List.mem_append_right _ (mem_pinsAt hb e)))
            ⟨z.1, z.2.1⟩
          have hl : σ0.length = σ8.length := by rw [← hw8, wipe_length]
          refine ⟨cp, hcp, hpf, I'.unpinned.weak hl (fun j v e => ?_), T.keep _ _ _ st7 fun b hb o e => (pin' b hb o e).1, fun b hb => ?_⟩
          · rw [← hw8] at e
            exact (wipe_some e).1
          · obtain ⟨o, e, _⟩ := T.obj _ _ st7 b hb
            exact (pin' b hb o e).2
        cases b with
        | false =>
          simp only [Bool.false_eq_true, if_false] at q9 ⊢
          obtain ⟨m', hm', w'⟩ := hNx _ q9
          exact seg_again rfl (ihm m' hm' (Nat.lt_trans hm' hm) ys (i + 1) H9 s₀ s9 (fin I9) w')
        | true =>
          simp only [if_true] at q9 ⊢
          have hy : ∀ v, yieldOut cenv v = yieldValue v := fun v => by simp only [yieldOut, hco, Bool.false_eq_true, if_false]
          simp only [hy]
          rw [Sem.bind_eq_wrap', Sem.bind_eq_wrap', Sem.wrap_wrap, Sem.wrap_wrap]
          refine seg_wrap (thnF (pe.run _ s9 σ8 H9 _ I9 q9) fun z s10 h10 => ?_)
          obtain ⟨yv, H10, I10, r10, q10⟩ := h10
          refine seg_at (seg_yield rfl rfl rfl ⟨ys, i, m, yv, H10, r10, fin I10, hOy _ _ q10, fun s' H' m' hm' G' w' => ?_⟩)
          exact seg_again rfl (ihn m' (Nat.lt_of_lt_of_le hm' (Nat.le_of_lt_succ hm)) (ys ++ [yv]) (i + 1) H' s' s' G' w')
end
end LC
-- G3
namespace LC
open PySem PySem.Spec PyProof.Rows L2 GenW

section
variable {X : Cx} {pins : List (Addr × Obj)} {σ : L2.St} {H : Hp} {s : Shared}
theorem inv_gens {gs : Array GenState} (I : Inv X pins σ H s) (h : AllBare gs) : Inv X pins σ H { s with gens := gs } :=
  ⟨I.ok, I.os, h, I.base, I.loc, I.cell, I.free, I.freeC, I.pin, I.hok, I.len⟩
theorem inv_setGen {g : Nat} {x : GenState} (I : Inv X pins σ H s) (h : x.bare = true) : Inv X pins σ H (s.setGen g x) := inv_gens I (allBare_setGen I.bare h)
theorem ginv_setGen {Xg : Cx} {tn : Nat → Heap → Prop} {fp : List Addr} {CP : List V → List (Addr × Obj) → Prop} {a : Addr} {go : Obj} {σ0 : L2.St} {ys : List V} {i : Nat} {g : Nat} {x : GenState}
    (h : GInv Xg tn fp CP a go σ0 ys i H s) (hb : x.bare = true) : GInv Xg tn fp CP a go σ0 ys i H (s.setGen g x) := by
  obtain ⟨cp, h1, h2, I, st, fr⟩ := h
  exact ⟨cp, h1, h2, inv_setGen I hb, st, fr⟩
end

section
variable {X : Cx} {Ag : Around} {elt tg iter : Expr} {ifs : List Expr} {scope : Scope} {gpos : Pos} {it : Addr} {cenv : Env} {fp : List Addr} {tn : Nat → Heap → Prop} {J : It} {s4 : Shared} {H4 : Hp}
  {CP : List V → List (Addr × Obj) → Prop} {a : Addr} {go : Obj} {σ0 : L2.St} {vs : List Nat} {g : TG} {tt : TT} {te : TE} {W : GW} {O : GO} {End : List V → Hp → Prop}
theorem ge_begin (hc : X.calm = true) (hco : cenv.scope.isCoroutine = false) (T : Turn X.prog X.w X.K tg J fp it tn)
    (pg : PG (gx X (Ag.over (.compLoop (.GeneratorExp elt [⟨tg, iter, ifs, 0⟩] scope gpos) 0 (.ref it) .none cenv) []) s4 H4 cenv fp) tg g)
    (pt : PTs (gx X (Ag.over (.compLoop (.GeneratorExp elt [⟨tg, iter, ifs, 0⟩] scope gpos) 0 (.ref it) .none cenv) []) s4 H4 cenv fp) ifs tt)
    (pe : PE (gx X (Ag.over (.compLoop (.GeneratorExp elt [⟨tg, iter, ifs, 0⟩] scope gpos) 0 (.ref it) .none cenv) []) s4 H4 cenv fp) elt te)
    (turn : GTurn J g tt te vs σ0 W O End) (hσ : wipe σ0 vs = σ0)
    (n m : Nat) (hm : m < n) (ys : List V) (i : Nat) (H : Hp) (s₀ s : Shared)
    (hI : GInv (gx X (Ag.over (.compLoop (.GeneratorExp elt [⟨tg, iter, ifs, 0⟩] scope gpos) 0 (.ref it) .none cenv) []) s4 H4 cenv fp) tn fp CP a go σ0 ys i H s) (hw : W ys i m H) :
      Seg (model X.prog X.w) Ag (GRp (GFin (gx X (Ag.over (.compLoop (.GeneratorExp elt [⟨tg, iter, ifs, 0⟩] scope gpos) 0 (.ref it) .none cenv) []) s4 H4 cenv fp) CP a go σ0 End))
        (GYp (GInv (gx X (Ag.over (.compLoop (.GeneratorExp elt [⟨tg, iter, ifs, 0⟩] scope gpos) 0 (.ref it) .none cenv) []) s4 H4 cenv fp) tn fp CP a go σ0) W O) n s₀
        (.compStart (.GeneratorExp elt [⟨tg, iter, ifs, 0⟩] scope gpos) 0 (.ref it) .none cenv)
        ((model X.prog X.w).den (.compStart (.GeneratorExp elt [⟨tg, iter, ifs, 0⟩] scope gpos) 0 (.ref it) .none cenv)) [] s := by
  have loop := ge_loop (CP := CP) (a := a) (go := go) hc hco T pg pt pe turn hσ n m hm ys i H s₀ s hI hw
  obtain ⟨cp, hcp, hpf, I, st, fr⟩ := hI
  show Seg _ Ag _ _ _ s₀ _ ((compStart (.GeneratorExp elt [⟨tg, iter, ifs, 0⟩] scope gpos) 0 (.ref it) .none cenv).onRaise (leaving cenv)) [] s
  unfold compStart
  rw [Sem.onRaise_eq_wrap]
  show Seg _ Ag _ _ _ s₀ _ ((ask >>= _).wrap _ _ _ _) [] s
  refine seg_bind_wrap (wpAny_askSetting ?_)
  split
  · exact seg_again rfl loop
  · first
      | exact seg_bind_wrap (wpAny_rule (seg_bind_wrap (wpAny_standAt (seg_bind_wrap (T.self _ i s _ _ st (seg_again rfl loop))))))
      | (refine seg_bind_wrap (wpAny_rule ?_); show Seg _ Ag _ _ _ s₀ _ ((standAt iter.pos >>= _).wrap _ _ _ _) [] s; exact seg_bind_wrap (wpAny_standAt (seg_bind_wrap (T.self _ i s _ _ st (seg_again rfl loop)))))
end

/-- a generator expression made in X, not yet begun: J is what it walks, H1 the heap (its def's table at P may have grown) -/
def GReady (X : Cx) (pins : List (Addr × Obj)) (σ : L2.St) (elt tg iter : Expr) (ifs : List Expr) (scope : Scope) (gpos : Pos) (vs : List Nat) (P : Addr) (R : It → Hp → Prop) (u : Value) (s5 : Shared) : Prop :=
  ∃ (a : Addr) (gi : Nat) (s4 : Shared) (H1 H4 : Hp) (J : It) (fp : List Addr) (tn : Nat → Heap → Prop) (it : Addr) (go : Obj) (nm qn code : Value),
    u = .ref a ∧ GxR.Tabbed P H1 H4 ∧ R J H1 ∧ Inv X pins σ H4 s4 ∧ (∀ b ∈ fp, FpOk X pins H4 b) ∧ Turn X.prog X.w X.K tg J fp it tn ∧ tn 0 s5.heap ∧
    go.cls = .type "generator" ∧ go.data = .fields #[.int gi 0, nm, qn] ∧ go.slots = #[] ∧ s5.heap.get? a = some go ∧ s4.heap.objs.size < a ∧ (∀ b ∈ fp, b < s4.heap.objs.size) ∧
    s5.gens[gi]? = some (.fresh (.compStart (.GeneratorExp elt [⟨tg, iter, ifs, 0⟩] scope gpos) 0 (.ref it) .none (genEnv scope (cloFrom X.env.cells scope.names []) s4.heap.objs.size code builtinsNs X.env))) ∧
    ∀ B : Around, B.frames = some (genEnv scope (cloFrom X.env.cells scope.names []) s4.heap.objs.size code builtinsNs X.env :: X.stack) → B.handled = none →
      Inv (gx X B s4 H4 (genEnv scope (cloFrom X.env.cells scope.names []) s4.heap.objs.size code builtinsNs X.env) fp) [(a, go)] (wipe σ vs) H4 s5

theorem ge_make {X : Cx} {pins : List (Addr × Obj)} {σ : L2.St} {H : Hp} {s : Shared} {c P : Addr} {elt tg iter : Expr} {ifs : List Expr} {gpos : Pos} {scope : Scope} {own : List (Str × Nat)} {wi : TI} {k : Nat} {Q' : Value → Shared → Prop} {R : It → Hp → Prop}
    (hr : Room k X.A) (hN : X.N.Nodup) (TB : GxR.TabB X.base X.mg c P) (hcode : X.env.code = .ref c) (ok : GScp X.N X.env.scope scope own) (hi : PI X tg iter wi)
    (hs : ∀ v, genFold iter X.env v = pure v) (I : Inv X pins σ H s) (h : wi σ H fun J H1 => GxR.TabG H1 P ∧ R J H1)
    (hQ : ∀ u s5, GReady X pins σ elt tg iter ifs scope gpos (own.map (·.2)) P R u s5 → Q' u s5) :
    wpAny (model X.prog X.w) X.A (eval (.GeneratorExp elt [⟨tg, iter, ifs, 0⟩] scope gpos) X.env) Q' X.xe s := by
  have hfree : ∀ y ∈ scope.names, y.2 = .free → ∃ c, X.env.cells.lookup y.1 = some c := fun y hy e => by
    rcases ok.free y hy e with k | k
    · exact I.ok.has _ (.inl k)
    · exact I.ok.has _ (.inr k)
  refine wpAny_GeneratorExp_make ok.co (closure_ok hfree) ok.cell ok.dot ok.kind (by have := hr.dp; omega) ?_ hs
  refine thn (hi.run pins s σ H _ I h) fun xv s1 h1 => thn h1 fun itv s2 h2 => ?_
  obtain ⟨it, fp, tn, J, H2, e, I2, T, st2, f2, ⟨ps, hP, ht⟩, q2⟩ := h2
  subst e
  have hPs : s2.heap.get? P = some { cls := .none, data := .fields ps } := I2.hok P _ hP
  have hPlt : P < s2.heap.objs.size := Heap.lt_size hPs
  have cd : PySem.W.CodeHd s2.heap c P := TB.code.keeps fun b u e => I2.bk b u e
  have lim2 : s2.heap.NoLimit := I2.nolimit
  have cont : ∀ (code : Value) (h3 : Heap) (tk : Nat) (ps' : Array Value), Heap.ExtBut P s2.heap h3 → s2.heap.objs.size ≤ h3.objs.size → h3.get? P = some { cls := .none, data := .fields ps' } → (∃ more, ps' = ps ++ more) → TriplesOk ps'.toList →
      wpAny (model X.prog X.w) X.A (builtinsFor X.env.globals X.env.builtins) (fun bi s₄ =>
        ∀ h', h'.Ns s₄.heap.objs.size (fun y => if y = ".0" then some (.ref it) else none) → Heap.SameBut s₄.heap.objs.size (s₄.heap.push { cls := .type "frame", data := .dict #[] }) h' →
          Q' (.ref h'.objs.size) { s₄ with
            gens := s₄.gens.push (.fresh (.compStart (.GeneratorExp elt [⟨tg, iter, ifs, 0⟩] scope gpos) 0 (.ref it) .none (genEnv scope (cloFrom X.env.cells scope.names []) s₄.heap.objs.size code bi X.env))),
            toks := s₄.toks + 1 + 1 + 1,
            heap := h'.push { cls := .type "generator", data := .fields #[.int s₄.gens.size 0, .str "<genexpr>" (s₄.toks + 1), .str (X.env.qual ++ "<genexpr>") (s₄.toks + 1 + 1)] } }) X.xe { s2 with heap := h3, toks := tk } := by
    intro code h3 tk ps' hx hsz hP3 hmore ht3
    obtain ⟨bm, ob, e1, e2, e3, e4, e5, e6, e7, e8⟩ := TB.bm
    have keep3 : ∀ b u, b ≠ P → s2.heap.get? b = some u → h3.get? b = some u := fun b u hb e => hx b u hb e
    refine wpAny_builtinsFor (m := X.mg) (by rw [I2.ok.glob]; exact (I2.mod.glob.keeps I2.bk).extBut hx TB.gP) e1 e2 (keep3 _ _ e4 (I2.bk _ _ e5)) e6 e7 e8 ?_
    obtain ⟨more, em⟩ := hmore
    have I4 : Inv X pins σ (upd H2 P (.tbl (ps ++ more))) { s2 with heap := h3, toks := tk } :=
      GxR.inv_tab (more := more) (h' := h3) (g' := s2.gens) (d' := s2.drawn) (t' := tk) I2 hP keep3 (by rw [← em]; exact hP3) I2.bare
    have tab : GxR.Tabbed P H2 (upd H2 P (.tbl (ps ++ more))) := ⟨⟨ps ++ more, upd_same, by rw [← em]; exact ht3⟩, fun b hb => upd_ne hb⟩
    have fpP : ∀ b ∈ fp, b ≠ P := fun b hb z => by
      have := (f2 b hb).1
      rw [z, hP] at this
      cases this
    have fplt : ∀ b ∈ fp, b < s2.heap.objs.size := fun b hb => by
      obtain ⟨o, e, _⟩ := T.obj _ _ st2 b hb
      exact Heap.lt_size e
    have f4 : ∀ b ∈ fp, FpOk X pins (upd H2 P (.tbl (ps ++ more))) b := fun b hb => ⟨by rw [upd_ne (fpP b hb)]; exact (f2 b hb).1, (f2 b hb).2⟩
    intro h' hns hsb
    have hsz' : h'.objs.size = h3.objs.size + 1 := by rw [hsb.1, Heap.size_push]
    have kp' : ∀ b o, h3.get? b = some o → h'.get? b = some o := fun b o e => hsb.extBut b o (Nat.ne_of_lt (Heap.lt_size e)) (Heap.get?_push_of_some _ e)
    have main : ∀ (go : Obj) (nm qn : Value) (tk2 : Nat), go.cls = .type "generator" → go.data = .fields #[.int s2.gens.size 0, nm, qn] → go.slots = #[] → (∀ h : Heap, (h.push go).get? h.objs.size = some go) →
        Q' (.ref h'.objs.size) { ({ s2 with heap := h3, toks := tk } : Shared) with
            gens := s2.gens.push (.fresh (.compStart (.GeneratorExp elt [⟨tg, iter, ifs, 0⟩] scope gpos) 0 (.ref it) .none (genEnv scope (cloFrom X.env.cells scope.names []) h3.objs.size code builtinsNs X.env))),
            toks := tk2, heap := h'.push go } := by
      intro go nm qn tk2 hgc hgd hgs hgp
      have kp5 : ∀ b o, h3.get? b = some o → (h'.push go).get? b = some o := fun b o e => Heap.get?_push_of_some _ (kp' b o e)
      refine hQ _ _ ⟨h'.objs.size, s2.gens.size, { s2 with heap := h3, toks := tk }, H2, upd H2 P (.tbl (ps ++ more)), J, fp, tn, it, go, nm, qn, code, rfl, tab, q2, I4, f4, T, ?_, hgc, hgd, hgs, hgp _, ?_, fun b hb => Nat.lt_of_lt_of_le (fplt b hb) hsz, Array.getElem?_push_size .., fun B hBf hBh => ?_⟩
      · refine T.keep 0 _ _ st2 fun b hb o e => kp5 b o (keep3 b o (fpP b hb) e)
      · show h3.objs.size < h'.objs.size
        omega
      · have J0 := gx_start (fp := fp) (B := B) (code := code) (bi := builtinsNs) (h' := h'.push go) (tk := tk2) (gs := s2.gens.push (.fresh (.compStart (.GeneratorExp elt [⟨tg, iter, ifs, 0⟩] scope gpos) 0 (.ref it) .none (genEnv scope (cloFrom X.env.cells scope.names []) h3.objs.size code builtinsNs X.env))))
          I4 ok hN (fun b hb => ⟨f4 b hb, Nat.lt_of_lt_of_le (fplt b hb) hsz⟩) rfl hBf hBh kp5 (hns.push _) (AllBare.push I2.bare rfl)
        refine J0.pins_of fun p hp => ?_
        rw [List.mem_singleton.mp hp]
        have hlt : h3.objs.size < h'.objs.size := by omega
        refine ⟨hgp _, I4.hok.fresh (Nat.le_of_lt hlt), Nat.ne_of_gt hlt, fun z => ?_, fun v q => by rw [hgd] at q; cases q⟩
        rcases List.mem_cons.mp (I4.stkSub _ z) with z | z
        · have e1 : X.env.locals < h3.objs.size := I4.lt
          rw [← z] at e1
          exact absurd (Nat.lt_trans hlt e1) (Nat.lt_irrefl _)
        · exact I4.nofs (Nat.le_of_lt hlt) z
    exact main _ _ _ _ rfl rfl rfl fun h => Heap.get?_push_size _ rfl
  refine ⟨lim2, ?_⟩
  cases hf : codeAmong gpos ps.toList with
  | none =>
    refine wpAny_genexprCodeX hcode (cd.code hPs ht) (cd.tab hPs) hf fun c' h' tk hx hge hlt hco' _ htab' _ => ?_
    obtain ⟨o1, vs, f1, tf, fl, tg, inF, tx, tt, op, _, _, _, _, _, _, _, _, _, htr, _⟩ := hco'
    exact cont _ h' tk _ hx (Nat.le_trans hge (Nat.le_of_lt hlt)) htab'.2 ⟨_, rfl⟩ htr
  | some cv =>
    refine wpAny_genexprCode_hit hcode (cd.code hPs ht) hf ?_
    exact cont cv s2.heap s2.toks ps (Heap.ExtBut.refl _ _) (Nat.le_refl _) hPs ⟨#[], by simp⟩ ht
end LC
-- G4
namespace LC
open PySem PySem.Spec PyProof.Rows L2 GenW

section
variable {P : Program} {w : World} {A : Around} {Xg : Cx} {fp : List Addr} {tn : Nat → Heap → Prop} {CP : List V → List (Addr × Obj) → Prop} {a : Addr} {go : Obj} {gi : Nat} {nm qn : Value} {σ0 : L2.St} {W : GW} {O : GO} {End : List V → Hp → Prop} {R : Result → Shared → Prop}
theorem all_drive (hh : A.handled = none) (hd : A.depth < recursionLimit) (hgc : go.cls = .type "generator") (hgd : go.data = .fields #[.int gi 0, nm, qn]) (hgs : go.slots = #[])
    (hO : ∀ ys i m x H s, O ys i m x H → GInv Xg tn fp (fun _ cp => cp = []) a go σ0 ys (i + 1) H s → ∃ b, x = .bl b ∧ if b = true then ∃ m', m' < m ∧ W (ys ++ [x]) (i + 1) m' H else R (.ok (.ret (.bool false))) s)
    (hE : ∀ s, GFin Xg (fun _ cp => cp = []) a go σ0 End s → R (.ok (.ret (.bool true))) s) :
    ∀ (n : Nat) (s : Shared), (∃ ys i H, GInv Xg tn fp (fun _ cp => cp = []) a go σ0 ys i H s) →
      (∃ gs, s.gens[gi]? = some gs ∧ gs.Goes (model P w) A.in1.in1 (GRp (GFin Xg (fun _ cp => cp = []) a go σ0 End)) (GYp (GInv Xg tn fp (fun _ cp => cp = []) a go σ0) W O) n (.send .none) (s.setGen gi .running)) →
      codeAny (model P w) A (.builtin "all.loop" ⟨[.ref a], []⟩) R s := by
  have gen : ∀ {ys : List V} {i : Nat} {H : Hp} {s : Shared}, GInv Xg tn fp (fun _ cp => cp = []) a go σ0 ys i H s → s.heap.IsGen a gi ∧ s.heap.NoLimit := fun {ys i H s} h => by
    obtain ⟨cp, hcp, _, I, _, _⟩ := h
    subst hcp
    exact ⟨⟨go, nm, qn, (I.pin (a, go) (List.mem_append_right _ List.mem_cons_self)).1, hgc, hgd, hgs⟩, I.nolimit⟩
  have goes : ∀ {gs : GenState} {B : Around} {n : Nat} {r : Resume} {s : Shared}, gs.Goes (model P w) B (GRp (GFin Xg (fun _ cp => cp = []) a go σ0 End)) (GYp (GInv Xg tn fp (fun _ cp => cp = []) a go σ0) W O) n r s →
      gs.Goes (model P w) B (fun n s₀ r s₁ => r = .ok .next ∧ (fun _ _ s => GFin Xg (fun _ cp => cp = []) a go σ0 End s) n s₀ s₁) (GYp (GInv Xg tn fp (fun _ cp => cp = []) a go σ0) W O) n r s := fun h => h
  intro n
  induction n with
  | zero =>
    intro s ⟨ys, i, H, hI⟩ ⟨gs, hgs', hgo⟩
    obtain ⟨hg, hl⟩ := gen hI
    refine codeAny_builtin F.entry_all_loop ?_
    rw [Around.under_plainId F.plain_all_loop _]
    show wpAny _ A.in1 (pyNext (.ref a) >>= _) _ _ s
    refine wpAny_bind (wpAny_pyNext_genexpQ (A := A.in1) hh hl hd hg hgs' (goes hgo) (fun v s₁ gs' hb hv => ?_) (fun s₁ hp h' hk => ?_))
    · obtain ⟨ys1, i1, m1, x1, H1, rv, G1, o1, kap⟩ := hv
      obtain ⟨b, rfl, ob⟩ := hO _ _ _ _ _ _ o1 G1
      have rv' : v = .bool b := rv
      subst rv'
      refine wpAny_bind (wpAny_holding (wpAny_truthy_bool ?_))
      refine wpAny_bind (wpAny_letGo ?_)
      cases b with
      | true =>
        simp only [if_true] at ob
        obtain ⟨m', hm', w'⟩ := ob
        have G1' : GInv Xg tn fp (fun _ cp => cp = []) a go σ0 (ys1 ++ [V.bl true]) (i1 + 1) H1 s₁ := G1
        exact False.elim (kap s₁ H1 m' hm' G1' w')
      | false =>
        simp only [Bool.false_eq_true, if_false] at ob ⊢
        refine wpAny_bind (wpAny_rule (wpAny_pure ?_))
        obtain ⟨b2, e2, ob2⟩ := hO _ _ _ _ _ _ o1 (ginv_setGen (g := gi) G1 hb)
        cases e2
        simpa using ob2
    · refine wpAny_bind (wpAny_rule (wpAny_pure ?_))
      obtain ⟨ys1, H1, cp1, hcp1, I1, q1⟩ := hp
      refine hE _ ⟨ys1, H1, cp1, hcp1, ?_, q1⟩
      exact (inv_setGen I1 (x := .finished) (g := gi) rfl).kept (t' := (s₁.setGen gi .finished).toks) hk
  | succ n ih =>
    intro s ⟨ys, i, H, hI⟩ ⟨gs, hgs', hgo⟩
    obtain ⟨hg, hl⟩ := gen hI
    have hgl : gi < s.gens.size := (Array.getElem?_eq_some_iff.mp hgs').1
    refine codeAny_builtin F.entry_all_loop ?_
    rw [Around.under_plainId F.plain_all_loop _]
    show wpAny _ A.in1 (pyNext (.ref a) >>= _) _ _ s
    refine wpAny_bind (wpAny_gsz (n := gi + 1) hgl (wpAny_pyNext_genexpQ (A := A.in1) hh hl hd hg hgs' (goes hgo) (fun v s₁ gs' hb hv => ?_) (fun s₁ hp h' hk => ?_)))
    · intro hsz
      obtain ⟨ys1, i1, m1, x1, H1, rv, G1, o1, kap⟩ := hv
      obtain ⟨b, rfl, ob⟩ := hO _ _ _ _ _ _ o1 G1
      have rv' : v = .bool b := rv
      subst rv'
      refine wpAny_bind (wpAny_holding (wpAny_truthy_bool ?_))
      refine wpAny_bind (wpAny_letGo ?_)
      cases b with
      | true =>
        simp only [if_true] at ob ⊢
        obtain ⟨m', hm', w'⟩ := ob
        have hsz1 : gi < (s₁.setGen gi gs').gens.size := hsz
        have hsz2 : gi < s₁.gens.size := by rw [setGen_size] at hsz1; exact hsz1
        refine wpAny_pure ⟨plainId_quiet F.plain_all_loop _, ih (s₁.setGen gi gs') ⟨ys1, i1 + 1, H1, ginv_setGen G1 hb⟩ ⟨gs', setGen_at hsz2, ?_⟩⟩
        exact kap _ H1 m' hm' (ginv_setGen (ginv_setGen G1 hb) rfl) w'
      | false =>
        simp only [Bool.false_eq_true, if_false] at ob ⊢
        refine wpAny_bind (wpAny_rule (wpAny_pure ?_))
        obtain ⟨b2, e2, ob2⟩ := hO _ _ _ _ _ _ o1 (ginv_setGen (g := gi) G1 hb)
        cases e2
        simpa using ob2
    · intro hsz
      refine wpAny_bind (wpAny_rule (wpAny_pure ?_))
      obtain ⟨ys1, H1, cp1, hcp1, I1, q1⟩ := hp
      refine hE _ ⟨ys1, H1, cp1, hcp1, ?_, q1⟩
      exact (inv_setGen I1 (x := .finished) (g := gi) rfl).kept (t' := (s₁.setGen gi .finished).toks) hk
end
end LC
-- G5
namespace LC
open PySem PySem.Spec PyProof.Rows L2 GenW

theorem room_over {k : Nat} {A : Around} {elt tg iter : Expr} {ifs : List Expr} {scope : Scope} {gpos : Pos} {it : Value} {env : Env} (h : Room (k + 1) A) : Room k (A.over (.compLoop (.GeneratorExp elt [⟨tg, iter, ifs, 0⟩] scope gpos) 0 it .none env) []) := by
  have e1 : (A.over (.compLoop (.GeneratorExp elt [⟨tg, iter, ifs, 0⟩] scope gpos) 0 it .none env) []).depth ≤ A.depth + 1 := Nat.le_of_eq rfl
  have e2 : (A.over (.compLoop (.GeneratorExp elt [⟨tg, iter, ifs, 0⟩] scope gpos) 0 it .none env) []).units ≤ A.units + 3 := Nat.le_of_eq rfl
  have h1 := h.dp
  have h2 := h.un
  exact ⟨h.hd, by omega, by omega⟩
theorem room_in1 {k : Nat} {A : Around} (h : Room (k + 1) A) : Room k A.in1.in1.in1 := by
  have h1 := h.dp
  have h2 := h.un
  exact ⟨h.hd, by show A.depth + _ + _ < _; omega, by show A.units + 1 + 1 + 1 + _ + _ < _; omega⟩
theorem over_envs {elt tg iter : Expr} {ifs : List Expr} {scope : Scope} {gpos : Pos} {it : Value} {cenv : Env} :
    (Code.compLoop (.GeneratorExp elt [⟨tg, iter, ifs, 0⟩] scope gpos) 0 it .none cenv).envs = [cenv] := by
  first
    | rfl
    | (unfold Code.envs; simp [Code.isFrame, Code.env?])

section
variable {X : Cx} {pins : List (Addr × Obj)} {σ : L2.St}
/-- back in the frame that walks -/
theorem gx_back {B : Around} {s4 s : Shared} {H4 H : Hp} {cenv : Env} {fp : List Addr} {pins' : List (Addr × Obj)} {σ0 : L2.St} (I4 : Inv X pins σ H4 s4) (f4 : ∀ b ∈ fp, FpOk X pins H4 b) (I : Inv (gx X B s4 H4 cenv fp) pins' σ0 H s) : Inv X pins σ H s :=
  I4.call' (ch := fp) I.os I.base I.hok I.bare fun b hb => ⟨(f4 b hb).2.2.2.1, (f4 b hb).2.1, (f4 b hb).2.2.2.2.1, (f4 b hb).2.2.2.2.2⟩

/-- all(e for x in it if ..): P the def's table -/
def tAllG (P : Addr) (wi : TI) (g : TG) (tt : TT) (te : TE) (vs : List Nat) : TE := fun σ H Q => wi σ H fun J H1 => GxR.TabG H1 P ∧ ∀ H4, GxR.Tabbed P H1 H4 → ∃ W : Nat → Nat → Hp → Prop, (∃ m, W 0 m H4) ∧ ∀ i m H, W i m H →
  (J.stop i H ∧ Q (.bl true) H) ∨ (J.go i H ∧ ∃ Nx : Hp → Prop, (∀ H', Nx H' → ∃ m', m' < m ∧ W (i + 1) m' H') ∧ ∀ x H', J.yld i H x H' → g x (wipe σ vs) H' fun σ2 H2 => wipe σ2 vs = wipe σ vs ∧ tt σ2 H2 fun b H3 =>
    if b = true then te σ2 H3 fun y H5 => ∃ c, y = .bl c ∧ if c = true then Nx H5 else Q (.bl false) H5 else Nx H3)

theorem wipe_wipe (σ : L2.St) : ∀ vs : List Nat, wipe (wipe σ vs) vs = wipe σ vs := by
  intro vs
  apply List.ext_getElem?
  intro i
  have h1 : ∀ (τ : L2.St) (us : List Nat) (i : Nat), (wipe τ us)[i]? = if i ∈ us then (if i < τ.length then some none else none) else τ[i]? := by
    intro τ us
    induction us with
    | nil => intro i; simp [wipe]
    | cons u us ih =>
      intro i
      unfold wipe
      by_cases hi : u = i
      · subst hi
        by_cases hl : u < (wipe τ us).length
        · rw [List.getElem?_set_self hl]
          rw [wipe_length] at hl
          simp [hl]
        · rw [List.getElem?_eq_none (by simpa using hl)]
          rw [wipe_length] at hl
          simp [hl]
      · rw [List.getElem?_set_ne hi, ih]
        have : (i ∈ u :: us) ↔ i ∈ us := by simp [Ne.symm hi]
        simp only [this]
  rw [h1, h1 σ vs i]
  split <;> simp [wipe_length, *]

theorem pe_allG {c P : Addr} {elt tg iter : Expr} {ifs : List Expr} {p pos gpos : Pos} {scope : Scope} {own : List (Str × Nat)} {wi : TI} {g : TG} {tt : TT} {te : TE} {k : Nat}
    (hr : Room (k + 2) X.A) (hc : X.calm = true) (hN : X.N.Nodup) (hg : Gl X "all") (hm : X.mg "all" = none) (hb : bootBuiltins "all" = some (.builtin "all")) (TB : GxR.TabB X.base X.mg c P) (hcode : X.env.code = .ref c) (hi : PI X tg iter wi) (ok : GScp X.N X.env.scope scope own)
    (pg : ∀ (B : Around) (s : Shared) (H : Hp) (C : Addr) (code : Value) (fp : List Addr), PG (gx X B s H (genEnv scope (cloFrom X.env.cells scope.names []) C code builtinsNs X.env) fp) tg g)
    (pt : ∀ (B : Around) (s : Shared) (H : Hp) (C : Addr) (code : Value) (fp : List Addr), Room k B → PTs (gx X B s H (genEnv scope (cloFrom X.env.cells scope.names []) C code builtinsNs X.env) fp) ifs tt)
    (pe : ∀ (B : Around) (s : Shared) (H : Hp) (C : Addr) (code : Value) (fp : List Addr), Room k B → PE (gx X B s H (genEnv scope (cloFrom X.env.cells scope.names []) C code builtinsNs X.env) fp) elt te)
    (hs : ∀ v, genFold iter X.env v = pure v := by intro _; rfl)
    (he : starEach [.GeneratorExp elt [⟨tg, iter, ifs, 0⟩] scope gpos] X.env = (false, eval (.GeneratorExp elt [⟨tg, iter, ifs, 0⟩] scope gpos) X.env) :: starEach [] X.env := by rfl) :
    PE X (.Call (.Name "all" p) [.GeneratorExp elt [⟨tg, iter, ifs, 0⟩] scope gpos] [] pos) (tAllG P wi g tt te (own.map (·.2))) := by
  refine ⟨fun pins s σ H Q I h => ?_⟩
  refine wpAny_Call_Name_kw (ld_blt I hg hm hb ?_)
  refine PyProof.Rows.callWith_builtin1 ?_ he (by rfl)
  rw [he]
  show wpAny _ _ (spliced ((false, eval (.GeneratorExp elt [⟨tg, iter, ifs, 0⟩] scope gpos) X.env) :: backTo pos (starEach [] X.env))) _ _ s
  refine Calls.spliced_cons (ge_make hr hN TB hcode ok hi hs I h fun u s5 hG => ?_)
  obtain ⟨a, gi, s4, H1, H4, J, fp, tn, it, go, nm, qn, code, rfl, tab, hq, I4, f4, T, st5, hgc, hgd, hgs, hga, hlt, hfl, hgen, hI⟩ := hG
  refine Calls.spliced_nil ?_
  obtain ⟨W, ⟨m0, w0⟩, turn⟩ := hq H4 tab
  have hIt := hI
  have rB : Room k (X.A.in1.in1.over (.compLoop (.GeneratorExp elt [⟨tg, iter, ifs, 0⟩] scope gpos) 0 (.ref it) .none (genEnv scope (cloFrom X.env.cells scope.names []) s4.heap.objs.size code builtinsNs X.env)) []) :=
    room_over (A := X.A.in1.in1) ⟨hr.hd, by have := hr.dp; show X.A.depth + _ + _ < _; omega, by have := hr.un; show X.A.units + 1 + 1 + _ + _ < _; omega⟩
  have fB : (X.A.in1.in1.over (.compLoop (.GeneratorExp elt [⟨tg, iter, ifs, 0⟩] scope gpos) 0 (.ref it) .none (genEnv scope (cloFrom X.env.cells scope.names []) s4.heap.objs.size code builtinsNs X.env)) []).frames = some (genEnv scope (cloFrom X.env.cells scope.names []) s4.heap.objs.size code builtinsNs X.env :: X.stack) :=
    gx_frames (A := X.A.in1.in1) I4.ok.frames over_envs
  have I5 := hI _ fB rB.hd
  generalize hB : X.A.in1.in1.over (.compLoop (.GeneratorExp elt [⟨tg, iter, ifs, 0⟩] scope gpos) 0 (.ref it) .none (genEnv scope (cloFrom X.env.cells scope.names []) s4.heap.objs.size code builtinsNs X.env)) [] = B at rB I5
  have g5 : s5.heap.IsGen a gi := ⟨go, nm, qn, hga, hgc, hgd, hgs⟩
  have gturn : GTurn J g tt te (own.map (·.2)) (wipe σ (own.map (·.2))) (fun _ => W) (fun _ i m y H => ∃ c, y = .bl c ∧ if c = true then ∃ m', m' < m ∧ W (i + 1) m' H else Q (.bl false) H) (fun _ H => Q (.bl true) H) := fun ys i m H hw => by
    rcases turn i m H hw with z | ⟨z1, Nx, z2, z3⟩
    · exact .inl z
    · refine .inr ⟨z1, _, Nx, fun y H' hy => ?_, z2, z3⟩
      obtain ⟨cc, e, hcc⟩ := hy
      refine ⟨cc, e, ?_⟩
      cases cc with
      | true => exact iteT (z2 _ (by rw [if_pos rfl] at hcc; exact hcc))
      | false => exact hcc
  refine call_function_tree F.kind_all F.plain_all F.entry_all (F.args_all1 _) ?_
  unfold Builtin.«all»
  refine wpAny_bind (m := oneArg "all" _) (wpAny_pure ?_)
  refine wpAny_bind (wpAny_pyIter_gen g5 ?_)
  have fpa : ∀ p ∈ [(a, go)], ∀ b ∈ fp, p.1 ≠ b := fun p hp b hb => by
    rw [List.mem_singleton.mp hp]
    exact Nat.ne_of_gt (Nat.lt_trans (hfl b hb) hlt)
  refine wpAny_pure ⟨plainId_quiet F.plain_all_loop _, all_drive (A := X.A) (Xg := gx X B s4 H4 (genEnv scope (cloFrom X.env.cells scope.names []) s4.heap.objs.size code builtinsNs X.env) fp) (fp := fp) (tn := tn) (a := a) (go := go) (gi := gi) (nm := nm) (qn := qn)
    (σ0 := wipe σ (own.map (·.2))) (W := fun _ => W) (O := fun _ i m y H => ∃ c, y = .bl c ∧ if c = true then ∃ m', m' < m ∧ W (i + 1) m' H else Q (.bl false) H) (End := fun _ H => Q (.bl true) H)
    hr.hd (by have := hr.dp; show X.A.depth < _; omega) hgc hgd hgs (fun ys i m x H s hO hG => ?_) (fun s hF => ?_) (m0 + 1) s5 ⟨[], 0, H4, [], rfl, fpa, I5, st5, fun b hb => (f4 b hb).1⟩ ⟨_, hgen, rfl, ?_⟩⟩
  · obtain ⟨cc, rfl, hcc⟩ := hO
    refine ⟨cc, rfl, ?_⟩
    cases cc with
    | true => simpa using hcc
    | false =>
      simp only [Bool.false_eq_true, if_false] at hcc ⊢
      obtain ⟨cp, hcp, _, I6, _, _⟩ := hG
      exact ⟨V.bl false, H, gx_back I4 f4 I6, rfl, hcc⟩
  · obtain ⟨ys, H6, cp, hcp, I6, q6⟩ := hF
    exact ⟨V.bl true, H6, gx_back I4 f4 I6, rfl, q6⟩
  · subst hB
    refine ge_begin (CP := fun _ cp => cp = []) (a := a) (go := go) (σ0 := wipe σ (own.map (·.2))) hc ok.co T (pg _ _ _ _ _ _) (pt _ _ _ _ _ _ rB) (pe _ _ _ _ _ _ rB) gturn (wipe_wipe _ _) (m0 + 1) m0 (Nat.lt_succ_self _) [] 0 H4 _ _ ⟨[], rfl, fpa, inv_setGen I5 rfl, st5, fun b hb => (f4 b hb).1⟩ w0
end
end LC
-- G6
namespace LC
open PySem PySem.Spec PyProof.Rows L2 GenW

/-- the walker's list: what is out stands in it -/
def CPl (S : Addr) : List V → List (Addr × Obj) → Prop := fun ys cp => ∃ acc c, cp = [(S, lstObj acc c)] ∧ Vals ys acc.toList

section
variable {P : Program} {w : World} {A : Around} {Xg : Cx} {fp : List Addr} {tn : Nat → Heap → Prop} {S a : Addr} {go : Obj} {gi : Nat} {nm qn res : Value} {σ0 : L2.St} {W : GW} {O : GO} {End : List V → Hp → Prop} {R : Result → Shared → Prop}
theorem ginv_push {T : Prop} (hfS : ∀ b ∈ fp, S ≠ b) (hSa : S ≠ a) (hS0 : Xg.s_0.heap.objs.size ≤ S) (hpn : Xg.pn = []) (hkeep : ∀ i h h', tn i h → (∀ b ∈ fp, ∀ o, h.get? b = some o → h'.get? b = some o) → tn i h') (hobj : ∀ i h, tn i h → ∀ b ∈ fp, ∃ o, h.get? b = some o)
    {ys : List V} {i : Nat} {H : Hp} {s : Shared} {x : V} {v : Value} (hz : ys.length < sizeLine) (rv : RelV x v)
    (G : GInv Xg tn fp (CPl S) a go σ0 ys i H s)
    (k : ∀ acc c, s.heap.get? S = some (lstObj acc c) → acc.size = ys.length → (∀ gs : Array GenState, AllBare gs → GInv Xg tn fp (CPl S) a go σ0 (ys ++ [x]) i H { s with gens := gs, heap := s.heap.update S (Obj.mapSeq (·.push v)) }) → T) : T := by
  obtain ⟨cp, ⟨acc, c, rfl, r⟩, hpf, I, st, fr⟩ := G
  have pS := I.pin (S, lstObj acc c) (List.mem_append_right _ (List.mem_cons_of_mem _ List.mem_cons_self))
  have pa := I.pin (a, go) (List.mem_append_right _ List.mem_cons_self)
  obtain ⟨e1, e2, e3, e4, e5⟩ := pS
  have hsz : acc.size = ys.length := by
    have e1 := r.length
    have e2 : acc.toList.length = acc.size := by simp
    omega
  refine k acc c e1 hsz fun gs hgs => ?_
  have k' : ∀ b o, b ≠ S → s.heap.get? b = some o → (s.heap.update S (Obj.mapSeq (·.push v))).get? b = some o := fun b o hb e => (Heap.get?_update_other _ _ (Ne.symm hb)).trans e
  have I0 : Inv Xg [(a, go)] σ0 H s := I.pins_of fun p hp => by
    rw [List.mem_singleton.mp hp]
    exact pa
  have I1 : Inv Xg [(a, go)] σ0 H { s with heap := s.heap.update S (Obj.mapSeq (·.push v)) } := I0.turned (t' := s.toks) (it := S) k' e2 e3 (.inr hS0) (fun y cc hy z => by
      obtain ⟨u, o, ho, hd⟩ := I.cell y cc hy
      rw [z, e1] at ho
      cases ho
      exact e5 u hd) fun p hp => by
        rw [hpn] at hp
        rw [List.mem_singleton.mp hp]
        exact Ne.symm hSa
  obtain ⟨c', eS⟩ : ∃ c', (s.heap.update S (Obj.mapSeq (·.push v))).get? S = some (lstObj (acc.push v) c') := ⟨_, Heap.get?_update_self _ e1 rfl⟩
  refine ⟨[(S, lstObj (acc.push v) c')], ⟨acc.push v, _, rfl, ?_⟩, ?_, ?_, ?_, fr⟩
  · rw [Array.toList_push]
    exact r.append (.cons rv .nil)
  · intro p hp b hb
    rcases List.mem_cons.mp hp with z | z
    · rw [z]
      exact hpf (a, go) List.mem_cons_self b hb
    · rw [List.mem_singleton.mp z]
      exact hfS b hb
  · refine inv_gens (I1.pins_of fun p hp => ?_) hgs
    rcases List.mem_cons.mp hp with z | z
    · rw [z]
      exact I1.pin (a, go) (List.mem_append_right _ List.mem_cons_self)
    · rw [List.mem_singleton.mp z]
      exact ⟨eS, e2, e3, e4, fun v q => by cases q⟩
  · exact hkeep _ _ _ st fun b hb o e => k' b o (Ne.symm (hfS b hb)) e
theorem ext_drive (hh : A.handled = none) (hd : A.depth < recursionLimit) (hgc : go.cls = .type "generator") (hgd : go.data = .fields #[.int gi 0, nm, qn]) (hgs : go.slots = #[])
    (hfS : ∀ b ∈ fp, S ≠ b) (hSa : S ≠ a) (hS0 : Xg.s_0.heap.objs.size ≤ S) (hpn : Xg.pn = []) (hkeep : ∀ i h h', tn i h → (∀ b ∈ fp, ∀ o, h.get? b = some o → h'.get? b = some o) → tn i h') (hobj : ∀ i h, tn i h → ∀ b ∈ fp, ∃ o, h.get? b = some o)
    (hO : ∀ ys i m x H, O ys i m x H → ys.length < sizeLine ∧ ∃ m', m' < m ∧ W (ys ++ [x]) (i + 1) m' H)
    (hE : ∀ s, GFin Xg (CPl S) a go σ0 End s → R (.ok (.ret res)) s) :
    ∀ (n : Nat) (s : Shared), (∃ ys i H, GInv Xg tn fp (CPl S) a go σ0 ys i H s) →
      (∃ gs, s.gens[gi]? = some gs ∧ gs.Goes (model P w) A.in1.in1 (GRp (GFin Xg (CPl S) a go σ0 End)) (GYp (GInv Xg tn fp (CPl S) a go σ0) W O) n (.send .none) (s.setGen gi .running)) →
      codeAny (model P w) A (.builtin "list.extend.loop" ⟨[.ref S, .ref a, res], []⟩) R s := by
  have gen : ∀ {ys : List V} {i : Nat} {H : Hp} {s : Shared}, GInv Xg tn fp (CPl S) a go σ0 ys i H s → s.heap.IsGen a gi ∧ s.heap.NoLimit := fun {ys i H s} h => by
    obtain ⟨cp, hcp, _, I, _, _⟩ := h
    exact ⟨⟨go, nm, qn, (I.pin (a, go) (List.mem_append_right _ List.mem_cons_self)).1, hgc, hgd, hgs⟩, I.nolimit⟩
  have goes : ∀ {gs : GenState} {B : Around} {n : Nat} {r : Resume} {s : Shared}, gs.Goes (model P w) B (GRp (GFin Xg (CPl S) a go σ0 End)) (GYp (GInv Xg tn fp (CPl S) a go σ0) W O) n r s →
      gs.Goes (model P w) B (fun n s₀ r s₁ => r = .ok .next ∧ (fun _ _ s => GFin Xg (CPl S) a go σ0 End s) n s₀ s₁) (GYp (GInv Xg tn fp (CPl S) a go σ0) W O) n r s := fun h => h
  have ends : ∀ {s₁ : Shared} {h' : Heap}, GFin Xg (CPl S) a go σ0 End s₁ → (∀ b o, s₁.heap.get? b = some o → h'.get? b = some o) → GFin Xg (CPl S) a go σ0 End { s₁.setGen gi .finished with heap := h' } := fun {s₁ h'} hp hk => by
    obtain ⟨ys1, H1, cp1, hcp1, I1, q1⟩ := hp
    exact ⟨ys1, H1, cp1, hcp1, (inv_setGen I1 (x := .finished) (g := gi) rfl).kept (t' := (s₁.setGen gi .finished).toks) hk, q1⟩
  intro n
  induction n with
  | zero =>
    intro s ⟨ys, i, H, hI⟩ ⟨gs, hgs', hgo⟩
    obtain ⟨hg, hl⟩ := gen hI
    refine codeAny_builtin F.entry_extend_loop ?_
    rw [Around.under_plainId F.plain_extend_loop _]
    show wpAny _ A.in1 (pyNext (.ref a) >>= _) _ _ s
    refine wpAny_bind (wpAny_pyNext_genexpQ (A := A.in1) hh hl hd hg hgs' (goes hgo) (fun v s₁ gs' hb hv => ?_) (fun s₁ hp h' hk => ?_))
    · obtain ⟨ys1, i1, m1, x1, H1, rv, G1, o1, kap⟩ := hv
      obtain ⟨hz, m', hm', w'⟩ := hO _ _ _ _ _ o1
      refine ginv_push hfS hSa hS0 hpn hkeep hobj hz rv G1 fun acc c eS hsz kk => ?_
      have bare1 : AllBare s₁.gens := by
        obtain ⟨_, _, _, I1, _, _⟩ := G1
        exact I1.bare
      exact False.elim (kap _ H1 m' hm' (kk s₁.gens bare1) w')
    · exact wpAny_pure (hE _ (ends hp hk))
  | succ n ih =>
    intro s ⟨ys, i, H, hI⟩ ⟨gs, hgs', hgo⟩
    obtain ⟨hg, hl⟩ := gen hI
    have hgl : gi < s.gens.size := (Array.getElem?_eq_some_iff.mp hgs').1
    refine codeAny_builtin F.entry_extend_loop ?_
    rw [Around.under_plainId F.plain_extend_loop _]
    show wpAny _ A.in1 (pyNext (.ref a) >>= _) _ _ s
    refine wpAny_bind (wpAny_gsz (n := gi + 1) hgl (wpAny_pyNext_genexpQ (A := A.in1) hh hl hd hg hgs' (goes hgo) (fun v s₁ gs' hb hv => ?_) (fun s₁ hp h' hk => ?_)))
    · intro hsz0
      obtain ⟨ys1, i1, m1, x1, H1, rv, G1, o1, kap⟩ := hv
      obtain ⟨hz, m', hm', w'⟩ := hO _ _ _ _ _ o1
      have hsz1 : gi < (s₁.setGen gi gs').gens.size := hsz0
      have hsz2 : gi < s₁.gens.size := by rw [setGen_size] at hsz1; exact hsz1
      have bare1 : AllBare (s₁.setGen gi gs').gens := by
        obtain ⟨_, _, _, I1, _, _⟩ := G1
        exact allBare_setGen I1.bare hb
      refine ginv_push hfS hSa hS0 hpn hkeep hobj hz rv G1 fun acc c eS hsz kk => ?_
      show wpAny _ A.in1 (updateSeq S (·.push v) >>= _) _ _ _
      refine wpAny_bind ?_
      refine wpAny_updateSeq eS rfl (wpAny_pure ⟨plainId_quiet F.plain_extend_loop _, ?_⟩) (by rw [hsz]; exact Nat.le_of_lt hz) (by show (acc.push v).size ≤ sizeLine + 1; rw [Array.size_push]; omega)
      refine ih { s₁.setGen gi gs' with heap := s₁.heap.update S (Obj.mapSeq (·.push v)) } ⟨ys1 ++ [x1], i1 + 1, H1, kk _ bare1⟩ ⟨gs', setGen_at hsz2, ?_⟩
      exact kap _ H1 m' hm' (kk _ (allBare_setGen (s := s₁.setGen gi gs') bare1 rfl)) w'
    · intro hsz
      exact wpAny_pure (hE _ (ends hp hk))
end
end LC
-- G7
namespace LC
open PySem PySem.Spec PyProof.Rows L2 GenW
open AutoSeq1 (wpAny_loadPart')

section
variable {P : Program} {w : World} {A : Around} {E : Value → Shared → Prop}
/-- list(..)'s way of taking all that a new generator hands out -/
theorem collect_by {s : Shared} {a : Addr} {gi : Nat} {Q : List Value → Shared → Prop} (hg : s.heap.IsGen a gi)
    (h : ∀ h1 : Heap, h1.get? s.heap.objs.size = some (lstObj #[] 0) ∨ (∃ c, h1.get? s.heap.objs.size = some (lstObj #[] c)) → (∀ b o, s.heap.get? b = some o → h1.get? b = some o) →
      codeAny (model P w) A (.builtin "list.extend.loop" ⟨[.ref s.heap.objs.size, .ref a, .ref s.heap.objs.size], []⟩)
        (fun r s' => match r with
          | .ok (.ret v) => ∃ acc c, v = .ref s.heap.objs.size ∧ s'.heap.get? s.heap.objs.size = some (lstObj acc c) ∧ Q acc.toList s'
          | _ => False) { s with heap := h1 }) : wpAny (model P w) A (collect (.ref a)) Q E s := by
  have hgl : a < s.heap.objs.size := by
    obtain ⟨o, _, _, ho, _⟩ := hg
    exact Heap.lt_size ho
  have hSI : s.heap.objs.size ≠ a := Nat.ne_of_gt hgl
  unfold collect
  refine wpAny_bind (wpAny_runValue (codeAny_builtin F.entry_proto_collect ?_))
  rw [Around.under_plainId F.plain_proto_collect _]
  show wpAny _ A.in1 (newList [] >>= fun l => again (.builtin "list.__iadd__" ⟨[l, .ref a], []⟩)) _ _ s
  refine wpAny_bind (wpAny_newObj_type ?_)
  refine wpAny_pure ⟨plainId_quiet F.plain_list_iadd _, codeAny_builtin F.entry_list_iadd ?_⟩
  rw [Around.under_plainId F.plain_list_iadd _]
  have k1 : ∀ b o, s.heap.get? b = some o → (s.heap.push { cls := .type "list", data := .seq ([] : List Value).toArray }).get? b = some o := fun b o e => Heap.get?_push_of_some _ e
  have gty : ∀ {h : Heap}, (∀ b o, s.heap.get? b = some o → h.get? b = some o) → h.IsGen a gi := fun {h} q => hg.keeps q
  show wpAny _ A.in1 (Builtin.List.listExtendWith (.ref s.heap.objs.size) (.ref a) (.ref s.heap.objs.size)) _ _ _
  unfold Builtin.List.listExtendWith
  refine wpAny_bind (wpAny_typeOf (Heap.IsGen.typeIs (s := { s with heap := _ }) (gty k1)) ?_)
  have h1 : Builtin.List.listSameRef (.ref s.heap.objs.size) (.ref a) = false := by simp [Builtin.List.listSameRef, hSI]
  have h2 : (Value.type "generator" == Value.type "list") = false := by decide
  have h3 : (Value.type "generator" == Value.type "tuple") = false := by decide
  simp only [h1, h2, h3, Bool.or_false, Bool.false_eq_true, if_false]
  refine wpAny_bind (wpAny_pyIter_gen (s := { s with heap := _ }) (gty k1) ?_)
  refine wpAny_bind (wpAny_holding ?_)
  unfold Builtin.List.listLengthHint
  refine wpAny_bind (wpAny_specialOf (Heap.IsGen.typeIs (s := { s with heap := _ }) (gty k1)) F.gen_no_len ?_)
  show wpAny _ A.in1 (specialOf (Value.ref a) (Str.ofString "__length_hint__") >>= _) _ _ _
  refine wpAny_bind (wpAny_specialOf (Heap.IsGen.typeIs (s := { s with heap := _ }) (gty k1)) F.gen_no_hint ?_)
  refine wpAny_pure ?_
  show wpAny _ A.in1 (rule "list.extend.makes-room" >>= fun _ => Builtin.List.listTouch (.ref s.heap.objs.size) >>= fun _ =>
    again (.builtin "list.extend.loop" ⟨[.ref s.heap.objs.size, .ref a, .ref s.heap.objs.size], []⟩)) _ _ _
  refine wpAny_bind (wpAny_rule ?_)
  have hS1 : (s.heap.push { cls := .type "list", data := .seq ([] : List Value).toArray }).get? s.heap.objs.size = some { cls := .type "list", data := .seq ([] : List Value).toArray } := Heap.get?_push_size _ rfl
  refine wpAny_bind ?_
  show wpAny _ A.in1 (updateSeq s.heap.objs.size (·.push .none) >>= fun _ => updateSeq s.heap.objs.size (·.pop)) _ _ _
  refine wpAny_bind (wpAny_updateSeq hS1 rfl ?_)
  have hS2 := Heap.get?_update_self (Obj.mapSeq (·.push Value.none)) hS1 rfl
  refine wpAny_updateSeq hS2 rfl ?_
  have hS3 := Heap.get?_update_self (Obj.mapSeq (·.pop)) hS2 rfl
  have up : ∀ (h : Heap) (f : Obj → Obj), (∀ b o, s.heap.get? b = some o → h.get? b = some o) → ∀ b o, s.heap.get? b = some o → (h.update s.heap.objs.size f).get? b = some o := fun h f q b o e =>
    (Heap.get?_update_other _ _ (Ne.symm (Nat.ne_of_lt (Heap.lt_size e)))).trans (q b o e)
  have k4 := up _ (Obj.mapSeq (·.pop)) (up _ (Obj.mapSeq (·.push Value.none)) k1)
  refine wpAny_pure ⟨plainId_quiet F.plain_extend_loop _, codeAny_mono (h _ (.inr ⟨_, hS3⟩) k4) fun r s' hq => ?_⟩
  cases r with
  | error e => exact hq.elim
  | ok fl =>
    cases fl with
    | ret v =>
      obtain ⟨acc, c, rfl, hS', hQ⟩ := hq
      show wpAny _ A (load s.heap.objs.size >>= _) _ _ s'
      refine wpAny_bind (wpAny_load hS' ?_)
      exact wpAny_pure hQ
    | next => exact hq.elim
    | brk => exact hq.elim
    | cont => exact hq.elim
theorem code_tuple_by {s : Shared} {a : Addr} {gi : Nat} {Q₁ : Value → Shared → Prop} (hg : s.heap.IsGen a gi)
    (hc : ∀ {Q : List Value → Shared → Prop} {E' : Value → Shared → Prop}, (∀ acc s', (acc.length ≤ sizeLine ∧ Q₁ (.ref s'.heap.objs.size) { s' with heap := s'.heap.push { cls := .type "tuple", data := .seq acc.toArray } }) → Q acc s') → wpAny (model P w) A.in1 (collect (.ref a)) Q E' s) :
    codeAny (model P w) A (.call (.builtin "tuple.__new__") ⟨[.type "tuple", .ref a], []⟩) (wants Q₁ E) s := by
  refine codeAny_of_tree ?_
  show wpAny _ A.in1 (do checkBuiltinCall "tuple.__new__" ⟨[.type "tuple", .ref a], []⟩; again (.builtin "tuple.__new__" ⟨[.type "tuple", .ref a], []⟩)) _ _ s
  refine wpAny_bind (wpAny_of_eq (F.newCall_tuple_1 _) (wpAny_pure ⟨plainId_quiet F.plain_tuple_new _, codeAny_builtin F.entry_tuple_new ?_⟩))
  rw [Around.under_plainId F.plain_tuple_new _]
  have hsub := sub_tuple_self
  have hinit := init_tuple_lookup
  have hmh := madeHere_tuple
  have hTI := hg.typeIs (s := s)
  wp_walk using wpAny_typeOf hTI, hc
  intro acc s' hp
  obtain ⟨hz, hq⟩ := hp
  show wpAny _ _ (Builtin.Tuple.tupleExact acc.toArray >>= fun v => ret v) _ _ _
  unfold Builtin.Tuple.tupleExact
  refine wpAny_bind (wpAny_newObj_type ?_ (by show acc.toArray.size ≤ sizeLine; simpa using hz))
  exact wpAny_pure hq
theorem call_tuple_by {s : Shared} {a : Addr} {gi : Nat} {Q : Value → Shared → Prop} (hg : s.heap.IsGen a gi)
    (hc : ∀ {Q' : List Value → Shared → Prop} {E' : Value → Shared → Prop}, (∀ acc s', (acc.length ≤ sizeLine ∧ Q (.ref s'.heap.objs.size) { s' with heap := s'.heap.push { cls := .type "tuple", data := .seq acc.toArray } }) → Q' acc s') → wpAny (model P w) A.in1.in1 (collect (.ref a)) Q' E' s) :
    wpAny (model P w) A (call (.type "tuple") [.ref a]) Q E s := by
  refine callType_codes (Q₁ := fun obj s₁ => s₁.TypeIs obj "tuple" ∧ Q obj s₁) F.called_tuple (F.typeCall_tuple_1 _) F.entry_object_init
    (code_tuple_by hg fun {Q' E'} k => hc fun acc s' hp => k acc s' ⟨hp.1, ⟨_, Heap.get?_push_size _ rfl, rfl⟩, hp.2⟩) fun obj s₁ h₁ => ?_
  exact ⟨h₁.1, F.args_object_init_2 obj _, object_init_meets F.called_tuple.init.lookup F.called_tuple.made (by decide) P w A.in1 _ s₁ ⟨h₁.1, rfl, h₁.2⟩⟩
end

/-- tuple(e for x in it if ..): P the def's table; ys what is out so far -/
def tTupG (P : Addr) (wi : TI) (g : TG) (tt : TT) (te : TE) (vs : List Nat) : TE := fun σ H Q => wi σ H fun J H1 => GxR.TabG H1 P ∧ ∀ H4, GxR.Tabbed P H1 H4 → ∃ W : List V → Nat → Nat → Hp → Prop, (∃ m, W [] 0 m H4) ∧ ∀ ys i m H, W ys i m H →
  (J.stop i H ∧ ys.length ≤ sizeLine ∧ ∀ p, H p = none → Q (.ref p) (upd H p (.tup ys))) ∨ (J.go i H ∧ ∃ Nx : List V → Hp → Prop, (∀ zs H', Nx zs H' → ∃ m', m' < m ∧ W zs (i + 1) m' H') ∧ ∀ x H', J.yld i H x H' → g x (wipe σ vs) H' fun σ2 H2 => wipe σ2 vs = wipe σ vs ∧ tt σ2 H2 fun b H3 =>
    if b = true then te σ2 H3 fun y H5 => ys.length < sizeLine ∧ Nx (ys ++ [y]) H5 else Nx ys H3)

section
variable {X : Cx}
theorem pe_tupG {c P : Addr} {elt tg iter : Expr} {ifs : List Expr} {p pos gpos : Pos} {scope : Scope} {own : List (Str × Nat)} {wi : TI} {g : TG} {tt : TT} {te : TE} {k : Nat}
    (hr : Room (k + 2) X.A) (hc : X.calm = true) (hN : X.N.Nodup) (hg : Gl X "tuple") (hm : X.mg "tuple" = none) (hb : bootBuiltins "tuple" = some (.type "tuple")) (TB : GxR.TabB X.base X.mg c P) (hcode : X.env.code = .ref c) (hi : PI X tg iter wi) (ok : GScp X.N X.env.scope scope own)
    (pg : ∀ (B : Around) (s : Shared) (H : Hp) (C : Addr) (code : Value) (fp : List Addr), PG (gx X B s H (genEnv scope (cloFrom X.env.cells scope.names []) C code builtinsNs X.env) fp) tg g)
    (pt : ∀ (B : Around) (s : Shared) (H : Hp) (C : Addr) (code : Value) (fp : List Addr), Room k B → PTs (gx X B s H (genEnv scope (cloFrom X.env.cells scope.names []) C code builtinsNs X.env) fp) ifs tt)
    (pe : ∀ (B : Around) (s : Shared) (H : Hp) (C : Addr) (code : Value) (fp : List Addr), Room k B → PE (gx X B s H (genEnv scope (cloFrom X.env.cells scope.names []) C code builtinsNs X.env) fp) elt te)
    (hs : ∀ v, genFold iter X.env v = pure v := by intro _; rfl)
    (he : starEach [.GeneratorExp elt [⟨tg, iter, ifs, 0⟩] scope gpos] X.env = (false, eval (.GeneratorExp elt [⟨tg, iter, ifs, 0⟩] scope gpos) X.env) :: starEach [] X.env := by rfl) :
    PE X (.Call (.Name "tuple" p) [.GeneratorExp elt [⟨tg, iter, ifs, 0⟩] scope gpos] [] pos) (tTupG P wi g tt te (own.map (·.2))) := by
  refine ⟨fun pins s σ H Q I h => ?_⟩
  refine wpAny_Call_Name_kw (ld_blt I hg hm hb ?_)
  refine PyProof.Rows.callWith_type1 ?_ he (by rfl)
  rw [he]
  show wpAny _ _ (spliced ((false, eval (.GeneratorExp elt [⟨tg, iter, ifs, 0⟩] scope gpos) X.env) :: backTo pos (starEach [] X.env))) _ _ s
  refine Calls.spliced_cons (ge_make hr hN TB hcode ok hi hs I h fun u s5 hG => ?_)
  obtain ⟨a, gi, s4, H1, H4, J, fp, tn, it, go, nm, qn, code, rfl, tab, hq, I4, f4, T, st5, hgc, hgd, hgs, hga, hlt, hfl, hgen, hI⟩ := hG
  refine Calls.spliced_nil ?_
  obtain ⟨W, ⟨m0, w0⟩, turn⟩ := hq H4 tab
  have rB : Room k (X.A.in1.in1.in1.in1.over (.compLoop (.GeneratorExp elt [⟨tg, iter, ifs, 0⟩] scope gpos) 0 (.ref it) .none (genEnv scope (cloFrom X.env.cells scope.names []) s4.heap.objs.size code builtinsNs X.env)) []) :=
    room_over (A := X.A.in1.in1.in1.in1) ⟨hr.hd, by have := hr.dp; show X.A.depth + _ + _ < _; omega, by have := hr.un; show X.A.units + 1 + 1 + 1 + 1 + _ + _ < _; omega⟩
  have fB : (X.A.in1.in1.in1.in1.over (.compLoop (.GeneratorExp elt [⟨tg, iter, ifs, 0⟩] scope gpos) 0 (.ref it) .none (genEnv scope (cloFrom X.env.cells scope.names []) s4.heap.objs.size code builtinsNs X.env)) []).frames = some (genEnv scope (cloFrom X.env.cells scope.names []) s4.heap.objs.size code builtinsNs X.env :: X.stack) :=
    gx_frames (A := X.A.in1.in1.in1.in1) I4.ok.frames over_envs
  have I5 := hI _ fB rB.hd
  generalize hB : X.A.in1.in1.in1.in1.over (.compLoop (.GeneratorExp elt [⟨tg, iter, ifs, 0⟩] scope gpos) 0 (.ref it) .none (genEnv scope (cloFrom X.env.cells scope.names []) s4.heap.objs.size code builtinsNs X.env)) [] = B at rB I5
  have g5 : s5.heap.IsGen a gi := ⟨go, nm, qn, hga, hgc, hgd, hgs⟩
  have gturn : GTurn J g tt te (own.map (·.2)) (wipe σ (own.map (·.2))) W (fun ys i m y H => ys.length < sizeLine ∧ ∃ m', m' < m ∧ W (ys ++ [y]) (i + 1) m' H) (fun ys H => ys.length ≤ sizeLine ∧ ∀ p, H p = none → Q (.ref p) (upd H p (.tup ys))) := fun ys i m H hw => by
    rcases turn ys i m H hw with z | ⟨z1, Nx, z2, z3⟩
    · exact .inl z
    · exact .inr ⟨z1, _, Nx ys, fun y H' hy => ⟨hy.1, z2 _ _ hy.2⟩, fun H' h' => z2 _ _ h', z3⟩
  have fpa : ∀ p ∈ [(a, go)], ∀ b ∈ fp, p.1 ≠ b := fun p hp b hb => by
    rw [List.mem_singleton.mp hp]
    exact Nat.ne_of_gt (Nat.lt_trans (hfl b hb) hlt)
  refine call_tuple_by g5 fun {Q' E'} kk => collect_by g5 fun h1 hS1 kp1 => ?_
  have hal : a < s5.heap.objs.size := Heap.lt_size hga
  have hS4 : s4.heap.objs.size ≤ s5.heap.objs.size := Nat.le_of_lt (Nat.lt_trans hlt hal)
  obtain ⟨cS, hS⟩ : ∃ c, h1.get? s5.heap.objs.size = some (lstObj #[] c) := by
    rcases hS1 with z | z
    · exact ⟨_, z⟩
    · exact z
  -- the list is pinned
  have I6 : Inv (gx X B s4 H4 (genEnv scope (cloFrom X.env.cells scope.names []) s4.heap.objs.size code builtinsNs X.env) fp) [(a, go), (s5.heap.objs.size, lstObj #[] cS)] (wipe σ (own.map (·.2))) H4 { s5 with heap := h1 } := by
    have I5' := I5.kept (t' := s5.toks) kp1
    refine I5'.pins_of fun p hp => ?_
    rcases List.mem_cons.mp hp with z | z
    · rw [z]
      exact I5'.pin (a, go) (List.mem_append_right _ List.mem_cons_self)
    · rw [List.mem_singleton.mp z]
      exact ⟨hS, I5.hok.fresh (Nat.le_refl _), Nat.ne_of_gt I5.lt, I5.nofs (Nat.le_refl _), fun v q => by cases q⟩
  have fpS : ∀ p ∈ [(a, go), (s5.heap.objs.size, lstObj #[] cS)], ∀ b ∈ fp, p.1 ≠ b := fun p hp b hb => by
    rcases List.mem_cons.mp hp with z | z
    · rw [z]
      exact Nat.ne_of_gt (Nat.lt_trans (hfl b hb) hlt)
    · rw [List.mem_singleton.mp z]
      exact Nat.ne_of_gt (Nat.lt_of_lt_of_le (hfl b hb) hS4)
  have st6 : tn 0 h1 := T.keep 0 _ _ st5 fun b hb o e => kp1 b o e
  refine ext_drive (A := X.A.in1.in1) (Xg := gx X B s4 H4 (genEnv scope (cloFrom X.env.cells scope.names []) s4.heap.objs.size code builtinsNs X.env) fp) (fp := fp) (tn := tn) (S := s5.heap.objs.size) (a := a) (go := go) (gi := gi) (nm := nm) (qn := qn)
    (σ0 := wipe σ (own.map (·.2))) (W := W) (O := fun ys i m y H => ys.length < sizeLine ∧ ∃ m', m' < m ∧ W (ys ++ [y]) (i + 1) m' H) (End := fun ys H => ys.length ≤ sizeLine ∧ ∀ p, H p = none → Q (.ref p) (upd H p (.tup ys)))
    hr.hd (by have := hr.dp; show X.A.depth < _; omega) hgc hgd hgs (fun b hb => fpS (s5.heap.objs.size, lstObj #[] cS) (List.mem_cons_of_mem _ List.mem_cons_self) b hb) (Nat.ne_of_gt hal) hS4 rfl T.keep (fun i h st b hb => (T.obj i h st b hb).imp fun _ z => z.1)
    (fun ys i m x H hO => hO) (fun s hF => ?_) (m0 + 1) { s5 with heap := h1 } ⟨[], 0, H4, _, ⟨#[], cS, rfl, .nil⟩, fpS, I6, st6, fun b hb => (f4 b hb).1⟩ ⟨_, hgen, rfl, ?_⟩
  · obtain ⟨ys, H6, cp, ⟨acc, cc, rfl, rv⟩, I7, hz, q7⟩ := hF
    have eS := (I7.pin (s5.heap.objs.size, lstObj acc cc) (List.mem_append_right _ (List.mem_cons_of_mem _ List.mem_cons_self))).1
    refine ⟨acc, cc, rfl, eS, kk acc.toList s ⟨by rw [← rv.length]; exact hz, ?_⟩⟩
    have I8 := gx_back I4 f4 I7
    have hf : H6 s.heap.objs.size = none := I8.hok.fresh (Nat.le_refl _)
    refine ⟨.ref s.heap.objs.size, upd H6 s.heap.objs.size (.tup ys), I8.laid (t' := s.toks) (fun b u e => Heap.get?_push_of_some _ e) (Nat.le_refl _) ?_, rfl, q7 _ hf⟩
    exact ⟨hz, acc.toList, rv, ⟨_, Heap.get?_push_size _ rfl, rfl, _, rfl⟩⟩
  · subst hB
    refine ge_begin (CP := CPl s5.heap.objs.size) (a := a) (go := go) (σ0 := wipe σ (own.map (·.2))) hc ok.co T (pg _ _ _ _ _ _) (pt _ _ _ _ _ _ rB) (pe _ _ _ _ _ _ rB) gturn (wipe_wipe _ _) (m0 + 1) m0 (Nat.lt_succ_self _) [] 0 H4 _ _ ⟨_, ⟨#[], cS, rfl, .nil⟩, fpS, inv_setGen I6 rfl, st6, fun b hb => (f4 b hb).1⟩ w0
end
end LC
-- G8
namespace LC
open PySem PySem.Spec PyProof.Rows L2 GenW
open AutoSeq1 (wpAny_loadPart')

/-! sum of a tuple -/
def rSumT (K : PySem.W.Frag) : List V → Hp → VK → Prop := fun vs H Q => ∃ (a : Addr) (ns : List Int), vs = [V.ref a] ∧ (SqT K H a (ns.map V.int) ∨ SqL K H a (ns.map V.int)) ∧ Q (.int ns.sum) H
theorem cr_sumT {X : Cx} (hc : X.calm = true) : CallR X (.builtin "sum") (rSumT X.K) := by
  intro pins s σ H vs us Q I r h
  obtain ⟨a, ns, rfl, hs, q⟩ := h
  rcases hs with hs | hs
  · obtain ⟨its, rv, hl, _⟩ := I.tuple hs
    rw [Vals.ref1 r]
    obtain ⟨xs, e⟩ := rv.ints.allInts.items
    have hn : numsOf (intItems xs).toList = ns := by rw [← e]; exact rv.ints.numsOf
    rw [nums_intItems] at hn
    have hT : s.heap.IsTuple a (intItems xs) := by rw [← e]; exact hl
    have hlt : a < s.heap.objs.size := hl.lt
    have hne : a ≠ s.heap.objs.size := Nat.ne_of_lt hlt
    refine call_sum_walkG (wpAny_pyIter_tuple hT ⟨s.heap.objs.size, _, _, _, _, _, numAt xs, rfl, Walks.tuple (A := X.A.in1) (I.ok.hd hc) s.heap.objs.size a hne (intItems xs), ⟨⟨_, Heap.get?_push_size _ rfl, rfl, rfl⟩, ?_⟩, ?_, fun _ _ => intItems_at, fun h' tk t' hk => ?_⟩)
    · obtain ⟨o, ho, r⟩ := hT
      exact ⟨o, Heap.get?_push_of_some _ ho, r⟩
    · intro b hb
      show b < (s.heap.push _).objs.size
      rw [Heap.size_push]
      rcases List.mem_cons.mp hb with z | z
      · rw [z]; exact Nat.lt_succ_self _
      · rw [List.mem_singleton.mp z]; exact Nat.lt_succ_of_lt hlt
    · have hk' : ∀ b o, s.heap.get? b = some o → h'.get? b = some o := fun b o e => hk b o (fun z => by rw [List.mem_singleton.mp z] at e; exact absurd (Heap.lt_size e) (Nat.lt_irrefl _)) (Heap.get?_push_of_some _ e)
      have e1 : preSum (numAt xs) (intItems xs).size = ns.sum := by
        have : (intItems xs).size = xs.size := by simp [intItems]
        rw [this, preSum_eq, List.take_of_length_le (by simp), hn]
      rw [e1]
      exact ⟨.int _, H, I.kept (t' := tk) hk', ⟨_, rfl⟩, q⟩
  · obtain ⟨its, rv, hl, _⟩ := I.list hs
    rw [Vals.ref1 r]
    exact sum_raw (I.ok.hd hc) hl.isList rv.ints fun h' tk t' hk => ⟨.int _, H, I.kept hk, ⟨_, rfl⟩, q⟩

/-! enumerate over a tuple -/
theorem made_enumT (l : Addr) (o : Obj) (items : Array Value) (hT : ∀ h : Heap, h.get? l = some o → h.IsTuple l items) :
    Meets (Builtin.«enumerate.__new__» ⟨[.type "enumerate", .ref l], []⟩) (fun _ R s => s.heap.get? l = some o ∧
      R (.ok (.ret (.ref (s.heap.push { cls := .type "tuple_iterator", data := .fields #[.ref l, .int 0 0] }).objs.size)))
        { s with heap := (s.heap.push { cls := .type "tuple_iterator", data := .fields #[.ref l, .int 0 0] }).push { cls := .type "enumerate", data := .fields #[.none, .bool false, .ref s.heap.objs.size, rawInt 0, .none, .none] } }) :=
  .of_wp fun prog w A R s h => by
    obtain ⟨hp, g, d, tk, os⟩ := s; obtain ⟨hl, h⟩ := h
    have hsub := sub_enumerate
    have hL : Heap.IsTuple (Shared.heap ⟨hp, g, d, tk, os⟩) l items := hT _ hl
    wp_walk using wpAny_loadPart' hl
    refine wpAny_stack_any fun st => wpAny_pure ?_
    split
    · rename_i c _ _ _ _ _
      cases (c == Value.type "enumerate")
      · wp_walk using wpAny_loadPart' hl, wpAny_pyIter_tuple hL
        exact ⟨_, rfl, h⟩
      · wp_walk using wpAny_loadPart' hl, wpAny_pyIter_tuple hL
        exact ⟨_, rfl, h⟩
    · wp_walk using wpAny_loadPart' hl, wpAny_pyIter_tuple hL
      exact ⟨_, rfl, h⟩
section
variable {prog : Program} {w : World} {A : Around} {E : Value → Shared → Prop} {s : Shared}
theorem call_enumT {l : Addr} {items : Array Value} {Q : Value → Shared → Prop} (hL : s.heap.IsTuple l items)
    (h : ∀ h', IsEnum h' (s.heap.objs.size + 1) s.heap.objs.size 0 .none → h'.IsTupleIter s.heap.objs.size l 0 → (∀ b o, s.heap.get? b = some o → h'.get? b = some o) → Q (.ref (s.heap.objs.size + 1)) { s with heap := h' }) :
    wpAny (model prog w) A (call (.type "enumerate") [.ref l]) Q E s := by
  obtain ⟨o, hl, rr⟩ := _root_.id hL
  refine callType_new F.called_enumerate (by decide) (F.typeCall_enumerate_1 _) (F.newCall_enumerate_1 _) (fun obj => F.args_object_init_2 obj _) F.entry_enumerate_new
    (made_enumT l o items fun h e => ⟨o, e, rr⟩) ⟨hl, ?_⟩
  generalize hy : ({ cls := .type "tuple_iterator", data := .fields #[.ref l, .int 0 0] } : Obj) = y
  have hyd : y.isFreed = false := by rw [← hy]; rfl
  generalize hz : s.heap.push y = h1
  have h1s : h1.objs.size = s.heap.objs.size + 1 := by rw [← hz]; exact Heap.size_push ..
  have h1g : h1.get? s.heap.objs.size = some y := by rw [← hz]; exact Heap.get?_push_size _ hyd
  have h1k : ∀ b o, s.heap.get? b = some o → h1.get? b = some o := fun b o e => by rw [← hz]; exact Heap.get?_push_of_some _ e
  generalize hv : ({ cls := .type "enumerate", data := .fields #[.none, .bool false, .ref s.heap.objs.size, rawInt 0, .none, .none] } : Obj) = v
  have h2g : (h1.push v).get? h1.objs.size = some v := by rw [← hv]; exact Heap.get?_push_size _ rfl
  have he : IsEnum (h1.push v) (s.heap.objs.size + 1) s.heap.objs.size 0 .none := by
    have q := h2g
    rw [h1s, ← hv] at q
    rw [← hv]
    exact q
  have goal : Q (.ref (s.heap.objs.size + 1)) { s with heap := h1.push v } := h _ he ⟨y, Heap.get?_push_of_some _ h1g, by rw [← hy], by rw [← hy]; rfl⟩ fun b o e => Heap.get?_push_of_some _ (h1k b o e)
  rw [← h1s] at goal
  refine ⟨⟨v, h2g, by rw [← hv]⟩, goal⟩
end
def IteT (K : PySem.W.Frag) (a : Addr) : It :=
  ⟨fun i H => ∃ (xs : List V) (x : V), SqT K H a xs ∧ xs[i]? = some x, fun i H v H' => ∃ T x, v = .ref T ∧ H T = none ∧ H' = upd H T (.tup [.int (i : Nat), x]) ∧ ∀ xs, SqT K H a xs → xs[i]? = some x, fun i H => ∃ xs : List V, SqT K H a xs ∧ i = xs.length⟩
theorem turn_enumT {P : Program} {w : World} {K : PySem.W.Frag} {elts : List Expr} {kk : Nat} {tpos : Pos} (a e it : Addr) :
    Turn P w K (.Tuple elts kk tpos) (IteT K a) [e, it] e (fun i h => (∃ old, IsEnum h e it ((i : Nat) : Int) old) ∧ h.IsTupleIter it a i ∧ e ≠ it) where
  mem := List.mem_cons_self
  obj := fun i h st b hb => by
    obtain ⟨⟨old, he⟩, ⟨o, ho, hc, hd⟩, _⟩ := st
    rcases List.mem_cons.mp hb with z | z
    · rw [z]; exact ⟨_, he, fun v q => nomatch q⟩
    · rw [List.mem_singleton.mp z]; exact ⟨o, ho, fun v q => by rw [hd] at q; cases q⟩
  keep := fun i h h' st k => by
    obtain ⟨⟨old, he⟩, hi, hne⟩ := st
    exact ⟨⟨old, k e List.mem_cons_self _ he⟩, hi.at fun o q => k it (List.mem_cons_of_mem _ List.mem_cons_self) o q, hne⟩
  item := by
    intro X hP hw hK hc i pins s σ H E I hf st hg
    subst hP hw hK
    obtain ⟨⟨old, he⟩, hit, hne⟩ := st
    obtain ⟨xs, x, hq, hx⟩ := hg
    obtain ⟨its, rv, p, hz⟩ := I.tuple hq
    obtain ⟨u, hu, ru⟩ := rv.get hx
    have hel : e < s.heap.objs.size := Heap.lt_size he
    have hil : it < s.heap.objs.size := by obtain ⟨_, q, _⟩ := hit; exact Heap.lt_size q
    have hpt : s.heap.IsTuple a its.toArray := p
    have hae : a ≠ e := fun z => by
      obtain ⟨o, q, c, _⟩ := hpt
      rw [z] at q
      have q2 : s.heap.get? e = some _ := he
      rw [q2] at q
      cases q
      exact absurd (show Value.type "enumerate" = Value.type "tuple" from c) (by decide)
    have hai : a ≠ it := fun z => by
      obtain ⟨o, q, c, _⟩ := hpt
      obtain ⟨o2, q2, c2, _⟩ := hit
      rw [z, q2] at q
      cases q
      rw [c2] at c
      exact absurd c (by decide)
    have hlt : i < its.toArray.size := by
      have := (List.getElem?_eq_some_iff.mp hu).1
      simpa using this
    refine wpAny_pyNext_enum_itemD (Draws.tuple (prog := X.prog) (w := X.w) (A := X.A.in1) (I.ok.hd hc) it a hai its.toArray) he ⟨hit, hpt⟩ hlt hne ?_ fun y h' tk hy ho hst hT hsz hk => ?_
    · intro hm
      rcases List.mem_cons.mp hm with z | z
      · exact hne z
      · exact hae (List.mem_singleton.mp z).symm
    have ey : y = u := by
      have h2 : its.toArray[i]? = some u := by simpa using hu
      rw [h2] at hy
      exact (Option.some.inj hy).symm
    subst ey
    refine ⟨_, rfl, wpAny_letOwnedTupleGo_enum (s := { s with heap := h', toks := tk + 1 }) ho fun h'' he' sb => ?_⟩
    have hT2 := (sb.2 s.heap.objs.size (Nat.ne_of_gt hel)).trans hT
    have new : ObjOk X.prog X.w (upd H s.heap.objs.size (.tup [.int (i : Nat), x])) h'' s.heap.objs.size (.tup [.int (i : Nat), x]) :=
      ⟨(by decide : 2 ≤ sizeLine), [.int i tk, y], .cons ⟨_, rfl⟩ (.cons ru .nil), _, hT2, rfl, _, rfl⟩
    have ke : ∀ b ob, b ∉ [e, it] → s.heap.get? b = some ob → h''.get? b = some ob := fun b ob hb q => (sb.2 b fun z => hb (by rw [z]; exact List.mem_cons_self)).trans (hk b ob (fun z => hb (by rw [z]; exact List.mem_cons_self)) (fun z => hb (by rw [z]; exact List.mem_cons_of_mem _ List.mem_cons_self)) q)
    have I1 := I.turnedNew (h' := h'') (t' := tk + 1) (ch := [e, it]) ke hf (Nat.le_refl _) new
    refine ⟨.ref s.heap.objs.size, _, I1, rfl, ⟨_, x, rfl, I.hok.fresh (Nat.le_refl _), rfl, fun ys hy => by rw [I.tuple_inj hy hq]; exact hx⟩, ⟨⟨y, ?_⟩, hst.1.at fun o q => (sb.2 it (Ne.symm hne)).trans q, hne⟩, fun b hb => ?_⟩
    · rw [show ((i + 1 : Nat) : Int) = (i : Int) + 1 from rfl]; exact he'
    · have hb' : b < s.heap.objs.size := by
        rcases List.mem_cons.mp hb with z | z
        · rw [z]; exact hel
        · rw [List.mem_singleton.mp z]; exact hil
      rw [upd_ne (Nat.ne_of_lt hb')]
      exact (hf b hb).1
  done := by
    intro X hP hw hK hc i pins s σ H E I hf st hg
    subst hP hw hK
    obtain ⟨⟨old, he⟩, hit, hne⟩ := st
    obtain ⟨xs, hq, hx⟩ := hg
    obtain ⟨its, rv, p, hz⟩ := I.tuple hq
    have hpt : s.heap.IsTuple a its.toArray := p
    obtain ⟨f0, f1, f2, f3, f4, f5⟩ := hf it (List.mem_cons_of_mem _ List.mem_cons_self)
    have hl := rv.length
    have hai : a ≠ it := fun z => by
      obtain ⟨o, q, c, _⟩ := hpt
      obtain ⟨o2, q2, c2, _⟩ := hit
      rw [z, q2] at q
      cases q
      rw [c2] at c
      exact absurd c (by decide)
    have ei : i = its.toArray.size := by rw [hx, hl]; simp
    subst ei
    exact wpAny_pyNext_enum_endD (Draws.tuple (prog := X.prog) (w := X.w) (A := X.A.in1) (I.ok.hd hc) it a hai its.toArray) he ⟨hit, hpt⟩ fun h' eb => ⟨rfl, I.turned (t' := s.toks) (fun b o hb q => eb b o hb q) f0 f1 f3 f4 f5⟩
  self := fun A i s Q E st h => by
    obtain ⟨⟨_, he⟩, _⟩ := st
    exact wpAny_pyIter_enum he h
def iEnumT (K : PySem.W.Frag) (ta : TA) : TI := fun σ H R => ta σ H fun vs H1 => ∃ a xs, vs = [.ref a] ∧ SqT K H1 a xs ∧ R (IteT K a) H1
theorem pi_enumT {X : Cx} {e : Expr} {ta : TA} {p pos tpos : Pos} {elts : List Expr} {kk : Nat} (hg : Gl X "enumerate") (hm : X.mg "enumerate" = none) (ha : PA X [e] ta) (hs : starEach [e] X.env = [(false, eval e X.env)] := by rfl) :
    PI X (.Tuple elts kk tpos) (.Call (.Name "enumerate" p) [e] [] pos) (iEnumT X.K ta) := by
  refine ⟨fun pins s σ H R I h => ?_⟩
  refine Call_ (ld_blt I hg hm boot_enumerate (PyProof.Rows.callWith_type1 (thn (ha.run pos pins s σ H _ I h) fun us s1 hh => ?_) hs rfl))
  obtain ⟨vs, H1, I1, r1, a, xs, ex, hq, q⟩ := hh
  subst ex
  rw [Vals.ref1 r1]
  obtain ⟨its, rv, p', hz⟩ := I1.tuple hq
  refine call_enumT (show s1.heap.IsTuple a its.toArray from p') fun h' he hit hk => wpAny_pyIter_enum he ?_
  refine ⟨s1.heap.objs.size + 1, [s1.heap.objs.size + 1, s1.heap.objs.size], _, _, H1, rfl, I1.kept (t' := s1.toks) hk, turn_enumT a _ _, ⟨⟨.none, he⟩, hit, Nat.succ_ne_self _⟩, fun b hb => ?_, q⟩
  have hle : s1.heap.objs.size ≤ b := by
    rcases List.mem_cons.mp hb with z | z
    · rw [z]; exact Nat.le_succ _
    · rw [List.mem_singleton.mp z]; exact Nat.le_refl _
  exact I1.fpOk hle (I1.hok.fresh hle)

/-! max(xs, default=d), xs a list of whole numbers -/
theorem args_maxD (a v : Value) : argsOk "max" ⟨[a], [(Str.ofString "default", v)]⟩ := by unfold argsOk; kernel_rfl
def rMaxDf (K : PySem.W.Frag) : List V → List V → Hp → VK → Prop := fun vs zs H Q => ∃ (a : Addr) (ns : List Int) (d : Int), vs = [V.ref a] ∧ zs = [V.int d] ∧ SqL K H a (ns.map V.int) ∧ ∀ m, (ns = [] → m = d) → (ns ≠ [] → m ∈ ns ∧ ∀ y ∈ ns, y ≤ m) → Q (.int m) H
section
variable {prog : Program} {w : World} {A : Around} {E : Value → Shared → Prop}
theorem gt_raw {a b : Int} {t u : Tok} {s : Shared} {Q : Value → Shared → Prop} (h : Q (.bool (decide (a > b))) s) : wpAny (model prog w) A (richCompare .Gt (.int a t) (.int b u)) Q E s :=
  CmpOf.ints_gt (prog := prog) (w := w) (A := A) (P := fun i v => ∃ t, v = Value.int (if i = 0 then a else b) t) (fun i => if i = 0 then a else b) (fun _ _ h => h) 0 1 _ _ s Q E ⟨t, rfl⟩ ⟨u, rfl⟩ h
/-- the two places of the walker's own list -/
def bestA : Option (Int × Tok) → Array Value
  | none => #[]
  | some p => #[.int p.1 p.2, .int p.1 p.2]
def bestOk (ns : List Int) (i : Nat) : Option (Int × Tok) → Prop
  | none => i = 0
  | some p => 0 < i ∧ p.1 ∈ ns.take i ∧ ∀ y ∈ ns.take i, y ≤ p.1
theorem take_snoc {ns : List Int} {i : Nat} {k : Int} (h : ns[i]? = some k) : ns.take (i + 1) = ns.take i ++ [k] := by
  rw [List.take_add_one, h]; rfl
theorem maxD_loop {it l S : Addr} {its : List Value} {ns : List Int} {d : Value} {R : Result → Shared → Prop} (hh : A.handled = none) (rv : Vals (ns.map V.int) its) (hn1 : S ≠ it) (hn2 : S ≠ l) (hn3 : l ≠ it) :
    ∀ (k i : Nat) (s : Shared) (best : Option (Int × Tok)) (c : Nat), ns.length - i = k → i ≤ ns.length → s.heap.IsListIter it l i → s.heap.IsList l its.toArray → s.heap.get? S = some (lstObj (bestA best) c) → bestOk ns i best →
      (∀ h' tk m, ((ns = [] ∧ m = d) ∨ ∃ k t, m = .int k t ∧ k ∈ ns ∧ ∀ y ∈ ns, y ≤ k) → (∀ b o, b ≠ it → b ≠ S → s.heap.get? b = some o → h'.get? b = some o) → R (.ok (.ret m)) { s with heap := h', toks := tk }) →
      codeAny (model prog w) A (.builtin "max.loop" ⟨[.ref it, .none, .ref S], [(Str.ofString "default", d)]⟩) R s := by
  have hname : (toString "max" ++ toString ".loop" : String) = "max.loop" := by decide
  have hlen : its.length = ns.length := by rw [← rv.length, List.length_map]
  intro k
  induction k with
  | zero =>
    intro i s best c hk hi hit hl hS hb hR
    have ei : i = ns.length := by omega
    refine codeAny_builtin F.entry_max_loop ?_
    rw [Around.under_plainId F.plain_max_loop _]
    show wpAny _ A.in1 (seqItems? (.ref S) >>= _) _ _ s
    refine wpAny_bind (wpAny_seqItems hS rfl ?_)
    show wpAny _ A.in1 (tryCatch (pyNext (.ref it)) _ >>= _) _ _ s
    refine wpAny_bind (wpAny_tryCatch (wpAny_pyNext_list_end (A := A.in1) hh hit hl (by simp; omega) fun h' eb => ?_))
    cases best with
    | none =>
      have i0 : i = 0 := hb
      have e0 : ns = [] := List.length_eq_zero_iff.mp (by omega)
      refine wpAny_bind (wpAny_rule (wpAny_pure ?_))
      exact hR h' s.toks d (.inl ⟨e0, rfl⟩) fun b o h1 _ e => eb b o h1 e
    | some p =>
      obtain ⟨b1, b2, b3⟩ := hb
      have hS' := eb S _ hn1 hS
      show wpAny _ A.in1 (updateSeq S (fun _ => #[]) >>= _) _ _ _
      refine wpAny_bind ?_
      refine wpAny_updateSeq (hz := (show 2 ≤ sizeLine by decide)) hS' rfl (wpAny_bind (wpAny_letGo (wpAny_pure ?_)))
      have et : ns.take i = ns := by rw [ei]; exact List.take_length
      rw [et] at b2 b3
      exact hR _ s.toks _ (.inr ⟨p.1, p.2, rfl, b2, b3⟩) fun b o h1 h2 e => (Heap.get?_update_other _ _ (Ne.symm h2)).trans (eb b o h1 e)
  | succ k ih =>
    intro i s best c hk hi hit hl hS hb hR
    have hlt : i < ns.length := by omega
    obtain ⟨kv, ekv⟩ : ∃ kv, ns[i]? = some kv := ⟨ns[i], List.getElem?_eq_getElem hlt⟩
    obtain ⟨u, hu, ru⟩ := rv.get (show (ns.map V.int)[i]? = some (V.int kv) by rw [List.getElem?_map, ekv]; rfl)
    obtain ⟨t, rfl⟩ := ru
    have ts := take_snoc ekv
    refine codeAny_builtin F.entry_max_loop ?_
    rw [Around.under_plainId F.plain_max_loop _]
    show wpAny _ A.in1 (seqItems? (.ref S) >>= _) _ _ s
    refine wpAny_bind (wpAny_seqItems hS rfl ?_)
    show wpAny _ A.in1 (tryCatch (pyNext (.ref it)) _ >>= _) _ _ s
    refine wpAny_bind (wpAny_tryCatch (wpAny_pyNext_list_item (A := A.in1) hit hl (x := .int kv t) (by simpa using hu) fun h' hit' sb => ?_))
    have hS' : h'.get? S = some (lstObj (bestA best) c) := (sb.2 S hn1).trans hS
    have hl' : h'.IsList l its.toArray := hl.extBut sb.extBut hn3
    have step : ∀ (p : Int × Tok) (h2 : Heap) (c2 : Nat), (∀ b o, b ≠ S → h'.get? b = some o → h2.get? b = some o) → h2.get? S = some (lstObj (bestA (some p)) c2) → bestOk ns (i + 1) (some p) →
        codeAny (model prog w) A (.builtin "max.loop" ⟨[.ref it, .none, .ref S], [(Str.ofString "default", d)]⟩) R { s with heap := h2 } := fun p h2 c2 k2 e2 b2 =>
      ih (i + 1) { s with heap := h2 } (some p) c2 (by omega) hlt (hit'.at fun o e => k2 it o (Ne.symm hn1) e) (hl'.at fun o e => k2 l o (Ne.symm hn2) e) e2 b2 fun h3 tk m hm hk3 => hR h3 tk m hm fun b o h1 hb2 e => hk3 b o h1 hb2 (k2 b o hb2 ((sb.2 b h1).trans e))
    cases best with
    | none =>
      have i0 : i = 0 := hb
      show wpAny _ A.in1 (updateSeq S (fun _ => #[Value.int kv t, Value.int kv t]) >>= _) _ _ _
      refine wpAny_bind ?_
      refine wpAny_updateSeq hS' rfl ?_
      rw [hname]
      obtain ⟨c3, e3⟩ : ∃ c3, (h'.update S (Obj.mapSeq fun _ => #[Value.int kv t, Value.int kv t])).get? S = some (lstObj (bestA (some (kv, t))) c3) := ⟨_, Heap.get?_update_self _ hS' rfl⟩
      refine wpAny_pure ⟨plainId_quiet F.plain_max_loop _, step (kv, t) _ c3 (fun b o h1 e => (Heap.get?_update_other _ _ (Ne.symm h1)).trans e) e3 ⟨Nat.succ_pos _, ?_, ?_⟩⟩
      · rw [ts]; simp
      · rw [ts, i0]; intro y hy; simp at hy; rw [hy]; exact Int.le_refl _
    | some p =>
      obtain ⟨b1, b2, b3⟩ := hb
      show wpAny _ A.in1 (tryCatch (holding [Value.int kv t, Value.int kv t] (richCompare .Gt (Value.int kv t) (Value.int p.1 p.2) >>= _)) _ >>= _) _ _ _
      refine wpAny_bind (wpAny_tryCatch (wpAny_holding (wpAny_bind (gt_raw ?_))))
      refine wpAny_bind (wpAny_holding (wpAny_truthy_bool ?_))
      refine wpAny_bind (wpAny_letGo (wpAny_pure ?_))
      by_cases hg : kv > p.1
      · rw [decide_eq_true hg]
        simp only [if_true]
        refine wpAny_bind ?_
        refine wpAny_updateSeq (hz := (show 2 ≤ sizeLine by decide)) hS' rfl (wpAny_bind (wpAny_letGo ?_))
        rw [hname]
        obtain ⟨c3, e3⟩ : ∃ c3, (h'.update S (Obj.mapSeq fun _ => #[Value.int kv t, Value.int kv t])).get? S = some (lstObj (bestA (some (kv, t))) c3) := ⟨_, Heap.get?_update_self _ hS' rfl⟩
        refine wpAny_pure ⟨plainId_quiet F.plain_max_loop _, step (kv, t) _ c3 (fun b o h1 e => (Heap.get?_update_other _ _ (Ne.symm h1)).trans e) e3 ⟨Nat.succ_pos _, ?_, ?_⟩⟩
        · rw [ts]; simp
        · rw [ts]; intro y hy
          rcases List.mem_append.mp hy with z | z
          · have := b3 y z; show y ≤ kv; omega
          · rw [List.mem_singleton.mp z]; exact Int.le_refl _
      · rw [decide_eq_false hg]
        simp only [Bool.false_eq_true, if_false]
        refine wpAny_bind (wpAny_letGo ?_)
        rw [hname]
        refine wpAny_pure ⟨plainId_quiet F.plain_max_loop _, step p h' c (fun b o _ e => e) hS' ⟨Nat.succ_pos _, ?_, ?_⟩⟩
        · rw [ts]; exact List.mem_append_left _ b2
        · rw [ts]; intro y hy
          rcases List.mem_append.mp hy with z | z
          · exact b3 y z
          · rw [List.mem_singleton.mp z]; omega
end
theorem cr_maxDf {X : Cx} (hc : X.calm = true) : CallRK X (.builtin "max") [Str.ofString "default"] (rMaxDf X.K) := by
  intro pins s σ H vs zs us ws Q I r rz h
  obtain ⟨a, ns, d, rfl, rfl, hs, q⟩ := h
  obtain ⟨its, rv, hl, _⟩ := I.list hs
  rw [Vals.ref1 r]
  cases rz with
  | cons rd rn =>
    cases rn
    obtain ⟨td, rfl⟩ := rd
    have hlt : a < s.heap.objs.size := by
      obtain ⟨_, e, _⟩ := hl.isList
      exact Heap.lt_size e
    have hname : (toString "max" ++ toString ".loop" : String) = "max.loop" := by decide
    have hfin : wpAny (model X.prog X.w) X.A.in1 (Builtin.«max» ⟨[.ref a], [(Str.ofString "default", .int d td)]⟩) (fun fin s' => match fin with
        | .done f => (match (Except.ok f : Result) with | .ok (.ret v) => EP X pins σ Q v s' | .ok _ => False | .error e => X.xe e s')
        | .again c' => c'.quiet = true ∧ codeAny (model X.prog X.w) X.A c' (fun r s' => match r with | .ok (.ret v) => EP X pins σ Q v s' | .ok _ => False | .error e => X.xe e s') s') (fun e s' => X.xe e s') s := by
      show wpAny _ _ (Builtin.Builtins.bindParams "max" ["key", "default"] 0 ⟨[], [(Str.ofString "default", .int d td)]⟩ >>= _) _ _ s
      refine wpAny_bind (wpAny_of_eq (show Builtin.Builtins.bindParams "max" ["key", "default"] 0 ⟨[], [(Str.ofString "default", .int d td)]⟩ = pure [none, some (.int d td)] by kernel_rfl) ?_)
      refine wpAny_bind (wpAny_pure ?_)
      refine wpAny_bind (wpAny_pyIter_list hl.isList ?_)
      refine wpAny_bind (wpAny_newObj_type ?_)
      rw [hname]
      have hz : (s.heap.push { cls := .type "list_iterator", data := .fields #[.ref a, .int 0 0] }).objs.size = s.heap.objs.size + 1 := Heap.size_push ..
      generalize hg1 : s.heap.push { cls := .type "list_iterator", data := .fields #[.ref a, .int 0 0] } = h1 at hz
      have it1 : h1.IsListIter s.heap.objs.size a 0 := by rw [← hg1]; exact ⟨_, Heap.get?_push_size _ rfl, rfl, rfl⟩
      have k1 : ∀ b o, s.heap.get? b = some o → h1.get? b = some o := fun b o e => by rw [← hg1]; exact Heap.get?_push_of_some _ e
      refine wpAny_pure ⟨plainId_quiet F.plain_max_loop _, ?_⟩
      refine maxD_loop (l := a) (it := s.heap.objs.size) (S := h1.objs.size) (its := its) (ns := ns) (I.ok.hd hc) rv (by rw [hz]; exact Nat.succ_ne_self _) (by rw [hz]; exact Nat.ne_of_gt (Nat.lt_succ_of_lt hlt)) (Nat.ne_of_lt hlt) ns.length 0 _ none 0 (by omega) (Nat.zero_le _) (it1.at fun o e => Heap.get?_push_of_some _ e)
        ((hl.isList.at fun o e => Heap.get?_push_of_some _ (k1 a o e))) (Heap.get?_push_size _ rfl) rfl fun h' tk m hm hk => ?_
      have hk' : ∀ b o, s.heap.get? b = some o → h'.get? b = some o := fun b o e => hk b o (Nat.ne_of_lt (Heap.lt_size e)) (by rw [hz]; exact Nat.ne_of_lt (Nat.lt_succ_of_lt (Heap.lt_size e))) (Heap.get?_push_of_some _ (k1 b o e))
      have I2 := I.kept (t' := tk) hk'
      rcases hm with ⟨e0, rfl⟩ | ⟨k, t, rfl, b1, b2⟩
      · exact ⟨.int d, H, I2, ⟨_, rfl⟩, q d (fun _ => rfl) fun z => absurd e0 z⟩
      · exact ⟨.int k, H, I2, ⟨_, rfl⟩, q k (fun z => by rw [z] at b1; cases b1) fun _ => ⟨b1, b2⟩⟩
    refine wpAny_call (codeAny_call_builtin F.plain_max F.entry_max ?_)
    simp only [checkBuiltinCall, F.kind_max]
    cases hsig : Manifest.signature? "max" with
    | none => exact wpAny_pure hfin
    | some sig =>
      have ha := args_maxD (.ref a) (.int d td)
      have ha' : Bind.checkArgs "max" sig ⟨[.ref a], [(Str.ofString "default", .int d td)]⟩ = pure () := by simpa only [argsOk, hsig] using ha
      show wpAny _ _ (Bind.checkArgs "max" sig ⟨[.ref a], [(Str.ofString "default", .int d td)]⟩) _ _ s
      rw [ha']
      exact wpAny_pure hfin
end LC
-- L1
namespace LC
open PySem PySem.Spec PyProof.Rows L2 GenW

/-! ### defs, and how they are called -/
structure Callee (P : Program) (w : World) (K : PySem.W.Frag) (mg : Str → Option Value) (base : Heap) (x : Str) (k : Nat) (ps : List Str) (sp : Sp) : Prop where
  ex : ∃ f fd, mg x = some (.ref f) ∧ PySem.W.keepIn K (.ref f) = true ∧ Binds K fd ps [] ∧ FnOk P w K mg base CX0 k f fd ps sp
theorem pe_callC {X : Cx} {x : Str} {j k : Nat} {ps : List Str} {sp : Sp} {p pos : Pos} {e : Expr} {es : List Expr} {t : TA} (C : Callee X.prog X.w X.K X.mg X.base x j ps sp) (hr : Room k X.A) (hg : Gl X x) (ha : PA X (e :: es) t)
    (hle : j ≤ k := by decide) (hdb : (x == ("__debug__" : Str)) = false := by decide) (he : starEach (e :: es) X.env = (false, eval e X.env) :: starEach es X.env := by rfl) (hpl : (backTo pos (starEach es X.env)).any (·.1) = false := by rfl) :
    PE X (.Call (.Name x p) (e :: es) [] pos) (tCall sp [] E0 t) := by
  obtain ⟨f, fd, hm, hk, hb, F⟩ := C.ex
  exact pe_call (F.mono hle) hr hg hm hk hb .nil pass0 ha hdb he hpl
theorem Callee.imp {P : Program} {w : World} {K : PySem.W.Frag} {mg : Str → Option Value} {base : Heap} {x : Str} {k : Nat} {ps : List Str} {sp sp' : Sp} (C : Callee P w K mg base x k ps sp) (h : ∀ vs H Q E, sp' vs H Q E → sp vs H Q E) : Callee P w K mg base x k ps sp' := by
  obtain ⟨f, fd, hm, hk, hb, F⟩ := C.ex
  exact ⟨f, fd, hm, hk, hb, F.imp h⟩

/-- a def whose code object stands at c -/
structure FunC (K : PySem.W.Frag) (x : Str) (st : Stmt) (f : Addr) (fd : FuncData) (c : Addr) : Prop where
  ex : ∃ (oc : Value) (od : Option Addr) (kV doc pm : Value) (an : Option Addr) (ct : Value) (osl : Array (Option Value)),
    fd = PySem.W.fnOf x x (defArgs st) (defBody st) (defScope st) .none kV doc pm an (.ref c) ct ∧ K.lookup f = some ⟨oc, od, .func fd, osl⟩ ∧ PySem.W.codeIn K (.ref c) x = true
  kp : PySem.W.keepIn K (.ref f) = true
section
variable {P : Program} {w : World} {K : PySem.W.Frag} {mg : Str → Option Value} {base : Heap} {x : Str} {st : Stmt} {f c : Addr} {fd : FuncData} {N ps : List Str} {k : Nat} {sp : Sp}
theorem FunC.ok (F : FunC K x st f fd c) (S : FnScope N ps (defScope st)) (len : ∀ vs H Q E, sp vs H Q E → vs.length = ps.length)
    (hbody : ∀ (A : Around) (outer : List Env) (s : Shared) (H : Hp) (vs : List V) (Q : VK) (E : XK), Room k (A.deeper (envOfC x (defScope st) s.heap.objs.size f (.ref c))) → sp vs H Q E →
      ∃ t, PSs (cxOf CX0 P w K mg base N x (defScope st) f (.ref c) A outer s H E).nox (defBody st) t ∧ t { nx := fun _ H' => Q .non H', rt := Q } (start N vs) H) : FnOk P w K mg base CX0 (k + 1) f fd ps sp := by
  obtain ⟨oc, od, kV, doc, pm, an, ct, osl, rfl, lk, hcd⟩ := F.ex
  refine fn_of lk hcd S len fun A outer s H vs Q E hr hsp => ?_
  obtain ⟨t, h, q⟩ := hbody A outer s H vs Q E hr hsp
  exact ⟨t, h.nox, q⟩
theorem FunC.binds (F : FunC K x st f fd c) (h : ∀ (kV doc pm : Value) (an : Option Addr) (cdv ct : Value) (us : List Value), us.length = ps.length → bindArgs (PySem.W.fnOf x x (defArgs st) (defBody st) (defScope st) .none kV doc pm an cdv ct) ⟨us, []⟩ = pure (ps.zip us)) : Binds K fd ps [] := by
  obtain ⟨oc, od, kV, doc, pm, an, ct, osl, rfl, lk, hcd⟩ := F.ex
  exact .all (h kV doc pm an (.ref c) ct)
theorem funC_mk {oc : Value} {od an : Option Addr} {osl : Array (Option Value)} {kV doc pm ct : Value} (l : K.lookup f = some ⟨oc, od, .func (PySem.W.fnOf x x (defArgs st) (defBody st) (defScope st) .none kV doc pm an (.ref c) ct), osl⟩)
    (hc : PySem.W.codeIn K (.ref c) x = true) (hk : PySem.W.keepIn K (.ref f) = true) : FunC K x st f (PySem.W.fnOf x x (defArgs st) (defBody st) (defScope st) .none kV doc pm an (.ref c) ct) c := ⟨⟨oc, od, kV, doc, pm, an, ct, osl, rfl, l, hc⟩, hk⟩
/-- a def that keeps its promise may be called -/
theorem FunC.callee (F : FunC K x st f fd c) (hm : mg x = some (.ref f)) (G : FnOk P w K mg base CX0 k f fd ps sp) (h : ∀ (kV doc pm : Value) (an : Option Addr) (cdv ct : Value) (us : List Value), us.length = ps.length → bindArgs (PySem.W.fnOf x x (defArgs st) (defBody st) (defScope st) .none kV doc pm an cdv ct) ⟨us, []⟩ = pure (ps.zip us)) :
    Callee P w K mg base x k ps sp := ⟨f, fd, hm, F.kp, F.binds h, G⟩
end

/-! ### heaps that grow: all that was tracked stays, but for what S names; the tables that Tbl names may grow -/
class Tbl where
  ts : List Addr
variable [Tbl]
/-- a table of code objects that may grow -/
structure TabX (H : Hp) (P : Addr) : Prop where
  tab : GxR.TabG H P
  mem : P ∈ Tbl.ts
instance {H : Hp} {P : Addr} : Coe (TabX H P) (GxR.TabG H P) := ⟨TabX.tab⟩
structure Xt (S : Addr → Prop) (H H' : Hp) : Prop where
  tups : ∀ a xs, H a = some (.tup xs) → H' a = some (.tup xs)
  keep : ∀ a o, ¬ S a → (∀ ps, o ≠ .tbl ps) → H a = some o → H' a = some o
  tabs : ∀ P, GxR.TabG H P → GxR.TabG H' P
  tbls : ∀ a ps, H a = some (.tbl ps) → ∃ qs, H' a = some (.tbl qs)
  tbk : ∀ P ps, P ∉ Tbl.ts → ¬ S P → H P = some (.tbl ps) → H' P = some (.tbl ps)
abbrev No : Addr → Prop := fun _ => False
abbrev Xn : Hp → Hp → Prop := Xt No
section
variable {S S' : Addr → Prop} {H H1 H2 : Hp} {a p : Addr} {o : HO}
theorem Xt.refl : Xt S H H := ⟨fun _ _ e => e, fun _ _ _ _ e => e, fun _ e => e, fun _ ps e => ⟨ps, e⟩, fun _ _ _ _ e => e⟩
theorem Xt.trans (a : Xt S H H1) (b : Xt S H1 H2) : Xt S H H2 := ⟨fun x xs e => b.tups x xs (a.tups x xs e), fun x o h1 h2 e => b.keep x o h1 h2 (a.keep x o h1 h2 e), fun P e => b.tabs P (a.tabs P e), fun x ps e => by
  obtain ⟨qs, e1⟩ := a.tbls x ps e
  exact b.tbls x qs e1, fun P ps n1 n2 e => b.tbk P ps n1 n2 (a.tbk P ps n1 n2 e)⟩
theorem Xt.weak (h : Xt S H H1) (hs : ∀ a, S a → S' a) : Xt S' H H1 := ⟨h.tups, fun x o h1 h2 e => h.keep x o (fun z => h1 (hs x z)) h2 e, h.tabs, h.tbls, fun P ps n1 n2 e => h.tbk P ps n1 (fun z => n2 (hs P z)) e⟩
theorem Xt.any (h : Xn H H1) : Xt S H H1 := h.weak fun _ z => z.elim
/-- one place changes that the first heap does not have, or that S names and that holds no tuple and no table -/
theorem Xt.at (h : Xt S H H1) (hn : ∀ u, H a = some u → S a ∧ (∀ xs, u ≠ .tup xs) ∧ ∀ ps, u ≠ .tbl ps) : Xt S H (upd H1 a o) := by
  refine ⟨fun x xs e => ?_, fun x u h1 h2 e => ?_, fun P e => ?_, fun x ps e => ?_, fun x ps n1 n2 e => by rw [upd_ne (fun z => by rw [z] at e; exact (hn _ e).2.2 ps rfl)]; exact h.tbk x ps n1 n2 e⟩
  · rw [upd_ne (fun z => by rw [z] at e; exact (hn _ e).2.1 xs rfl)]; exact h.tups x xs e
  · rw [upd_ne (fun z => by rw [z] at e h1; exact h1 (hn _ e).1)]; exact h.keep x u h1 h2 e
  · obtain ⟨ps, e1, e2⟩ := h.tabs P e
    obtain ⟨qs, e3, _⟩ := e
    exact ⟨ps, by rw [upd_ne (fun z => by rw [z] at e3; exact (hn _ e3).2.2 qs rfl)]; exact e1, e2⟩
  · obtain ⟨qs, e1⟩ := h.tbls x ps e
    exact ⟨qs, by rw [upd_ne (fun z => by rw [z] at e; exact (hn _ e).2.2 ps rfl)]; exact e1⟩
theorem Xt.young (h : Xt S H H1) (hn : H a = none) : Xt S H (upd H1 a o) := h.at fun u e => by rw [hn] at e; cases e
theorem Xt.new (h : H p = none) : Xt S H (upd H p o) := Xt.refl.young h
theorem Xt.own {xs : List V} (hs : S a) (h : H a = some (.lst xs)) : Xt S H (upd H a o) := Xt.refl.at fun u e => by
  rw [h] at e; cases e
  exact ⟨hs, fun _ z => (by cases z), fun _ z => by cases z⟩
theorem Xt.ownD {xs : List (List Key × V)} (hs : S a) (h : H a = some (.dT xs)) : Xt S H (upd H a o) := Xt.refl.at fun u e => by
  rw [h] at e; cases e
  exact ⟨hs, fun _ z => (by cases z), fun _ z => by cases z⟩
theorem Xt.tabbed (hX : TabX H p) (h : GxR.Tabbed p H H1) : Xt S H H1 := by
  obtain ⟨h1, h2⟩ := h
  obtain ⟨ps, e0, _⟩ := hX.tab
  refine ⟨fun x xs e => ?_, fun x u _ hn e => ?_, fun P e => ?_, fun x qs e => ?_, fun x qs n1 _ e => by rw [h2 x (fun z => n1 (z ▸ hX.mem))]; exact e⟩
  · rw [h2 x (ne_of e e0 (fun z => by cases z))]; exact e
  · rw [h2 x (ne_of e e0 (hn ps))]; exact e
  · by_cases z : P = p
    · rw [z]; exact h1
    · obtain ⟨qs, e1, e2⟩ := e
      exact ⟨qs, by rw [h2 P z]; exact e1, e2⟩
  · by_cases z : x = p
    · rw [z]
      obtain ⟨rs, e1, _⟩ := h1
      exact ⟨rs, e1⟩
    · exact ⟨qs, by rw [h2 x z]; exact e⟩
theorem Xt.back (h : Xt S H H1) (hs : ∀ u, H a = some u → ¬ S a) (hn : H1 a = none) : H a = none := by
  cases e : H a with
  | none => rfl
  | some u =>
    exfalso
    by_cases ht : ∃ ps, u = .tbl ps
    · obtain ⟨ps, rfl⟩ := ht
      obtain ⟨qs, e1⟩ := h.tbls a ps e
      rw [hn] at e1; cases e1
    · have := h.keep a u (hs u e) (fun ps z => ht ⟨ps, z⟩) e
      rw [hn] at this; cases this
theorem Xt.backN (h : Xn H H1) (hn : H1 a = none) : H a = none := h.back (fun _ _ z => z) hn
end

/-! ### data: whole numbers, True and False, None, texts, tuples and lists of such -/
inductive D where
  | non | bl (b : Bool) | int (i : Int) | str (x : Str) | tup (xs : List D) | lst (xs : List D)
mutual
def At (H : Hp) : D → V → Prop
  | .non, v => v = .non
  | .bl b, v => v = .bl b
  | .int i, v => v = .int i
  | .str x, v => v = .str x
  | .tup ds, v => ∃ a xs, v = .ref a ∧ H a = some (.tup xs) ∧ Ats H ds xs
  | .lst ds, v => ∃ a xs, v = .ref a ∧ H a = some (.lst xs) ∧ Ats H ds xs
def Ats (H : Hp) : List D → List V → Prop
  | [], vs => vs = []
  | d :: ds, vs => ∃ v r, vs = v :: r ∧ At H d v ∧ Ats H ds r
end
/-! data without lists: it stays whatever is stored -/
mutual
def D.fix : D → Bool
  | .tup ds => D.fixs ds
  | .lst _ => false
  | _ => true
def D.fixs : List D → Bool
  | [] => true
  | d :: ds => d.fix && D.fixs ds
end
section
variable {S : Addr → Prop} {H H1 : Hp}
mutual
theorem At.mono (h : ∀ a xs, H a = some (.tup xs) → H1 a = some (.tup xs)) : ∀ (d : D) (v : V), d.fix = true → At H d v → At H1 d v
  | .non, _, _, e => e
  | .bl _, _, _, e => e
  | .int _, _, _, e => e
  | .str _, _, _, e => e
  | .tup ds, v, hf, e => by
    unfold At at e ⊢
    obtain ⟨a, xs, e1, e2, e3⟩ := e
    exact ⟨a, xs, e1, h a xs e2, Ats.mono h ds xs (by unfold D.fix at hf; exact hf) e3⟩
  | .lst _, _, hf, _ => by unfold D.fix at hf; cases hf
theorem Ats.mono (h : ∀ a xs, H a = some (.tup xs) → H1 a = some (.tup xs)) : ∀ (ds : List D) (vs : List V), D.fixs ds = true → Ats H ds vs → Ats H1 ds vs
  | [], _, _, e => by unfold Ats at e ⊢; exact e
  | d :: ds, _, hf, e => by
    unfold Ats at e ⊢
    unfold D.fixs at hf
    obtain ⟨v, r, e1, e2, e3⟩ := e
    rw [Bool.and_eq_true] at hf
    exact ⟨v, r, e1, At.mono h d v hf.1 e2, Ats.mono h ds r hf.2 e3⟩
end
theorem At.x {d : D} {v : V} (x : Xt S H H1) (hf : d.fix = true) (h : At H d v) : At H1 d v := At.mono x.tups d v hf h
theorem Ats.x {ds : List D} {vs : List V} (x : Xt S H H1) (hf : D.fixs ds = true) (h : Ats H ds vs) : Ats H1 ds vs := Ats.mono x.tups ds vs hf h
theorem Ats.length : ∀ {ds : List D} {vs : List V}, Ats H ds vs → vs.length = ds.length
  | [], _, e => by unfold Ats at e; rw [e]; rfl
  | d :: ds, _, e => by
    unfold Ats at e
    obtain ⟨v, r, e1, _, e3⟩ := e
    rw [e1, List.length_cons, List.length_cons, Ats.length e3]
theorem Ats.get : ∀ {ds : List D} {vs : List V} {i : Nat} {d : D}, Ats H ds vs → ds[i]? = some d → ∃ v, vs[i]? = some v ∧ At H d v
  | [], _, _, _, _, e => by simp at e
  | d0 :: ds, _, 0, d, h, e => by
    unfold Ats at h
    obtain ⟨v, r, rfl, e2, _⟩ := h
    simp at e; subst e
    exact ⟨v, rfl, e2⟩
  | d0 :: ds, _, i + 1, d, h, e => by
    unfold Ats at h
    obtain ⟨v, r, rfl, _, e3⟩ := h
    obtain ⟨u, e4, e5⟩ := Ats.get (i := i) e3 (by simpa using e)
    exact ⟨u, by simpa using e4, e5⟩
theorem Ats.getV {ds : List D} {vs : List V} {i : Nat} {v : V} (h : Ats H ds vs) (e : vs[i]? = some v) : ∃ d, ds[i]? = some d ∧ At H d v := by
  have hl : i < ds.length := by rw [← h.length]; exact (List.getElem?_eq_some_iff.mp e).1
  obtain ⟨u, e1, e2⟩ := h.get (List.getElem?_eq_getElem hl)
  rw [e] at e1; cases e1
  exact ⟨_, List.getElem?_eq_getElem hl, e2⟩
theorem Ats.snoc : ∀ {ds : List D} {vs : List V} {d : D} {v : V}, Ats H ds vs → At H d v → Ats H (ds ++ [d]) (vs ++ [v])
  | [], _, d, v, h, e => by
    unfold Ats at h; subst h
    show Ats H [d] [v]
    unfold Ats
    exact ⟨v, [], rfl, e, by unfold Ats; rfl⟩
  | d0 :: ds, _, d, v, h, e => by
    unfold Ats at h
    obtain ⟨u, r, rfl, e2, e3⟩ := h
    show Ats H (d0 :: (ds ++ [d])) (u :: (r ++ [v]))
    unfold Ats
    exact ⟨u, r ++ [v], rfl, e2, Ats.snoc e3 e⟩
theorem Ats.app : ∀ {ds es : List D} {vs us : List V}, Ats H ds vs → Ats H es us → Ats H (ds ++ es) (vs ++ us)
  | [], _, _, _, h, e => by unfold Ats at h; subst h; exact e
  | d0 :: ds, es, _, us, h, e => by
    unfold Ats at h
    obtain ⟨u, r, rfl, e2, e3⟩ := h
    show Ats H (d0 :: (ds ++ es)) (u :: (r ++ us))
    unfold Ats
    exact ⟨u, r ++ us, rfl, e2, Ats.app e3 e⟩
theorem Ats.nil : Ats H [] [] := by unfold Ats; rfl
theorem Ats.cons {d : D} {ds : List D} {v : V} {vs : List V} (h : At H d v) (t : Ats H ds vs) : Ats H (d :: ds) (v :: vs) := by
  unfold Ats; exact ⟨v, vs, rfl, h, t⟩
theorem Ats.drop : ∀ {ds : List D} {vs : List V} (n : Nat), Ats H ds vs → Ats H (ds.drop n) (vs.drop n)
  | _, _, 0, h => h
  | [], _, n + 1, h => by unfold Ats at h; subst h; exact Ats.nil
  | d :: ds, _, n + 1, h => by
    unfold Ats at h
    obtain ⟨v, r, rfl, _, e3⟩ := h
    exact Ats.drop n e3
theorem Ats.take : ∀ {ds : List D} {vs : List V} (n : Nat), Ats H ds vs → Ats H (ds.take n) (vs.take n)
  | _, _, 0, _ => by simp only [List.take_zero]; exact Ats.nil
  | [], _, n + 1, h => by unfold Ats at h; subst h; exact Ats.nil
  | d :: ds, _, n + 1, h => by
    unfold Ats at h
    obtain ⟨v, r, rfl, e2, e3⟩ := h
    exact Ats.cons e2 (Ats.take n e3)
theorem ats_ints : ∀ {ns : List Int} {vs : List V}, Ats H (ns.map D.int) vs ↔ vs = ns.map V.int
  | [], vs => by show Ats H [] vs ↔ _; unfold Ats; rfl
  | n :: ns, vs => by
    show Ats H (D.int n :: ns.map D.int) vs ↔ _
    unfold Ats
    constructor
    · rintro ⟨v, r, rfl, e2, e3⟩
      unfold At at e2
      rw [ats_ints.mp e3, e2]; rfl
    · intro e
      exact ⟨V.int n, ns.map V.int, by rw [e]; rfl, by unfold At; rfl, ats_ints.mpr rfl⟩
theorem at_int {i : Int} {v : V} : At H (.int i) v ↔ v = .int i := by unfold At; rfl
theorem at_tup {ds : List D} {v : V} : At H (.tup ds) v ↔ ∃ a xs, v = .ref a ∧ H a = some (.tup xs) ∧ Ats H ds xs := by rw [At]
theorem at_lst {ds : List D} {v : V} : At H (.lst ds) v ↔ ∃ a xs, v = .ref a ∧ H a = some (.lst xs) ∧ Ats H ds xs := by rw [At]
theorem at_ints {ns : List Int} {v : V} : At H (.tup (ns.map D.int)) v ↔ ∃ a, v = .ref a ∧ H a = some (.tup (ns.map V.int)) := by
  rw [at_tup]
  constructor
  · rintro ⟨a, xs, e1, e2, e3⟩
    rw [ats_ints.mp e3] at e2
    exact ⟨a, e1, e2⟩
  · rintro ⟨a, e1, e2⟩
    exact ⟨a, _, e1, e2, ats_ints.mpr rfl⟩
theorem fixs_ints : ∀ (ns : List Int), D.fixs (ns.map D.int) = true
  | [] => rfl
  | n :: ns => by
    show D.fixs (D.int n :: ns.map D.int) = true
    unfold D.fixs
    rw [fixs_ints ns]; rfl
theorem fixs_all : ∀ {ds : List D}, (∀ d ∈ ds, d.fix = true) → D.fixs ds = true
  | [], _ => rfl
  | d :: ds, h => by
    unfold D.fixs
    rw [h d List.mem_cons_self, fixs_all fun e he => h e (List.mem_cons_of_mem _ he)]; rfl
theorem fix_ints (ns : List Int) : (D.tup (ns.map D.int)).fix = true := by unfold D.fix; exact fixs_ints ns
end
end LC
-- L2x
namespace LC
variable [Tbl]
open PySem PySem.Spec PyProof.Rows L2 GenW
/-- a module's number -/
theorem pe_gI {X : Cx} {x : Str} {n : Int} {pos : Pos} (hg : Gl X x) (hm : ∃ t, X.mg x = some (.int n t)) (hd : (x == ("__debug__" : Str)) = false := by decide) : PE X (.Name x pos) (tC (.int n)) := by
  obtain ⟨t, e⟩ := hm
  exact pe_glob hg e ⟨_, rfl⟩ hd
/-- < of whole numbers, of tuples of whole numbers -/
def rLtK (K : PySem.W.Frag) : R2 := fun x y H Q => (∃ i j, x = .int i ∧ y = .int j ∧ Q (.bl (decide (i < j))) H) ∨ rLtT K x y H Q
theorem op_ltK {X : Cx} (hu : X.A.units < cLine) : OpR X (compareOp .Lt) (rLtK X.K) := by
  intro pins s σ H x y v u Q I rx ry h
  rcases h with h | h
  · exact op_lt pins s σ H x y v u Q I rx ry h
  · exact op_ltT hu pins s σ H x y v u Q I rx ry h

/-! kinds of values -/
def wholeOf : V → Option Int
  | .int i => some i
  | _ => none
/-- isinstance knows it: a whole number or not -/
def Kd (K : PySem.W.Frag) (H : Hp) (x : V) : Prop := ∃ t b c, TyX K H x (.type t) ∧ kitB t "int" = some b ∧ kitB t "bool" = some c ∧ (b && !c) = (wholeOf x).isSome
section
variable {K : PySem.W.Frag} {H : Hp} {a : Addr}
theorem kd_int {i : Int} : Kd K H (.int i) := ⟨"int", true, false, .base (.int i), by decide +kernel, by decide +kernel, rfl⟩
theorem kd_bl {b : Bool} : Kd K H (.bl b) := ⟨"bool", true, true, .base (.bl b), by decide +kernel, by decide +kernel, rfl⟩
theorem kd_non : Kd K H .non := ⟨"NoneType", false, false, .base .non, by decide +kernel, by decide +kernel, rfl⟩
theorem kd_str {x : Str} : Kd K H (.str x) := ⟨"str", false, false, .base (.str x), by decide +kernel, by decide +kernel, rfl⟩
theorem kd_tup {xs : List V} (h : H a = some (.tup xs)) : Kd K H (.ref a) := ⟨"tuple", false, false, .base (.tup h), by decide +kernel, by decide +kernel, rfl⟩
theorem kd_lst {xs : List V} (h : H a = some (.lst xs)) : Kd K H (.ref a) := ⟨"list", false, false, .base (.lst h), by decide +kernel, by decide +kernel, rfl⟩
end
/-- low ≤ x ≤ high, x any value -/
def btw (x : V) (lo hi : Int) : Bool := match x with
  | .int i => decide (lo ≤ i) && decide (i ≤ hi)
  | _ => false
theorem btw_int {i lo hi : Int} (h1 : lo ≤ i) (h2 : i ≤ hi) : btw (.int i) lo hi = true := by
  unfold btw; simp [h1, h2]
/-- the items of a value that is a tuple -/
def tupOf (H : Hp) : V → Option (List V)
  | .ref a => match H a with
    | some (.tup xs) => some xs
    | _ => none
  | _ => none
theorem tupOf_ref {H : Hp} {a : Addr} {xs : List V} (h : H a = some (.tup xs)) : tupOf H (.ref a) = some xs := by
  show (match H a with | some (.tup xs) => some xs | _ => none) = some xs
  rw [h]
def Kt (K : PySem.W.Frag) (H : Hp) (x : V) : Prop := ∃ t b, TyX K H x (.type t) ∧ kitB t "tuple" = some b ∧ b = (tupOf H x).isSome
section
variable {K : PySem.W.Frag} {H : Hp} {a : Addr}
theorem kt_tup {xs : List V} (h : H a = some (.tup xs)) : Kt K H (.ref a) := ⟨"tuple", true, .base (.tup h), by decide +kernel, by rw [tupOf_ref h]; rfl⟩
end
/-- rising: each less than the next -/
def rising (ks : List (List Int)) : Bool := (List.range (ks.length - 1)).all fun i => HT.lexLt (ks[i]?.getD []) (ks[i + 1]?.getD [])
/-- the things that are compared: whole numbers, or tuples of such -/
def Kys (K : PySem.W.Frag) (H : Hp) (xs : List V) (ks : List (List Int)) : Prop := xs.length = ks.length ∧
  ((∀ (i : Nat) (x : V), xs[i]? = some x → ∃ n : Int, x = V.int n ∧ ks[i]? = some [n]) ∨ ∀ (i : Nat) (x : V), xs[i]? = some x → ∃ (b : Addr) (ns : List Int), x = V.ref b ∧ H b = some (.tup (ns.map V.int)) ∧ ks[i]? = some ns)
theorem lexLt_one {i j : Int} : HT.lexLt [i] [j] = decide (i < j) := by
  simp [HT.lexLt]
  intro h; omega
/-- all tables of code objects of the text -/
def Tabs (Ts : List Addr) (H : Hp) : Prop := ∀ P ∈ Ts, TabX H P
theorem Tabs.x {Ts : List Addr} {S : Addr → Prop} {H H1 : Hp} (h : Tabs Ts H) (x : Xt S H H1) : Tabs Ts H1 := fun P hP => ⟨x.tabs P (h P hP).tab, (h P hP).mem⟩
theorem sz_ok {n : Nat} (h : n ≤ 1000) : n ≤ sizeLine := Nat.le_trans h (by decide)
theorem sz_lt {n : Nat} (h : n < 1000) : n < sizeLine := Nat.lt_of_lt_of_le h (by decide)
end LC
namespace LC
variable [Tbl]
open PySem PySem.Spec PyProof.Rows L2 GenW
/-! rules by the written part's own name -/
section
variable {X : Cx} {K : PySem.W.Frag}
theorem ixK (r : PySem.W.Frag → R2) (h : IxR X (r X.K)) (e : X.K = K) : IxR X (r K) := e ▸ h
theorem opK (r : PySem.W.Frag → R2) {f : Value → Value → Sem Value} (h : OpR X f (r X.K)) (e : X.K = K) : OpR X f (r K) := e ▸ h
theorem crK (r : PySem.W.Frag → List V → Hp → VK → Prop) {f : Value} (h : CallR X f (r X.K)) (e : X.K = K) : CallR X f (r K) := e ▸ h
theorem slK (r : PySem.W.Frag → V → Option Int → Option Int → Hp → VK → Prop) (h : SlR X (r X.K)) (e : X.K = K) : SlR X (r K) := e ▸ h
theorem piK {tg e : Expr} (r : PySem.W.Frag → TE → TI) {t : TE} (h : PI X tg e (r X.K t)) (q : X.K = K) : PI X tg e (r K t) := q ▸ h
theorem piA {tg e : Expr} (r : PySem.W.Frag → TA → TI) {t : TA} (h : PI X tg e (r X.K t)) (q : X.K = K) : PI X tg e (r K t) := q ▸ h
def rLenQ (K : PySem.W.Frag) : List V → Hp → VK → Prop := fun xs H Q => ∃ p ys, xs = [.ref p] ∧ (SqL K H p ys ∨ SqT K H p ys) ∧ Q (.int ys.length) H
theorem cr_len : CallR X (.builtin "len") (rLenQ X.K) := call_len_seq
def rTupQ (K : PySem.W.Frag) : List V → Hp → VK → Prop := fun xs H Q => ∃ p ys, xs = [.ref p] ∧ ((SqL K H p ys ∧ ∀ l, H l = none → Q (.ref l) (upd H l (.tup ys))) ∨ (SqT K H p ys ∧ Q (.ref p) H))
theorem cr_tuple : CallR X (.type "tuple") (rTupQ X.K) := call_tuple_of
end
end LC
namespace LC
variable [Tbl]
open PySem PySem.Spec PyProof.Rows L2 GenW
theorem tupOf_some {H : Hp} {x : V} (h : (tupOf H x).isSome = true) : ∃ a xs, x = .ref a ∧ H a = some (.tup xs) ∧ tupOf H x = some xs := by
  cases x with
  | ref a =>
    have e : tupOf H (.ref a) = (match H a with | some (.tup xs) => some xs | _ => none) := rfl
    cases z : H a with
    | none => rw [e, z] at h; cases h
    | some o =>
      cases o with
      | tup xs => exact ⟨a, xs, rfl, z, tupOf_ref z⟩
      | _ => rw [e, z] at h; cases h
  | _ => cases h
section
variable {K : PySem.W.Frag} {S : Addr → Prop} {H H1 : Hp} {a : Addr} {xs : List V}
theorem rd_x {u : HO} (x : Xn H H1) (hu : ∀ ps, u ≠ .tbl ps) (h : Rd H a u) : Rd H1 a u := by
  rcases h with h | ⟨o, h⟩
  · exact .inl (x.keep a u (fun z => z) hu h)
  · exact .inr ⟨o, x.keep a _ (fun z => z) (fun _ z => by cases z) h⟩
theorem sqL_x (x : Xn H H1) (h : SqL K H a xs) : SqL K H1 a xs := by
  rcases h with h | h
  · exact .inl (rd_x x (fun _ z => by cases z) h)
  · exact .inr h
theorem sqT_x (x : Xn H H1) (h : SqT K H a xs) : SqT K H1 a xs := by
  rcases h with h | h
  · exact .inl (rd_x x (fun _ z => by cases z) h)
  · exact .inr h
theorem atI_of {i : Int} {j : Nat} {v : V} (e : i = (j : Int)) (h : xs[j]? = some v) : atI xs i = some v := by rw [e]; exact atI_nat h
theorem rix_of {i : Int} {j : Nat} {v : V} {Q : VK} (hs : SqL K H a xs ∨ SqT K H a xs) (e : i = (j : Int)) (hx : xs[j]? = some v) (q : Q v H) : rIx K (.ref a) (.int i) H Q := by
  rcases hs with hs | hs
  · exact .inl ⟨a, xs, i, v, rfl, rfl, hs, atI_of e hx, q⟩
  · exact .inr (.inl ⟨a, xs, i, v, rfl, rfl, hs, atI_of e hx, q⟩)
theorem rixT_of {i : Int} {j : Nat} {v : V} {Q : VK} (hs : H a = some (.tup xs)) (e : i = (j : Int)) (hx : xs[j]? = some v) (q : Q v H) : rIxT K (.ref a) (.int i) H Q := ⟨a, xs, i, v, rfl, rfl, SqT.of hs, atI_of e hx, q⟩
end
/-- the answers of all neighbours up to a place -/
def nbs (ks : List (List Int)) (n : Nat) : List Bool := (List.range n).map fun i => HT.lexLt (ks[i]?.getD []) (ks[i + 1]?.getD [])
theorem nbs_succ (ks : List (List Int)) (n : Nat) : nbs ks (n + 1) = nbs ks n ++ [HT.lexLt (ks[n]?.getD []) (ks[n + 1]?.getD [])] := by
  unfold nbs; rw [List.range_succ, List.map_append]; rfl
theorem nbs_len (ks : List (List Int)) (n : Nat) : (nbs ks n).length = n := by unfold nbs; simp
theorem nbs_all (ks : List (List Int)) : (nbs ks (ks.length - 1)).all id = rising ks := by
  unfold nbs rising; rw [List.all_map]; rfl
end LC
namespace LC
variable [Tbl]
open PySem L2
theorem yes_of {σ : L2.St} {H : Hp} {A B : Hp → Prop} (h : A H) : tYes σ H (fun b H3 => if b = true then A H3 else B H3) := by
  show (if true = true then A H else B H)
  rw [if_pos rfl]
  exact h
end LC
-- K17_d1
namespace K17
open PySem PySem.Spec PyProof.Rows L2 LC
def topS (i : Nat) : Stmt := PySem.Challenge.pw_livingclock_k17_whole_safe.main.body.getD i (.Pass ⟨0, 0, 0, 0⟩)
abbrev s_is_whole : Stmt := topS 7
abbrev N_is_whole : List Str := ["value"]
theorem sc_is_whole : FnScope ["value"] ["value"] (defScope s_is_whole) := ⟨rfl, rfl, rfl, by decide +kernel, rfl, by decide +kernel, by decide +kernel⟩
abbrev s_is_between : Stmt := topS 8
abbrev N_is_between : List Str := ["value", "low", "high"]
theorem sc_is_between : FnScope ["value", "low", "high"] ["value", "low", "high"] (defScope s_is_between) := ⟨rfl, rfl, rfl, by decide +kernel, rfl, by decide +kernel, by decide +kernel⟩
abbrev s_is_tuple_of : Stmt := topS 9
abbrev N_is_tuple_of : List Str := ["value", "many"]
theorem sc_is_tuple_of : FnScope ["value", "many"] ["value", "many"] (defScope s_is_tuple_of) := ⟨rfl, rfl, rfl, by decide +kernel, rfl, by decide +kernel, by decide +kernel⟩
abbrev s_is_rising : Stmt := topS 10
abbrev N_is_rising : List Str := ["things", "place"]
theorem sc_is_rising : FnScope ["things", "place"] ["things"] (defScope s_is_rising) := ⟨rfl, rfl, rfl, by decide +kernel, rfl, by decide +kernel, by decide +kernel⟩
abbrev s_check_tick : Stmt := topS 11
abbrev N_check_tick : List Str := ["tick", "least"]
theorem sc_check_tick : FnScope ["tick", "least"] ["tick", "least"] (defScope s_check_tick) := ⟨rfl, rfl, rfl, by decide +kernel, rfl, by decide +kernel, by decide +kernel⟩
abbrev s_check_clock : Stmt := topS 17
abbrev N_check_clock : List Str := ["clock", "part"]
theorem sc_check_clock : FnScope ["clock", "part"] ["clock"] (defScope s_check_clock) := ⟨rfl, rfl, rfl, by decide +kernel, rfl, by decide +kernel, by decide +kernel⟩
abbrev s_wrong_part : Stmt := topS 18
abbrev N_wrong_part : List Str := ["clock", "period", "editions", "touches", "gaps", "book"]
theorem sc_wrong_part : FnScope ["clock", "period", "editions", "touches", "gaps", "book"] ["clock"] (defScope s_wrong_part) := ⟨rfl, rfl, rfl, by decide +kernel, rfl, by decide +kernel, by decide +kernel⟩
abbrev s_are_editions : Stmt := topS 19
abbrev N_are_editions : List Str := ["value", "last"]
theorem sc_are_editions : FnScope ["value", "last"] ["value"] (defScope s_are_editions) := ⟨rfl, rfl, rfl, by decide +kernel, rfl, by decide +kernel, by decide +kernel⟩
abbrev s_are_touches : Stmt := topS 20
abbrev N_are_touches : List Str := ["period", "editions", "value", "touch"]
theorem sc_are_touches : FnScope ["period", "editions", "value", "touch"] ["period", "editions", "value"] (defScope s_are_touches) := ⟨rfl, rfl, rfl, by decide +kernel, rfl, by decide +kernel, by decide +kernel⟩
abbrev s_is_touch : Stmt := topS 21
abbrev N_is_touch : List Str := ["period", "editions", "value", "last", "phase", "wheel", "other"]
theorem sc_is_touch : FnScope ["period", "editions", "value", "last", "phase", "wheel", "other"] ["period", "editions", "value"] (defScope s_is_touch) := ⟨rfl, rfl, rfl, by decide +kernel, rfl, by decide +kernel, by decide +kernel⟩
abbrev s_are_gaps : Stmt := topS 22
abbrev N_are_gaps : List Str := ["period", "editions", "value", "last", "phases"]
theorem sc_are_gaps : FnScope ["period", "editions", "value", "last", "phases"] ["period", "editions", "value"] (defScope s_are_gaps) := ⟨rfl, rfl, rfl, by decide +kernel, rfl, by decide +kernel, by decide +kernel⟩
abbrev s_are_wheel_gaps : Stmt := topS 23
abbrev N_are_wheel_gaps : List Str := ["period", "last", "value", "phase"]
theorem sc_are_wheel_gaps : FnScope ["period", "last", "value", "phase"] ["period", "last", "value"] (defScope s_are_wheel_gaps) := ⟨rfl, rfl, rfl, by decide +kernel, rfl, by decide +kernel, by decide +kernel⟩
abbrev s_is_book : Stmt := topS 24
abbrev N_is_book : List Str := ["editions", "value", "entry"]
theorem sc_is_book : FnScope ["editions", "value", "entry"] ["editions", "value"] (defScope s_is_book) := ⟨rfl, rfl, rfl, by decide +kernel, rfl, by decide +kernel, by decide +kernel⟩
abbrev s_is_entry : Stmt := topS 25
abbrev N_is_entry : List Str := ["editions", "value", "last", "wheel", "edition", "other", "least"]
theorem sc_is_entry : FnScope ["editions", "value", "last", "wheel", "edition", "other", "least"] ["editions", "value"] (defScope s_is_entry) := ⟨rfl, rfl, rfl, by decide +kernel, rfl, by decide +kernel, by decide +kernel⟩
abbrev s_all_exchanges : Stmt := topS 26
abbrev N_all_exchanges : List Str := ["clock", "edition", "wheel", "last"]
theorem sc_all_exchanges : FnScope ["clock", "edition", "wheel", "last"] ["clock"] (defScope s_all_exchanges) := ⟨rfl, rfl, rfl, by decide +kernel, rfl, by decide +kernel, by decide +kernel⟩
abbrev s_least_needed : Stmt := topS 27
abbrev N_least_needed : List Str := ["clock", "wheel", "edition", "other", "entries", "entry"]
theorem sc_least_needed : FnScope ["clock", "wheel", "edition", "other", "entries", "entry"] ["clock", "wheel", "edition", "other"] (defScope s_least_needed) := ⟨rfl, rfl, rfl, by decide +kernel, rfl, by decide +kernel, by decide +kernel⟩
abbrev s_touch_phases : Stmt := topS 28
abbrev N_touch_phases : List Str := ["clock", "wheel", "other", "pair", "touch"]
theorem sc_touch_phases : FnScope ["clock", "wheel", "other", "pair", "touch"] ["clock", "wheel", "other"] (defScope s_touch_phases) := ⟨rfl, rfl, rfl, by decide +kernel, rfl, by decide +kernel, by decide +kernel⟩
abbrev s_first_from : Stmt := topS 29
abbrev N_first_from : List Str := ["clock", "phases", "low", "phase"]
theorem sc_first_from : FnScope ["clock", "phases", "low", "phase"] ["clock", "phases", "low"] (defScope s_first_from) := ⟨rfl, rfl, rfl, by decide +kernel, rfl, by decide +kernel, by decide +kernel⟩
abbrev s_first_gap : Stmt := topS 30
abbrev N_first_gap : List Str := ["clock", "wheel", "low"]
theorem sc_first_gap : FnScope ["clock", "wheel", "low"] ["clock", "wheel", "low"] (defScope s_first_gap) := ⟨rfl, rfl, rfl, by decide +kernel, rfl, by decide +kernel, by decide +kernel⟩
abbrev s_stair_at : Stmt := topS 32
abbrev N_stair_at : List Str := ["row", "number", "rounds", "place"]
theorem sc_stair_at : FnScope ["row", "number", "rounds", "place"] ["row", "number"] (defScope s_stair_at) := ⟨rfl, rfl, rfl, by decide +kernel, rfl, by decide +kernel, by decide +kernel⟩
abbrev s_leaning_pairs : Stmt := topS 34
abbrev N_leaning_pairs : List Str := ["clock", "exchange", "other"]
theorem sc_leaning_pairs : FnScope ["clock", "exchange", "other"] ["clock"] (defScope s_leaning_pairs) := ⟨rfl, rfl, rfl, by decide +kernel, rfl, by decide +kernel, by decide +kernel⟩
abbrev s_leant_on : Stmt := topS 35
abbrev N_leant_on : List Str := ["clock", "exchange", "found", "partner", "wheel", "edition", "least"]
theorem sc_leant_on : FnScope ["clock", "exchange", "found", "partner", "wheel", "edition", "least"] ["clock", "exchange"] (defScope s_leant_on) := ⟨rfl, rfl, rfl, by decide +kernel, rfl, by decide +kernel, by decide +kernel⟩
abbrev s_row_of_push : Stmt := topS 36
abbrev N_row_of_push : List Str := ["clock", "exchange", "other", "phases", "tick"]
theorem sc_row_of_push : FnScope ["clock", "exchange", "other", "phases", "tick"] ["clock", "exchange", "other"] (defScope s_row_of_push) := ⟨rfl, rfl, rfl, by decide +kernel, rfl, by decide +kernel, by decide +kernel⟩
abbrev s_gap_behind : Stmt := topS 37
abbrev N_gap_behind : List Str := ["clock", "wheel", "phases", "tick", "last", "phase"]
theorem sc_gap_behind : FnScope ["clock", "wheel", "phases", "tick", "last", "phase"] ["clock", "wheel", "phases", "tick"] (defScope s_gap_behind) := ⟨rfl, rfl, rfl, by decide +kernel, rfl, by decide +kernel, by decide +kernel⟩
abbrev s_push_table : Stmt := topS 38
abbrev N_push_table : List Str := ["clock", "table", "exchange", "other"]
theorem sc_push_table : FnScope ["clock", "table", "exchange", "other"] ["clock"] (defScope s_push_table) := ⟨rfl, rfl, rfl, by decide +kernel, rfl, by decide +kernel, by decide +kernel⟩
abbrev s_pushed_pairs : Stmt := topS 39
abbrev N_pushed_pairs : List Str := ["table", "pair", "exchange", "number", "leaner", "row"]
theorem sc_pushed_pairs : FnScope ["table", "pair", "exchange", "number", "leaner", "row"] ["table", "pair"] (defScope s_pushed_pairs) := ⟨rfl, rfl, rfl, by decide +kernel, rfl, by decide +kernel, by decide +kernel⟩
abbrev s_settled_by : Stmt := topS 41
abbrev N_settled_by : List Str := ["table", "period", "firsts", "limit"]
theorem sc_settled_by : FnScope ["table", "period", "firsts", "limit"] ["table", "period", "firsts"] (defScope s_settled_by) := ⟨rfl, rfl, rfl, by decide +kernel, rfl, by decide +kernel, by decide +kernel⟩
abbrev s_lifted_numbers : Stmt := topS 42
abbrev N_lifted_numbers : List Str := ["table", "firsts", "moved", "limit", "numbers", "lifted", "exchange", "leaner", "number"]
theorem sc_lifted_numbers : FnScope ["table", "firsts", "moved", "limit", "numbers", "lifted", "exchange", "leaner", "number"] ["table", "firsts", "moved", "limit"] (defScope s_lifted_numbers) := ⟨rfl, rfl, rfl, by decide +kernel, rfl, by decide +kernel, by decide +kernel⟩
abbrev s_rows_of : Stmt := topS 43
abbrev N_rows_of : List Str := ["clock", "numbers", "rows", "exchange", "_", "ticks"]
theorem sc_rows_of : FnScope ["clock", "numbers", "rows", "exchange", "_", "ticks"] ["clock", "numbers"] (defScope s_rows_of) := ⟨rfl, rfl, rfl, by decide +kernel, rfl, by decide +kernel, by decide +kernel⟩
abbrev s_safe : Stmt := topS 45
abbrev N_safe : List Str := ["clock", "tick", "standing"]
theorem sc_safe : FnScope ["clock", "tick", "standing"] ["clock", "tick", "standing"] (defScope s_safe) := ⟨rfl, rfl, rfl, by decide +kernel, rfl, by decide +kernel, by decide +kernel⟩
abbrev s_may_wait : Stmt := topS 46
abbrev N_may_wait : List Str := ["clock", "tick", "standing"]
theorem sc_may_wait : FnScope ["clock", "tick", "standing"] ["clock", "tick", "standing"] (defScope s_may_wait) := ⟨rfl, rfl, rfl, by decide +kernel, rfl, by decide +kernel, by decide +kernel⟩
abbrev s_check_moment : Stmt := topS 47
abbrev N_check_moment : List Str := ["clock", "tick", "standing"]
theorem sc_check_moment : FnScope ["clock", "tick", "standing"] ["clock", "tick", "standing"] (defScope s_check_moment) := ⟨rfl, rfl, rfl, by decide +kernel, rfl, by decide +kernel, by decide +kernel⟩
abbrev s_check_standing : Stmt := topS 48
abbrev N_check_standing : List Str := ["clock", "standing"]
theorem sc_check_standing : FnScope ["clock", "standing"] ["clock", "standing"] (defScope s_check_standing) := ⟨rfl, rfl, rfl, by decide +kernel, rfl, by decide +kernel, by decide +kernel⟩
abbrev s_is_standing : Stmt := topS 49
abbrev N_is_standing : List Str := ["clock", "value", "edition", "last"]
theorem sc_is_standing : FnScope ["clock", "value", "edition", "last"] ["clock", "value"] (defScope s_is_standing) := ⟨rfl, rfl, rfl, by decide +kernel, rfl, by decide +kernel, by decide +kernel⟩
abbrev s_undone : Stmt := topS 50
abbrev N_undone : List Str := ["clock", "standing", "exchange"]
theorem sc_undone : FnScope ["clock", "standing", "exchange"] ["clock", "standing"] (defScope s_undone) := ⟨rfl, rfl, rfl, by decide +kernel, rfl, by decide +kernel, by decide +kernel⟩
abbrev s_rest_beside : Stmt := topS 51
abbrev N_rest_beside : List Str := ["clock", "tick", "standing", "busy", "numbers"]
theorem sc_rest_beside : FnScope ["clock", "tick", "standing", "busy", "numbers"] ["clock", "tick", "standing", "busy"] (defScope s_rest_beside) := ⟨rfl, rfl, rfl, by decide +kernel, rfl, by decide +kernel, by decide +kernel⟩
abbrev s_safe_beside : Stmt := topS 52
abbrev N_safe_beside : List Str := ["clock", "tick", "standing", "busy", "wheels", "wheel"]
theorem sc_safe_beside : FnScope ["clock", "tick", "standing", "busy", "wheels", "wheel"] ["clock", "tick", "standing", "busy"] (defScope s_safe_beside) := ⟨rfl, rfl, rfl, by decide +kernel, rfl, by decide +kernel, by decide +kernel⟩
abbrev s_has_later_rest : Stmt := topS 53
abbrev N_has_later_rest : List Str := ["clock", "tick", "standing", "firsts"]
theorem sc_has_later_rest : FnScope ["clock", "tick", "standing", "firsts"] ["clock", "tick", "standing"] (defScope s_has_later_rest) := ⟨rfl, rfl, rfl, by decide +kernel, rfl, by decide +kernel, by decide +kernel⟩
abbrev s_is_safe : Stmt := topS 54
abbrev N_is_safe : List Str := ["clock", "tick", "standing", "wheel", "busy"]
theorem sc_is_safe : FnScope ["clock", "tick", "standing", "wheel", "busy"] ["clock", "tick", "standing", "wheel", "busy"] (defScope s_is_safe) := ⟨rfl, rfl, rfl, by decide +kernel, rfl, by decide +kernel, by decide +kernel⟩
abbrev s_raised : Stmt := topS 55
abbrev N_raised : List Str := ["standing", "wheel"]
theorem sc_raised : FnScope ["standing", "wheel"] ["standing", "wheel"] (defScope s_raised) := ⟨rfl, rfl, rfl, by decide +kernel, rfl, by decide +kernel, by decide +kernel⟩
abbrev s_firsts_from : Stmt := topS 56
abbrev N_firsts_from : List Str := ["clock", "tick", "standing", "busy", "firsts", "exchange", "low"]
theorem sc_firsts_from : FnScope ["clock", "tick", "standing", "busy", "firsts", "exchange", "low"] ["clock", "tick", "standing", "busy"] (defScope s_firsts_from) := ⟨rfl, rfl, rfl, by decide +kernel, rfl, by decide +kernel, by decide +kernel⟩
abbrev s_law_taken : Stmt := topS 59
abbrev N_law_taken : List Str := ["row", "many", "cell", "found"]
theorem sc_law_taken : FnScope ["row", "many", "cell", "found"] ["row", "many"] (defScope s_law_taken) := ⟨rfl, rfl, rfl, by decide +kernel, rfl, by decide +kernel, by decide +kernel⟩
abbrev s_law_low_clock : Stmt := topS 60
abbrev N_law_low_clock : List Str := ["row", "period", "wheels", "most", "entries", "editions", "touches", "turn", "gaps", "last", "book", "entry", "one", "other", "some", "wheel", "phase", "key"]
theorem sc_law_low_clock : FnScope ["row", "period", "wheels", "most", "entries", "editions", "touches", "turn", "gaps", "last", "book", "entry", "one", "other", "some", "wheel", "phase", "key"] ["row", "period", "wheels", "most", "entries"] (defScope s_law_low_clock) := ⟨rfl, rfl, rfl, by decide +kernel, rfl, by decide +kernel, by decide +kernel⟩
abbrev s_law_tiny : Stmt := topS 61
abbrev N_law_tiny : List Str := ["row", "clock", "editions", "book", "one"]
theorem sc_law_tiny : FnScope ["row", "clock", "editions", "book", "one"] ["row"] (defScope s_law_tiny) := ⟨rfl, rfl, rfl, by decide +kernel, rfl, by decide +kernel, by decide +kernel⟩
abbrev s_law_rows : Stmt := topS 62
abbrev N_law_rows : List Str := ["clock", "wheel", "many", "start", "end", "found", "turn", "longer", "one", "least", "good", "tick"]
theorem sc_law_rows : FnScope ["clock", "wheel", "many", "start", "end", "found", "turn", "longer", "one", "least", "good", "tick"] ["clock", "wheel", "many", "start", "end"] (defScope s_law_rows) := ⟨rfl, rfl, rfl, by decide +kernel, rfl, by decide +kernel, by decide +kernel⟩
abbrev s_law_plans : Stmt := topS 63
abbrev N_law_plans : List Str := ["clock", "start", "end", "standing", "found", "wheel", "last", "rows", "longer", "plan", "one"]
theorem sc_law_plans : FnScope ["clock", "start", "end", "standing", "found", "wheel", "last", "rows", "longer", "plan", "one"] ["clock", "start", "end", "standing"] (defScope s_law_plans) := ⟨rfl, rfl, rfl, by decide +kernel, rfl, by decide +kernel, by decide +kernel⟩
abbrev s_law_standing : Stmt := topS 64
abbrev N_law_standing : List Str := ["plan", "tick", "ticks", "one"]
theorem sc_law_standing : FnScope ["plan", "tick", "ticks", "one"] ["plan", "tick"] (defScope s_law_standing) := ⟨rfl, rfl, rfl, by decide +kernel, rfl, by decide +kernel, by decide +kernel⟩
abbrev s_law_needed : Stmt := topS 65
abbrev N_law_needed : List Str := ["clock", "wheel", "edition", "other", "least", "i", "a", "j", "b"]
theorem sc_law_needed : FnScope ["clock", "wheel", "edition", "other", "least", "i", "a", "j", "b"] ["clock", "wheel", "edition", "other"] (defScope s_law_needed) := ⟨rfl, rfl, rfl, by decide +kernel, rfl, by decide +kernel, by decide +kernel⟩
abbrev s_law_bad : Stmt := topS 66
abbrev N_law_bad : List Str := ["clock", "standing", "tick", "found", "phase", "one", "other", "low"]
theorem sc_law_bad : FnScope ["clock", "standing", "tick", "found", "phase", "one", "other", "low"] ["clock", "standing", "tick"] (defScope s_law_bad) := ⟨rfl, rfl, rfl, by decide +kernel, rfl, by decide +kernel, by decide +kernel⟩
abbrev s_law_rest_bad : Stmt := topS 67
abbrev N_law_rest_bad : List Str := ["clock", "plan", "start", "standing", "last", "ticks", "tick", "now", "one", "more"]
theorem sc_law_rest_bad : FnScope ["clock", "plan", "start", "standing", "last", "ticks", "tick", "now", "one", "more"] ["clock", "plan", "start", "standing"] (defScope s_law_rest_bad) := ⟨rfl, rfl, rfl, by decide +kernel, rfl, by decide +kernel, by decide +kernel⟩
abbrev s_law_rests : Stmt := topS 68
abbrev N_law_rests : List Str := ["clock", "tick", "standing", "held", "left", "found", "plan", "late", "wheel"]
theorem sc_law_rests : FnScope ["clock", "tick", "standing", "held", "left", "found", "plan", "late", "wheel"] ["clock", "tick", "standing", "held"] (defScope s_law_rests) := ⟨rfl, rfl, rfl, by decide +kernel, rfl, by decide +kernel, by decide +kernel⟩
abbrev s_law_alike : Stmt := topS 69
abbrev N_law_alike : List Str := ["found", "wished", "k"]
theorem sc_law_alike : FnScope ["found", "wished", "k"] ["found", "wished"] (defScope s_law_alike) := ⟨rfl, rfl, rfl, by decide +kernel, rfl, by decide +kernel, by decide +kernel⟩
abbrev s_law : Stmt := topS 70
abbrev N_law : List Str := ["script", "row", "standing", "good", "every", "clock", "tick", "wheel", "last", "later"]
theorem sc_law : FnScope ["script", "row", "standing", "good", "every", "clock", "tick", "wheel", "last", "later"] ["script"] (defScope s_law) := ⟨rfl, rfl, rfl, by decide +kernel, rfl, by decide +kernel, by decide +kernel⟩
abbrev s_Rests_init : Stmt := inClass (topS 57) 0
abbrev N_Rests_init : List Str := ["self", "clock", "touches", "entry", "phases"]
theorem sc_Rests_init : FnScope ["self", "clock", "touches", "entry", "phases"] ["self", "clock"] (defScope s_Rests_init) := ⟨rfl, rfl, rfl, by decide +kernel, rfl, by decide +kernel, by decide +kernel⟩
abbrev s_Rests_numbers_from : Stmt := inClass (topS 57) 1
abbrev N_Rests_numbers_from : List Str := ["self", "tick", "standing", "firsts", "numbers"]
theorem sc_Rests_numbers_from : FnScope ["self", "tick", "standing", "firsts", "numbers"] ["self", "tick", "standing", "firsts"] (defScope s_Rests_numbers_from) := ⟨rfl, rfl, rfl, by decide +kernel, rfl, by decide +kernel, by decide +kernel⟩
abbrev s_Rests_is_late : Stmt := inClass (topS 57) 2
abbrev N_Rests_is_late : List Str := ["self", "tick", "standing", "numbers", "entry", "phases", "wheel", "edition", "other", "least"]
theorem sc_Rests_is_late : FnScope ["self", "tick", "standing", "numbers", "entry", "phases", "wheel", "edition", "other", "least"] ["self", "tick", "standing", "numbers"] (defScope s_Rests_is_late) := ⟨rfl, rfl, rfl, by decide +kernel, rfl, by decide +kernel, by decide +kernel⟩
structure Txt (mg : Str → Option Value) : Prop where
  g_all : mg "all" = none
  g_bool : mg "bool" = none
  g_divmod : mg "divmod" = none
  g_enumerate : mg "enumerate" = none
  g_int : mg "int" = none
  g_isinstance : mg "isinstance" = none
  g_len : mg "len" = none
  g_list : mg "list" = none
  g_max : mg "max" = none
  g_min : mg "min" = none
  g_range : mg "range" = none
  g_sorted : mg "sorted" = none
  g_str : mg "str" = none
  g_sum : mg "sum" = none
  g_tuple : mg "tuple" = none
  g_zip : mg "zip" = none
  m_MOST : ∃ t, mg "MOST" = some (.int 1000000000000000000000000000000 t)
  m_MOST_PERIOD : ∃ t, mg "MOST_PERIOD" = some (.int 12 t)
  m_MOST_WHEELS : ∃ t, mg "MOST_WHEELS" = some (.int 12 t)
  m_MOST_EDITION : ∃ t, mg "MOST_EDITION" = some (.int 4 t)
  m_MOST_EXCHANGES : ∃ t, mg "MOST_EXCHANGES" = some (.int 24 t)
variable [Tbl]
variable {P : Program} {w : World} {K : PySem.W.Frag} {mg : Str → Option Value} {base : Heap} {f c : Addr} {fd : FuncData}

def sp_is_whole (K : PySem.W.Frag) : Sp := fun vs H Q _ => ∃ x, vs = [x] ∧ Kd K H x ∧ Q (.bl (wholeOf x).isSome) H
theorem ok_is_whole (T : Txt mg) (F : FunC K "is_whole" s_is_whole f fd c) : FnOk P w K mg base CX0 1 f fd ["value"] (sp_is_whole K) := by
  refine F.ok sc_is_whole (fun vs H Q E h => ?_) (fun A outer s H vs Q E hr h => ⟨_, (pss_one (ps_ret (pe_and (pe_callB (crK (K := K) rIsi call_isi rfl) (by rfl) T.g_isinstance (by decide +kernel) (pa_cons (pv 0) (pa_cons (pe_bltn (v := .ty "int") (by rfl) T.g_int boot_int rfl) pa_nil))) (pe_one (pe_not (pe_callB (crK (K := K) rIsi call_isi rfl) (by rfl) T.g_isinstance (by decide +kernel) (pa_cons (pv 0) (pa_cons (pe_bltn (v := .ty "bool") (by rfl) T.g_bool boot_bool rfl) pa_nil)))))))), ?_⟩)
  · obtain ⟨x, rfl, _⟩ := h; rfl
  · obtain ⟨x, rfl, ⟨t, b, cc, ht, hb, hc, e⟩, q⟩ := h
    refine ⟨_, rfl, x, .ty "int", .type t, .type "int", b, rfl, .ty _, ht, kit_ty hb, b, rfl, ?_⟩
    cases b with
    | false =>
      refine iteF ?_
      rw [← e] at q
      exact q
    | true =>
      refine iteT ⟨_, rfl, x, .ty "bool", .type t, .type "bool", cc, rfl, .ty _, ht, kit_ty hc, cc, rfl, ?_⟩
      rw [← e] at q
      exact q

def sp_is_between (K : PySem.W.Frag) : Sp := fun vs H Q _ => ∃ x lo hi, vs = [x, .int lo, .int hi] ∧ Kd K H x ∧ Q (.bl (btw x lo hi)) H
theorem ok_is_between (T : Txt mg) (C_is_whole : Callee P w K mg base "is_whole" 1 ["value"] (sp_is_whole K)) (F : FunC K "is_between" s_is_between f fd c) : FnOk P w K mg base CX0 2 f fd ["value", "low", "high"] (sp_is_between K) := by
  refine F.ok sc_is_between (fun vs H Q E h => ?_) (fun A outer s H vs Q E hr h => ⟨_, (pss_one (ps_ret (pe_and (pe_callC C_is_whole hr (by rfl) (pa_cons (pv 0) pa_nil)) (pe_one (pe_chain op_le op_le (pv 1) (pv 0) (pv 2)))))), ?_⟩)
  · obtain ⟨x, lo, hi, rfl, _⟩ := h; rfl
  · obtain ⟨x, lo, hi, rfl, kd, q⟩ := h
    refine ⟨_, rfl, x, rfl, kd, _, rfl, ?_⟩
    cases x with
    | int i =>
      refine iteT ⟨_, rfl, _, rfl, lo, i, rfl, rfl, _, rfl, ?_⟩
      by_cases h1 : lo ≤ i
      · rw [decide_eq_true h1]
        refine iteT ⟨_, rfl, i, hi, rfl, rfl, ?_⟩
        have e : btw (.int i) lo hi = decide (i ≤ hi) := by unfold btw; simp [h1]
        rw [e] at q
        exact q
      · rw [decide_eq_false h1]
        refine iteF ?_
        have e : btw (.int i) lo hi = false := by unfold btw; simp [h1]
        rw [e] at q
        exact q
    | _ => exact iteF q

def sp_is_tuple_of (K : PySem.W.Frag) : Sp := fun vs H Q _ => ∃ x n, vs = [x, .int n] ∧ Kt K H x ∧ Q (.bl (match tupOf H x with | some xs => decide ((xs.length : Int) = n) | none => false)) H
theorem ok_is_tuple_of (T : Txt mg) (F : FunC K "is_tuple_of" s_is_tuple_of f fd c) : FnOk P w K mg base CX0 1 f fd ["value", "many"] (sp_is_tuple_of K) := by
  refine F.ok sc_is_tuple_of (fun vs H Q E h => ?_) (fun A outer s H vs Q E hr h => ⟨_, (pss_one (ps_ret (pe_and (pe_callB (crK (K := K) rIsi call_isi rfl) (by rfl) T.g_isinstance (by decide +kernel) (pa_cons (pv 0) (pa_cons (pe_bltn (v := .ty "tuple") (by rfl) T.g_tuple boot_tuple rfl) pa_nil))) (pe_one (pe_cmpR op_eq (pe_callB (crK (K := K) rLenQ cr_len rfl) (by rfl) T.g_len (by decide +kernel) (pa_cons (pv 0) pa_nil)) (pv 1) (nomark _)))))), ?_⟩)
  · obtain ⟨x, n, rfl, _⟩ := h; rfl
  · obtain ⟨x, n, rfl, ⟨t, b, ht, hb, e⟩, q⟩ := h
    refine ⟨_, rfl, x, .ty "tuple", .type t, .type "tuple", b, rfl, .ty _, ht, kit_ty hb, b, rfl, ?_⟩
    cases b with
    | false =>
      refine iteF ?_
      have e1 : tupOf H x = none := by cases z : tupOf H x with
        | none => rfl
        | some v => rw [z] at e; cases e
      rw [e1] at q
      exact q
    | true =>
      refine iteT ?_
      obtain ⟨a, xs, rfl, z, e1⟩ := tupOf_some e.symm
      rw [e1] at q
      refine ⟨_, rfl, a, xs, rfl, .inr (SqT.of z), _, rfl, rfl, ?_⟩
      have e2 : decide (V.int (xs.length : Int) = V.int n) = decide ((xs.length : Int) = n) := by rw [dec_int]; exact (Bool.beq_eq_decide_eq _ _)
      rw [e2]
      exact q

def sp_is_rising (K : PySem.W.Frag) : Sp := fun vs H Q _ => ∃ a xs ks, vs = [.ref a] ∧ (SqL K H a xs ∨ SqT K H a xs) ∧ Kys K H xs ks ∧ xs.length ≤ 1000 ∧ ∀ H', Xn H H' → Q (.bl (rising ks)) H'
theorem ok_is_rising (T : Txt mg) (F : FunC K "is_rising" s_is_rising f fd c) : FnOk P w K mg base CX0 1 f fd ["things"] (sp_is_rising K) := by
  refine F.ok sc_is_rising (fun vs H Q E h => ?_) (fun A outer s H vs Q E hr h => ⟨_, (pss_one (ps_ret (pe_callB (crK (K := K) rAll (cr_all rfl) rfl) (by rfl) T.g_all (by decide +kernel) (pa_cons (pe_lc (own := [("place", 1)]) rfl sc_is_rising.nd (pi_range1 (by rfl) T.g_range (pa_cons (pe_op op_sub (pe_callB (crK (K := K) rLenQ cr_len rfl) (by rfl) T.g_len (by decide +kernel) (pa_cons (pv 0) pa_nil)) pe_int) pa_nil)) (blkOk_by (N := N_is_rising) (sc := defScope s_is_rising) (own := [("place", 1)]) (by decide +kernel)) (fun _ _ _ _ _ => (pg_name (i := 1) sc_is_rising.nd rfl (Or.inl rfl))) (fun _ _ _ _ _ => pts_nil) (fun _ _ _ _ _ => (pe_cmpR (opK (K := K) rLtK (op_ltK hr.units0) rfl) (pe_ix (ixK (K := K) rIx ix_seq rfl) (pv 0) (pv 1) (fun _ _ => rfl)) (pe_ix (ixK (K := K) rIx ix_seq rfl) (pv 0) (pe_op op_add (pv 1) pe_int) (fun _ _ => rfl)) (nomark _)))) pa_nil)))), ?_⟩)
  · obtain ⟨a, xs, ks, rfl, _⟩ := h; rfl
  · obtain ⟨a, xs, ks, rfl, hs, ⟨hl, hk⟩, hz, q⟩ := h
    refine ⟨_, rfl, a, xs, rfl, hs, _, _, rfl, rfl, _, rfl, by omega, by omega, fun D hD => ?_⟩
    refine lc_range (lo := 0) (n := ((xs.length : Int) - 1).toNat) (fun i H' => Xn H H' ∧ H' D = some (.lst ((nbs ks i).map V.bl))) ⟨Xt.new hD, upd_same⟩ (fun i H' hi hp => ?_) (fun H' hp => ?_)
    · obtain ⟨hx, hD'⟩ := hp
      have hs' : SqL K H' a xs ∨ SqT K H' a xs := hs.imp (sqL_x hx) (sqT_x hx)
      obtain ⟨x1, e1⟩ : ∃ x1, xs[i]? = some x1 := ⟨xs[i]'(by omega), List.getElem?_eq_getElem _⟩
      obtain ⟨x2, e2⟩ : ∃ x2, xs[i + 1]? = some x2 := ⟨xs[i + 1]'(by omega), List.getElem?_eq_getElem _⟩
      refine ⟨rfl, yes_of ⟨_, rfl, _, rfl, rix_of hs' (Int.zero_add _) e1 ⟨_, rfl, _, rfl, _, _, rfl, rfl, rix_of hs' (show (0 : Int) + (i : Int) + 1 = ((i + 1 : Nat) : Int) by omega) e2 ?_⟩⟩⟩
      have fin : ∀ b, b = HT.lexLt (ks[i]?.getD []) (ks[i + 1]?.getD []) → ∃ acc, H' D = some (.lst acc) ∧ acc.length < sizeLine ∧ Xn H (upd H' D (.lst (acc ++ [V.bl b]))) ∧ upd H' D (.lst (acc ++ [V.bl b])) D = some (.lst ((nbs ks (i + 1)).map V.bl)) := fun b eb => by
        refine ⟨_, hD', sz_lt (by rw [List.length_map, nbs_len]; omega), hx.young hD, ?_⟩
        rw [upd_same, nbs_succ, List.map_append, eb]; rfl
      rcases hk with hk | hk
      · obtain ⟨n1, rfl, k1⟩ := hk i x1 e1
        obtain ⟨n2, rfl, k2⟩ := hk (i + 1) x2 e2
        refine .inl ⟨n1, n2, rfl, rfl, fin _ ?_⟩
        rw [k1, k2]; exact lexLt_one.symm
      · obtain ⟨b1, ns1, rfl, t1, k1⟩ := hk i x1 e1
        obtain ⟨b2, ns2, rfl, t2, k2⟩ := hk (i + 1) x2 e2
        refine .inr ⟨b1, b2, ns1, ns2, rfl, rfl, SqT.of (hx.tups _ _ t1), SqT.of (hx.tups _ _ t2), fin _ ?_⟩
        rw [k1, k2]; rfl
    · obtain ⟨hx, hD'⟩ := hp
      refine ⟨D, nbs ks ((xs.length : Int) - 1).toNat, rfl, SqL.of hD', ?_⟩
      have e : ((xs.length : Int) - 1).toNat = ks.length - 1 := by omega
      rw [e, nbs_all]
      exact q H' hx

end K17
-- L3
namespace LC
variable [Tbl]
open PySem PySem.Spec PyProof.Rows L2 GenW RZ

/-! walking a tuple within all(..), tuple(..), and pairs by enumerate, zip in a comprehension -/
section
variable {K : PySem.W.Frag} {a : Addr} {xs : List V} {g : TG} {tt : TT} {te : TE} {vs : List Nat} {σ : L2.St} {H4 : Hp} {Qt Qf : Hp → Prop} {Qd : List V → Hp → Prop}
theorem allG_tup (Pv : Nat → Hp → Prop) (h0 : Pv 0 H4) (hl : ∀ i H, i ≤ xs.length → Pv i H → SqT K H a xs)
    (hs : ∀ i x H, xs[i]? = some x → Pv i H → g x (wipe σ vs) H fun σ2 H2 => wipe σ2 vs = wipe σ vs ∧ tt σ2 H2 fun b H3 =>
      if b = true then te σ2 H3 fun y H5 => ∃ c, y = .bl c ∧ if c = true then Pv (i + 1) H5 else Qf H5 else Pv (i + 1) H3) (hd : ∀ H, Pv xs.length H → Qt H) :
    ∃ W : Nat → Nat → Hp → Prop, (∃ m, W 0 m H4) ∧ ∀ i m H, W i m H →
      ((Itt K a).stop i H ∧ Qt H) ∨ ((Itt K a).go i H ∧ ∃ Nx : Hp → Prop, (∀ H', Nx H' → ∃ m', m' < m ∧ W (i + 1) m' H') ∧ ∀ x H', (Itt K a).yld i H x H' → g x (wipe σ vs) H' fun σ2 H2 => wipe σ2 vs = wipe σ vs ∧ tt σ2 H2 fun b H3 =>
        if b = true then te σ2 H3 fun y H5 => ∃ c, y = .bl c ∧ if c = true then Nx H5 else Qf H5 else Nx H3) := by
  refine ⟨fun i m H => m = xs.length - i ∧ i ≤ xs.length ∧ Pv i H, ⟨xs.length, by simp, Nat.zero_le _, h0⟩, ?_⟩
  rintro i m H ⟨rfl, hi, p⟩
  have q := hl i H hi p
  by_cases hlt : i < xs.length
  · refine .inr ⟨⟨xs, xs[i], q, by simp [hlt]⟩, Pv (i + 1), fun H' h' => ⟨xs.length - (i + 1), by omega, rfl, hlt, h'⟩, fun x H' y => ?_⟩
    obtain ⟨e, y⟩ := y
    subst e
    exact hs i x _ (y xs q) p
  · have e : i = xs.length := by omega
    subst e
    exact .inl ⟨⟨xs, q, Nat.le_refl _⟩, hd H p⟩
theorem tupG_tup (Pv : Nat → List V → Hp → Prop) (h0 : Pv 0 [] H4) (hl : ∀ i zs H, i ≤ xs.length → Pv i zs H → SqT K H a xs)
    (hs : ∀ i x zs H, xs[i]? = some x → Pv i zs H → g x (wipe σ vs) H fun σ2 H2 => wipe σ2 vs = wipe σ vs ∧ tt σ2 H2 fun b H3 =>
      if b = true then te σ2 H3 fun y H5 => zs.length < sizeLine ∧ Pv (i + 1) (zs ++ [y]) H5 else Pv (i + 1) zs H3) (hd : ∀ zs H, Pv xs.length zs H → Qd zs H) :
    ∃ W : List V → Nat → Nat → Hp → Prop, (∃ m, W [] 0 m H4) ∧ ∀ ys i m H, W ys i m H →
      ((Itt K a).stop i H ∧ Qd ys H) ∨ ((Itt K a).go i H ∧ ∃ Nx : List V → Hp → Prop, (∀ zs H', Nx zs H' → ∃ m', m' < m ∧ W zs (i + 1) m' H') ∧ ∀ x H', (Itt K a).yld i H x H' → g x (wipe σ vs) H' fun σ2 H2 => wipe σ2 vs = wipe σ vs ∧ tt σ2 H2 fun b H3 =>
        if b = true then te σ2 H3 fun y H5 => ys.length < sizeLine ∧ Nx (ys ++ [y]) H5 else Nx ys H3) := by
  refine ⟨fun ys i m H => m = xs.length - i ∧ i ≤ xs.length ∧ Pv i ys H, ⟨xs.length, by simp, Nat.zero_le _, h0⟩, ?_⟩
  rintro ys i m H ⟨rfl, hi, p⟩
  have q := hl i ys H hi p
  by_cases hlt : i < xs.length
  · refine .inr ⟨⟨xs, xs[i], q, by simp [hlt]⟩, Pv (i + 1), fun zs H' h' => ⟨xs.length - (i + 1), by omega, rfl, hlt, h'⟩, fun x H' y => ?_⟩
    obtain ⟨e, y⟩ := y
    subst e
    exact hs i x ys _ (y xs q) p
  · have e : i = xs.length := by omega
    subst e
    exact .inl ⟨⟨xs, q, Nat.le_refl _⟩, hd ys H p⟩
end
/-- over two tuples side by side, the pairs being new -/
theorem lc_zipT {K : PySem.W.Frag} {a b : Addr} {xs ys : List V} {g : TG} {tt : TT} {te : TE} {vs : List Nat} {σ : L2.St} {H1 : Hp} {D : Addr} {Qd : Hp → Prop} (hn : xs.length = ys.length) (Pv : Nat → Hp → Prop) (h0 : Pv 0 (upd H1 D (.lst []))) (hl : ∀ i H, i ≤ xs.length → Pv i H → SqT K H a xs ∧ SqT K H b ys)
    (hs : ∀ i x y T H, xs[i]? = some x → ys[i]? = some y → Pv i H → H T = none → g (.ref T) (wipe σ vs) (upd H T (.tup [x, y])) fun σ2 H2 => wipe σ2 vs = wipe σ vs ∧ tt σ2 H2 fun b H3 =>
      if b = true then te σ2 H3 fun y H4 => ∃ acc, H4 D = some (.lst acc) ∧ acc.length < sizeLine ∧ Pv (i + 1) (upd H4 D (.lst (acc ++ [y]))) else Pv (i + 1) H3) (hd : ∀ H, Pv xs.length H → Qd H) :
    ∃ W : Nat → Nat → Hp → Prop, (∃ m, W 0 m (upd H1 D (.lst []))) ∧ ∀ i m H, W i m H →
      ((ItzT K a b).stop i H ∧ Qd H) ∨ ((ItzT K a b).go i H ∧ ∃ Nx : Hp → Prop, (∀ H', Nx H' → ∃ m', m' < m ∧ W (i + 1) m' H') ∧ ∀ x H', (ItzT K a b).yld i H x H' → g x (wipe σ vs) H' fun σ2 H2 => wipe σ2 vs = wipe σ vs ∧ tt σ2 H2 fun b H3 =>
        if b = true then te σ2 H3 fun y H4 => ∃ acc, H4 D = some (.lst acc) ∧ acc.length < sizeLine ∧ Nx (upd H4 D (.lst (acc ++ [y]))) else Nx H3) := by
  refine ⟨fun i m H => m = xs.length - i ∧ i ≤ xs.length ∧ Pv i H, ⟨xs.length, by simp, Nat.zero_le _, h0⟩, ?_⟩
  rintro i m H ⟨rfl, hi, p⟩
  obtain ⟨q1, q2⟩ := hl i H hi p
  by_cases hlt : i < xs.length
  · refine .inr ⟨⟨xs, ys, xs[i], ys[i]'(by omega), q1, q2, by simp [hlt], List.getElem?_eq_getElem _⟩, Pv (i + 1), fun H' h' => ⟨xs.length - (i + 1), by omega, rfl, hlt, h'⟩, fun x H' y => ?_⟩
    obtain ⟨T, u, v, rfl, hT, rfl, e1, e2⟩ := y
    exact hs i u v T H (e1 xs q1) (e2 ys q2) p hT
  · have e : i = xs.length := by omega
    subst e
    exact .inl ⟨⟨xs, ys, q1, q2, .inl (Nat.le_refl _)⟩, hd H p⟩
/-- over a tuple with its places, the pairs being new -/
theorem lc_enumT {K : PySem.W.Frag} {a : Addr} {xs : List V} {g : TG} {tt : TT} {te : TE} {vs : List Nat} {σ : L2.St} {H1 : Hp} {D : Addr} {Qd : Hp → Prop} (Pv : Nat → Hp → Prop) (h0 : Pv 0 (upd H1 D (.lst []))) (hl : ∀ i H, i ≤ xs.length → Pv i H → SqT K H a xs)
    (hs : ∀ i x T H, xs[i]? = some x → Pv i H → H T = none → g (.ref T) (wipe σ vs) (upd H T (.tup [.int (i : Nat), x])) fun σ2 H2 => wipe σ2 vs = wipe σ vs ∧ tt σ2 H2 fun b H3 =>
      if b = true then te σ2 H3 fun y H4 => ∃ acc, H4 D = some (.lst acc) ∧ acc.length < sizeLine ∧ Pv (i + 1) (upd H4 D (.lst (acc ++ [y]))) else Pv (i + 1) H3) (hd : ∀ H, Pv xs.length H → Qd H) :
    ∃ W : Nat → Nat → Hp → Prop, (∃ m, W 0 m (upd H1 D (.lst []))) ∧ ∀ i m H, W i m H →
      ((IteT K a).stop i H ∧ Qd H) ∨ ((IteT K a).go i H ∧ ∃ Nx : Hp → Prop, (∀ H', Nx H' → ∃ m', m' < m ∧ W (i + 1) m' H') ∧ ∀ x H', (IteT K a).yld i H x H' → g x (wipe σ vs) H' fun σ2 H2 => wipe σ2 vs = wipe σ vs ∧ tt σ2 H2 fun b H3 =>
        if b = true then te σ2 H3 fun y H4 => ∃ acc, H4 D = some (.lst acc) ∧ acc.length < sizeLine ∧ Nx (upd H4 D (.lst (acc ++ [y]))) else Nx H3) := by
  refine ⟨fun i m H => m = xs.length - i ∧ i ≤ xs.length ∧ Pv i H, ⟨xs.length, by simp, Nat.zero_le _, h0⟩, ?_⟩
  rintro i m H ⟨rfl, hi, p⟩
  have q := hl i H hi p
  by_cases hlt : i < xs.length
  · refine .inr ⟨⟨xs, xs[i], q, by simp [hlt]⟩, Pv (i + 1), fun H' h' => ⟨xs.length - (i + 1), by omega, rfl, hlt, h'⟩, fun x H' y => ?_⟩
    obtain ⟨T, u, rfl, hT, rfl, e1⟩ := y
    exact hs i u T H (e1 xs q) p hT
  · have e : i = xs.length := by omega
    subst e
    exact .inl ⟨⟨xs, q, rfl⟩, hd H p⟩
theorem for_enumT {K : PySem.W.Frag} {a : Addr} {xs : List V} {g : TG} {tb : TS} {D : Ends} {σ : L2.St} {H : Hp} (Pv : Nat → L2.St → Hp → Prop) (h0 : Pv 0 σ H) (hl : ∀ i σ H, i ≤ xs.length → Pv i σ H → SqT K H a xs)
    (hs : ∀ i x T σ H, xs[i]? = some x → Pv i σ H → H T = none → g (.ref T) σ (upd H T (.tup [.int (i : Nat), x])) fun σ2 H2 => tb { D with nx := Pv (i + 1), ct := Pv (i + 1), bk := D.nx } σ2 H2) (hd : ∀ σ H, Pv xs.length σ H → D.nx σ H) :
    ∃ W : Nat → Nat → L2.St → Hp → Prop, (∃ m, W 0 m σ H) ∧ ∀ i m σ H, W i m σ H →
      ((IteT K a).stop i H ∧ D.nx σ H) ∨ ((IteT K a).go i H ∧ ∃ N : L2.St → Hp → Prop, (∀ σ' H', N σ' H' → ∃ m', m' < m ∧ W (i + 1) m' σ' H') ∧ ∀ x H', (IteT K a).yld i H x H' → g x σ H' fun σ2 H2 => tb { D with nx := N, ct := N, bk := D.nx } σ2 H2) := by
  refine ⟨fun i m σ H => m = xs.length - i ∧ i ≤ xs.length ∧ Pv i σ H, ⟨xs.length, by simp, Nat.zero_le _, h0⟩, ?_⟩
  rintro i m σ H ⟨rfl, hi, p⟩
  have q := hl i σ H hi p
  by_cases hlt : i < xs.length
  · refine .inr ⟨⟨xs, xs[i], q, by simp [hlt]⟩, Pv (i + 1), fun σ' H' p' => ⟨xs.length - (i + 1), by omega, rfl, hlt, p'⟩, fun x H' y => ?_⟩
    obtain ⟨T, u, rfl, hT, rfl, e1⟩ := y
    exact hs i u T σ H (e1 xs q) p hT
  · have e : i = xs.length := by omega
    subst e
    exact .inl ⟨⟨xs, q, rfl⟩, hd σ H p⟩

theorem pg_tupK {X : Cx} {K : PySem.W.Frag} {es : List Expr} {k : Nat} {t : TGs} {n : Nat} {pos : Pos} (hq : X.K = K) (hc : X.calm = true) (h : PGs X es t)
    (hn : (assignEach es X.env).length = n) (hst : (assignEach es X.env).findIdx? (·.1) = none) : PG X (.Tuple es k pos) (gTup K n t) := hq ▸ pg_tup hc h hn hst
theorem sl_take {K : PySem.W.Frag} {H : Hp} {t : Addr} {ns : List Int} {k : Nat} {Q : VK} (h : H t = some (.tup (ns.map V.int))) (hk : k < ns.length) (q : ∀ p, H p = none → Q (.ref p) (upd H p (.tup ((ns.take k).map V.int)))) : rSlA K (.ref t) none (some (k : Int)) H Q := by
  refine ⟨t, _, rfl, SqT.of h, fun z => ?_, fun _ p hp => ?_⟩
  · exfalso
    rw [HT.sIx_nat, List.length_map] at z
    omega
  · have e : cutV (ns.map V.int) none (some (k : Int)) = (ns.take k).map V.int := by
      unfold cutV
      rw [HT.sIx_nat, HT.sIx_none, List.length_map, List.drop_zero, List.map_take, Nat.sub_zero, Nat.min_eq_left (by omega)]
    rw [e]
    exact q p hp
theorem sl_drop {K : PySem.W.Frag} {H : Hp} {t : Addr} {ns : List Int} {k : Nat} {Q : VK} (h : H t = some (.tup (ns.map V.int))) (h0 : 0 < k) (hk : k ≤ ns.length) (q : ∀ p, H p = none → Q (.ref p) (upd H p (.tup ((ns.drop k).map V.int)))) : rSlA K (.ref t) (some (k : Int)) none H Q := by
  refine ⟨t, _, rfl, SqT.of h, fun z => ?_, fun _ p hp => ?_⟩
  · exfalso
    rw [HT.sIx_nat, List.length_map] at z
    omega
  · have e : cutV (ns.map V.int) (some (k : Int)) none = (ns.drop k).map V.int := by
      unfold cutV
      rw [HT.sIx_nat, HT.sIx_none, List.length_map, Nat.min_eq_left hk, List.map_drop, List.take_of_length_le (by rw [List.length_drop, List.length_map]; exact Nat.le_refl _)]
    rw [e]
    exact q p hp
/-! clocks -/
structure Clk where
  per : Int
  eds : List Int
  tch : List (List Int)
  gps : List (List Int)
  bok : List (List Int)
/-- a tuple's items are tuples of whole numbers -/
def Rows (H : Hp) (rs : List V) (xss : List (List Int)) : Prop := rs.length = xss.length ∧ ∀ (i : Nat) (ns : List Int), xss[i]? = some ns → ∃ b : Addr, rs[i]? = some (V.ref b) ∧ H b = some (.tup (ns.map V.int))
theorem Rows.x {S : Addr → Prop} {H H1 : Hp} {rs : List V} {xss : List (List Int)} (h : Rows H rs xss) (x : Xt S H H1) : Rows H1 rs xss := ⟨h.1, fun i ns e => by
  obtain ⟨b, e1, e2⟩ := h.2 i ns e
  exact ⟨b, e1, x.tups _ _ e2⟩⟩
theorem Rows.get {H : Hp} {rs : List V} {xss : List (List Int)} (h : Rows H rs xss) {i : Nat} {v : V} (e : rs[i]? = some v) : ∃ (b : Addr) (ns : List Int), v = .ref b ∧ xss[i]? = some ns ∧ H b = some (.tup (ns.map V.int)) := by
  have hl : i < xss.length := by rw [← h.1]; exact (List.getElem?_eq_some_iff.mp e).1
  obtain ⟨b, e1, e2⟩ := h.2 i _ (List.getElem?_eq_getElem hl)
  rw [e] at e1; cases e1
  exact ⟨b, _, rfl, List.getElem?_eq_getElem hl, e2⟩
/-- no tuple changes -/
abbrev Tk (H H1 : Hp) : Prop := ∀ a xs, H a = some (HO.tup xs) → H1 a = some (.tup xs)
theorem Tk.new {H H1 : Hp} {p : Addr} {o : HO} (t : Tk H H1) (h : H1 p = none) : Tk H (upd H1 p o) := fun a xs e => by
  rw [upd_ne (fun z => by rw [z] at e; have := t _ _ e; rw [h] at this; cases this)]; exact t _ _ e
theorem Tk.lst {H H1 : Hp} {p : Addr} {o : HO} {ys : List V} (t : Tk H H1) (h : H1 p = some (.lst ys)) : Tk H (upd H1 p o) := fun a xs e => by
  rw [upd_ne (fun z => by rw [z] at e; have := t _ _ e; rw [h] at this; cases this)]; exact t _ _ e
theorem Tk.refl {H : Hp} : Tk H H := fun _ _ e => e
theorem Rows.mono {H H1 : Hp} {rs : List V} {xss : List (List Int)} (h : Rows H rs xss) (x : Tk H H1) : Rows H1 rs xss := ⟨h.1, fun i ns e => by
  obtain ⟨b, e1, e2⟩ := h.2 i ns e
  exact ⟨b, e1, x _ _ e2⟩⟩
theorem Rows.snoc {H : Hp} {rs : List V} {xss : List (List Int)} {b : Addr} {ns : List Int} (h : Rows H rs xss) (e : H b = some (.tup (ns.map V.int))) : Rows H (rs ++ [.ref b]) (xss ++ [ns]) := ⟨by rw [List.length_append, List.length_append, h.1]; rfl, fun i ms e1 => by
  by_cases hi : i < xss.length
  · rw [List.getElem?_append_left hi] at e1
    obtain ⟨d, e2, e3⟩ := h.2 i ms e1
    exact ⟨d, by rw [List.getElem?_append_left (by rw [h.1]; exact hi)]; exact e2, e3⟩
  · rw [List.getElem?_append_right (by omega)] at e1
    have z : i - xss.length = 0 := by
      have := (List.getElem?_eq_some_iff.mp e1).1
      simp at this; omega
    rw [z] at e1
    cases e1
    exact ⟨b, by rw [List.getElem?_append_right (by rw [h.1]; omega), h.1, z]; rfl, e⟩⟩
theorem Rows.nil {H : Hp} : Rows H [] [] := ⟨rfl, fun i ns e => by simp at e⟩
theorem take_snocE {α : Type} {xs : List α} {i : Nat} {x : α} (e : xs[i]? = some x) : xs.take (i + 1) = xs.take i ++ [x] := by
  rw [List.take_add_one, e]; rfl
structure ClkAt (H : Hp) (v : V) (c : Clk) : Prop where
  ex : ∃ (a e t g b : Addr) (rt rg rb : List V), v = .ref a ∧ H a = some (.tup [.int c.per, .ref e, .ref t, .ref g, .ref b]) ∧ H e = some (.tup (c.eds.map V.int)) ∧ H t = some (.tup rt) ∧ Rows H rt c.tch ∧ H g = some (.tup rg) ∧ Rows H rg c.gps ∧ H b = some (.tup rb) ∧ Rows H rb c.bok
theorem ClkAt.x {S : Addr → Prop} {H H1 : Hp} {v : V} {c : Clk} (h : ClkAt H v c) (x : Xt S H H1) : ClkAt H1 v c := by
  obtain ⟨a, e, t, g, b, rt, rg, rb, h0, h1, h2, h3, h4, h5, h6, h7, h8⟩ := h.ex
  exact ⟨a, e, t, g, b, rt, rg, rb, h0, x.tups _ _ h1, x.tups _ _ h2, x.tups _ _ h3, h4.x x, x.tups _ _ h5, h6.x x, x.tups _ _ h7, h8.x x⟩
/-- ascending, no two alike -/
def TchOk (per : Int) (eds : List Int) (t : List Int) : Prop := ∃ p i j : Int, t = [p, i, j] ∧ 0 ≤ p ∧ p < per ∧ 0 ≤ i ∧ i < j ∧ j < eds.length
def BokOk (eds : List Int) (t : List Int) : Prop := ∃ i a j b : Int, t = [i, a, j, b] ∧ 0 ≤ i ∧ i < eds.length ∧ 0 ≤ j ∧ j < eds.length ∧ i ≠ j ∧ 1 ≤ a ∧ a ≤ eds[i.toNat]?.getD 0 ∧ 1 ≤ b ∧ b ≤ eds[j.toNat]?.getD 0
def GpsOk (per ed : Int) (g : List Int) : Prop := (0 < ed → g ≠ []) ∧ (∀ x ∈ g, 0 ≤ x ∧ x < per) ∧ rising (g.map fun x => [x]) = true ∧ g.length ≤ 1000
structure Clk.Ok (c : Clk) : Prop where
  per : 1 ≤ c.per ∧ c.per ≤ 12
  len : 1 ≤ c.eds.length ∧ c.eds.length ≤ 12
  eds : ∀ e ∈ c.eds, 0 ≤ e ∧ e ≤ 4
  sum : c.eds.sum ≤ 24
  tch : ∀ t ∈ c.tch, TchOk c.per c.eds t
  tchR : rising c.tch = true
  tchL : c.tch.length ≤ 1000
  gpsN : c.gps.length = c.eds.length
  gps : ∀ (i : Nat) (e : Int) (g : List Int), c.eds[i]? = some e → c.gps[i]? = some g → GpsOk c.per e g
  bok : ∀ t ∈ c.bok, BokOk c.eds t
  bokR : rising (c.bok.map (·.take 3)) = true
  bokL : c.bok.length ≤ 1000
end LC
-- L4
namespace LC
variable [Tbl]
open PySem PySem.Spec PyProof.Rows L2 GenW RZ
/-! turns of a walk, whatever the turn does -/
section
variable {K : PySem.W.Frag} {a : Addr} {xs : List V} {H0 : Hp} {Qd : Hp → Prop} {B : (Hp → Prop) → V → Hp → Prop}
theorem drvE (Pv : Nat → Hp → Prop) (h0 : Pv 0 H0) (hl : ∀ i H, i ≤ xs.length → Pv i H → SqT K H a xs)
    (hs : ∀ i x T H, xs[i]? = some x → Pv i H → H T = none → B (Pv (i + 1)) (.ref T) (upd H T (.tup [.int (i : Nat), x]))) (hd : ∀ H, Pv xs.length H → Qd H) :
    ∃ W : Nat → Nat → Hp → Prop, (∃ m, W 0 m H0) ∧ ∀ i m H, W i m H →
      ((IteT K a).stop i H ∧ Qd H) ∨ ((IteT K a).go i H ∧ ∃ Nx : Hp → Prop, (∀ H', Nx H' → ∃ m', m' < m ∧ W (i + 1) m' H') ∧ ∀ x H', (IteT K a).yld i H x H' → B Nx x H') := by
  refine ⟨fun i m H => m = xs.length - i ∧ i ≤ xs.length ∧ Pv i H, ⟨xs.length, by simp, Nat.zero_le _, h0⟩, ?_⟩
  rintro i m H ⟨rfl, hi, p⟩
  have q := hl i H hi p
  by_cases hlt : i < xs.length
  · refine .inr ⟨⟨xs, xs[i], q, by simp [hlt]⟩, Pv (i + 1), fun H' h' => ⟨xs.length - (i + 1), by omega, rfl, hlt, h'⟩, fun x H' y => ?_⟩
    obtain ⟨T, u, rfl, hT, rfl, e1⟩ := y
    exact hs i u T H (e1 xs q) p hT
  · have e : i = xs.length := by omega
    subst e
    exact .inl ⟨⟨xs, q, rfl⟩, hd H p⟩
theorem drvT (Pv : Nat → Hp → Prop) (h0 : Pv 0 H0) (hl : ∀ i H, i ≤ xs.length → Pv i H → SqT K H a xs)
    (hs : ∀ i x H, xs[i]? = some x → Pv i H → B (Pv (i + 1)) x H) (hd : ∀ H, Pv xs.length H → Qd H) :
    ∃ W : Nat → Nat → Hp → Prop, (∃ m, W 0 m H0) ∧ ∀ i m H, W i m H →
      ((Itt K a).stop i H ∧ Qd H) ∨ ((Itt K a).go i H ∧ ∃ Nx : Hp → Prop, (∀ H', Nx H' → ∃ m', m' < m ∧ W (i + 1) m' H') ∧ ∀ x H', (Itt K a).yld i H x H' → B Nx x H') := by
  refine ⟨fun i m H => m = xs.length - i ∧ i ≤ xs.length ∧ Pv i H, ⟨xs.length, by simp, Nat.zero_le _, h0⟩, ?_⟩
  rintro i m H ⟨rfl, hi, p⟩
  have q := hl i H hi p
  by_cases hlt : i < xs.length
  · refine .inr ⟨⟨xs, xs[i], q, by simp [hlt]⟩, Pv (i + 1), fun H' h' => ⟨xs.length - (i + 1), by omega, rfl, hlt, h'⟩, fun x H' y => ?_⟩
    obtain ⟨e, y⟩ := y
    subst e
    exact hs i x _ (y xs q) p
  · have e : i = xs.length := by omega
    subst e
    exact .inl ⟨⟨xs, q, Nat.le_refl _⟩, hd H p⟩
theorem drvR {lo : Int} {n : Nat} (Pv : Nat → Hp → Prop) (h0 : Pv 0 H0) (hs : ∀ i H, i < n → Pv i H → B (Pv (i + 1)) (.int (lo + i)) H) (hd : ∀ H, Pv n H → Qd H) :
    ∃ W : Nat → Nat → Hp → Prop, (∃ m, W 0 m H0) ∧ ∀ i m H, W i m H →
      ((Itr lo n).stop i H ∧ Qd H) ∨ ((Itr lo n).go i H ∧ ∃ Nx : Hp → Prop, (∀ H', Nx H' → ∃ m', m' < m ∧ W (i + 1) m' H') ∧ ∀ x H', (Itr lo n).yld i H x H' → B Nx x H') := by
  refine ⟨fun i m H => m = n - i ∧ i ≤ n ∧ Pv i H, ⟨n, by simp, Nat.zero_le _, h0⟩, ?_⟩
  rintro i m H ⟨rfl, hi, p⟩
  by_cases hlt : i < n
  · refine .inr ⟨hlt, Pv (i + 1), fun H' p' => ⟨n - (i + 1), by omega, rfl, hlt, p'⟩, fun x H' y => ?_⟩
    obtain ⟨e, y⟩ := y
    subst e y
    exact hs i _ hlt p
  · have e : i = n := by omega
    subst e
    exact .inl ⟨Nat.le_refl _, hd H p⟩
end
theorem bl_of {Q : VK} {b : Bool} {H : Hp} (e : b = true) (q : Q (.bl true) H) : Q (.bl b) H := by rw [e]; exact q
/-! all exchanges of a clock -/
def dueW (i : Nat) (j : Nat) : List (List Int) := (List.range j).map fun (k : Nat) => [(i : Int), 1 + (k : Int)]
def due (eds : List Int) (n : Nat) : List (List Int) := (List.range n).flatMap fun i => dueW i (eds[i]?.getD 0).toNat
theorem due_succ (eds : List Int) (n : Nat) : due eds (n + 1) = due eds n ++ dueW n (eds[n]?.getD 0).toNat := by
  unfold due; rw [List.range_succ, List.flatMap_append, List.flatMap_singleton]
theorem dueW_succ (i j : Nat) : dueW i (j + 1) = dueW i j ++ [[(i : Int), 1 + (j : Int)]] := by
  unfold dueW; rw [List.range_succ, List.map_append]; rfl
theorem dueW_len (i j : Nat) : (dueW i j).length = j := by unfold dueW; simp
theorem due_len (eds : List Int) (h : ∀ e ∈ eds, 0 ≤ e ∧ e ≤ 4) : ∀ n, (due eds n).length ≤ 4 * n
  | 0 => by simp [due]
  | n + 1 => by
    rw [due_succ, List.length_append, dueW_len]
    have := due_len eds h n
    have h2 : (eds[n]?.getD 0).toNat ≤ 4 := by
      cases z : eds[n]? with
      | none => simp
      | some e => have := h e (List.mem_of_getElem? z); simp; omega
    omega
end LC
namespace LC
variable [Tbl]
open PySem PySem.Spec PyProof.Rows L2
theorem filt_yes {α : Type} {p : α → Bool} {xs : List α} {i : Nat} {x : α} (e : xs[i]? = some x) (h : p x = true) : (xs.take (i + 1)).filter p = (xs.take i).filter p ++ [x] := by
  rw [take_snocE e, List.filter_append, List.filter_cons_of_pos h, List.filter_nil]
theorem filt_no {α : Type} {p : α → Bool} {xs : List α} {i : Nat} {x : α} (e : xs[i]? = some x) (h : p x = false) : (xs.take (i + 1)).filter p = (xs.take i).filter p := by
  rw [take_snocE e, List.filter_append, List.filter_cons_of_neg (by rw [h]; exact Bool.false_ne_true), List.filter_nil, List.append_nil]
theorem deceq {i j : Int} : decide (V.int i = V.int j) = decide (i = j) := by rw [dec_int]; exact (Bool.beq_eq_decide_eq _ _)
/-- a place of a tuple of whole numbers -/
theorem rixI {K : PySem.W.Frag} {H : Hp} {a : Addr} {ns : List Int} {i : Int} {n : Int} {Q : VK} (j : Nat) (hs : H a = some (.tup (ns.map V.int))) (e : i = (j : Int)) (hx : ns[j]? = some n) (q : Q (.int n) H) : rIxT K (.ref a) (.int i) H Q :=
  rixT_of hs e (by rw [List.getElem?_map, hx]; rfl) q
/-- the same where the place is written -/
theorem rixC {K : PySem.W.Frag} {H : Hp} {σ : L2.St} {a : Addr} {ns : List Int} {i : Int} {n : Int} {Q : VK} (j : Nat) (hs : H a = some (.tup (ns.map V.int))) (e : i = (j : Int)) (hx : ns[j]? = some n) (q : Q (.int n) H) : tC (.int i) σ H (fun y H2 => rIxT K (.ref a) y H2 Q) :=
  rixT_of hs e (by rw [List.getElem?_map, hx]; rfl) q
theorem rixV {K : PySem.W.Frag} {H : Hp} {σ : L2.St} {a : Addr} {xs : List V} {i : Int} {v : V} {Q : VK} (j : Nat) (hs : H a = some (.tup xs)) (e : i = (j : Int)) (hx : xs[j]? = some v) (q : Q v H) : tC (.int i) σ H (fun y H2 => rIxT K (.ref a) y H2 Q) :=
  rixT_of hs e hx q
end LC
namespace LC
variable [Tbl]
open PySem L2
/-- an entry of the book speaks of these wheels and of an edition up to this one -/
def entOk (i a j : Int) (t : List Int) : Bool := decide (t[0]?.getD 0 = i) && decide (t[2]?.getD 0 = j) && decide (t[1]?.getD 0 ≤ a)
def LN (bok : List (List Int)) (i a j m : Int) : Prop := (∀ t ∈ bok, entOk i a j t = true → t[3]?.getD 0 ≤ m) ∧ (m = 0 ∨ ∃ t ∈ bok, entOk i a j t = true ∧ t[3]?.getD 0 = m)
theorem bok_pos {eds t : List Int} (h : BokOk eds t) : (1 : Int) ≤ t[3]?.getD 0 := by
  obtain ⟨i, a, j, b, rfl, _, _, _, _, _, _, _, h8, _⟩ := h
  exact h8
theorem LN.uniq {bok : List (List Int)} {eds : List Int} {i a j m1 m2 : Int} (hb : ∀ t ∈ bok, BokOk eds t) (h1 : LN bok i a j m1) (h2 : LN bok i a j m2) : m1 = m2 := by
  obtain ⟨u1, l1⟩ := h1
  obtain ⟨u2, l2⟩ := h2
  rcases l1 with l1 | ⟨t1, a1, b1, c1⟩
  · rcases l2 with l2 | ⟨t2, a2, b2, c2⟩
    · omega
    · have := u1 t2 a2 b2; have := bok_pos (hb t2 a2); omega
  · rcases l2 with l2 | ⟨t2, a2, b2, c2⟩
    · have := u2 t1 a1 b1; have := bok_pos (hb t1 a1); omega
    · have := u1 t2 a2 b2; have := u2 t1 a1 b1; omega
end LC
namespace LC
variable [Tbl]
open PySem L2
theorem sl_dropN {K : PySem.W.Frag} {H : Hp} {σ : L2.St} {t : Addr} {ns : List Int} {k : Nat} {i : Int} {Q : VK} (h : H t = some (.tup (ns.map V.int))) (e : i = (k : Int)) (h0 : 0 < k) (hk : k ≤ ns.length) (q : ∀ p, H p = none → Q (.ref p) (upd H p (.tup ((ns.drop k).map V.int)))) : tNoPart σ H (fun u H3 => rSlA K (.ref t) (some i) u H3 Q) := e ▸ sl_drop h h0 hk q
end LC
-- L5
namespace LC
variable [Tbl]
open PySem PySem.Spec PyProof.Rows L2 GenW RZ
section
variable {K : PySem.W.Frag} {H H1 : Hp} {a scr row : Addr} {xs : List V} {σ : L2.St}
theorem rixL {i : Int} {v : V} {Q : VK} (j : Nat) (hs : SqL K H a xs) (e : i = (j : Int)) (hx : xs[j]? = some v) (q : Q v H) : rIxL K (.ref a) (.int i) H Q := ⟨a, xs, i, v, rfl, rfl, hs, atI_of e hx, q⟩
theorem rixLC {i : Int} {v : V} {Q : VK} (j : Nat) (hs : H a = some (.lst xs)) (e : i = (j : Int)) (hx : xs[j]? = some v) (q : Q v H) : tC (.int i) σ H (fun y H2 => rIxL K (.ref a) y H2 Q) := rixL j (SqL.of hs) e hx q
theorem sqL_ne {o : HO} (h : SqL K H a xs) (hn : a ≠ row) : SqL K (upd H row o) a xs := by
  rcases h with (h | ⟨u, h⟩) | h
  · exact .inl (.inl (by rw [upd_ne hn]; exact h))
  · exact .inl (.inr ⟨u, by rw [upd_ne hn]; exact h⟩)
  · exact .inr h
/-- it stands in the written part -/
def SqLK (K : PySem.W.Frag) (a : Addr) (xs : List V) : Prop := ∃ (o : Obj) (its : Array Value) (n : Nat), K.lookup a = some o ∧ o.cls = .type "list" ∧ o.dict = none ∧ o.data = .seq its n ∧ its.size ≤ sizeLine ∧ Vals xs its.toList
theorem sqL_neK {o : HO} (h : SqL K H a xs) (hn : a ≠ row ∨ SqLK K a xs) : SqL K (upd H row o) a xs := by
  rcases hn with hn | hn
  · exact sqL_ne h hn
  · exact .inr hn
theorem sqL_xs {S : Addr → Prop} (x : Xt S H H1) (hn : ¬ S a) (h : SqL K H a xs) : SqL K H1 a xs := by
  rcases h with (h | ⟨u, h⟩) | h
  · exact .inl (.inl (x.keep a _ hn (fun _ z => by cases z) h))
  · exact .inl (.inr ⟨u, x.keep a _ hn (fun _ z => by cases z) h⟩)
  · exact .inr h
theorem sqL_xsK {S : Addr → Prop} (x : Xt S H H1) (hn : ¬ S a ∨ SqLK K a xs) (h : SqL K H a xs) : SqL K H1 a xs := by
  rcases hn with hn | hn
  · exact sqL_xs x hn h
  · exact .inr hn
end
/-- the draws' row -/
structure RowAt (K : PySem.W.Frag) (H : Hp) (row scr : Addr) (ns : List Int) : Prop where
  ex : ∃ i x r : Int, H row = some (.lst [.ref scr, .int i, .int x, .int r]) ∧ 0 ≤ i ∧ 0 ≤ x ∧ x < 2147483647 ∧ 0 ≤ r
  sc : SqL K H scr (ns.map V.int)
  ne : scr ≠ row ∨ SqLK K scr (ns.map V.int)
theorem RowAt.x {K : PySem.W.Frag} {H H1 : Hp} {row scr : Addr} {ns : List Int} (h : RowAt K H row scr ns) (x : Xn H H1) : RowAt K H1 row scr ns := by
  obtain ⟨⟨i, y, r, h1, h2⟩, h3, h4⟩ := h
  exact ⟨⟨i, y, r, x.keep row _ (fun z => z) (fun _ z => by cases z) h1, h2⟩, sqL_x x h3, h4⟩
theorem RowAt.upd {K : PySem.W.Frag} {H : Hp} {row scr : Addr} {ns : List Int} {i x r : Int} (h : RowAt K H row scr ns) (h1 : 0 ≤ i) (h2 : 0 ≤ x) (h3 : x < 2147483647) (h4 : 0 ≤ r) : RowAt K (upd H row (.lst [.ref scr, .int i, .int x, .int r])) row scr ns :=
  ⟨⟨i, x, r, upd_same, h1, h2, h3, h4⟩, sqL_neK h.sc h.ne, h.ne⟩
/-- one address alone may change -/
abbrev At1 (row : Addr) : Addr → Prop := fun a => a = row
theorem RowAt.yo {K : PySem.W.Frag} {H H2 : Hp} {row scr E : Addr} {ns : List Int} {o : HO} (h0 : RowAt K H row scr ns) (x : Xt (At1 row) H (L2.upd H2 E o)) (h2 : RowAt K H2 row scr ns) (hE : E ≠ row) : RowAt K (L2.upd H2 E o) row scr ns := by
  obtain ⟨i, y, r, h1, h2⟩ := h2.ex
  exact ⟨⟨i, y, r, by rw [upd_ne (Ne.symm hE)]; exact h1, h2⟩, sqL_xsK x h0.ne h0.sc, h0.ne⟩
def sb_taken (K : PySem.W.Frag) : Sp := fun vs H Q _ => ∃ (row scr : Addr) (ns : List Int) (m : Int), vs = [.ref row, .int m] ∧ RowAt K H row scr ns ∧ 1 ≤ m ∧ m ≤ 1000 ∧ ∀ H' n, 0 ≤ n → n < m → Xt (At1 row) H H' → RowAt K H' row scr ns → Q (.int n) H'
end LC
-- K17_d5
namespace K17
open PySem PySem.Spec PyProof.Rows L2 LC
variable [Tbl]
variable {P : Program} {w : World} {K : PySem.W.Frag} {mg : Str → Option Value} {base : Heap} {f c : Addr} {fd : FuncData} {Ts : List Addr} {TP : Addr}

theorem ok_law_taken (T : Txt mg) (F : FunC K "_law_taken" s_law_taken f fd c) : FnOk P w K mg base CX0 1 f fd ["row", "many"] (sb_taken K) := by
  refine F.ok sc_law_taken (fun vs H Q E h => ?_) (fun A outer s H vs Q E hr h => ⟨_, (pss_cons (ps_if (pt_cmpR op_gt (pe_ix (ixK (K := K) rIxL ix_list rfl) (pv 0) pe_int (fun _ _ => rfl)) pe_int (nomark _)) (pss_cons (ps_set (i := 3) sc_law_taken.nd rfl (Or.inl rfl) (pe_op op_modN (pe_callTy call_int1 (by rfl) T.g_int (by decide +kernel) (pa_cons (pe_ix (ixK (K := K) rIxL ix_list rfl) (pv 0) pe_int (fun _ _ => rfl)) pa_nil)) (pv 1)))
    (pss_cons (ps_asg (pe_op op_fdivW (pe_ix (ixK (K := K) rIxL ix_list rfl) (pv 0) pe_int (fun _ _ => rfl)) (pv 1)) (pg_sub (pv 0) pe_int set_list))
    (pss_one (ps_ret (pv 3))))) pss_nil)
    (pss_cons (ps_asg (pe_op op_add (pe_ix (ixK (K := K) rIxL ix_list rfl) (pv 0) pe_int (fun _ _ => rfl)) pe_int) (pg_sub (pv 0) pe_int set_list))
    (pss_cons (ps_if (pt_cmpR op_gt (pe_ix (ixK (K := K) rIxL ix_list rfl) (pv 0) pe_int (fun _ _ => rfl)) (pe_callB (crK (K := K) rLenQ cr_len rfl) (by rfl) T.g_len (by decide +kernel) (pa_cons (pe_ix (ixK (K := K) rIxL ix_list rfl) (pv 0) pe_int (fun _ _ => rfl)) pa_nil)) (nomark _)) (pss_cons (ps_asg (pe_op op_modN (pe_callTy call_int1 (by rfl) T.g_int (by decide +kernel) (pa_cons (pe_op op_add (pe_op op_mul (pe_ix (ixK (K := K) rIxL ix_list rfl) (pv 0) pe_int (fun _ _ => rfl)) pe_int) pe_int) pa_nil)) pe_int) (pg_sub (pv 0) pe_int set_list))
    (pss_one (ps_ret (pe_op op_modN (pe_callTy call_int1 (by rfl) T.g_int (by decide +kernel) (pa_cons (pe_op op_fdivW (pe_ix (ixK (K := K) rIxL ix_list rfl) (pv 0) pe_int (fun _ _ => rfl)) pe_int) pa_nil)) (pv 1))))) pss_nil)
    (pss_cons (ps_set (i := 2) sc_law_taken.nd rfl (Or.inl rfl) (pe_ix (ixK (K := K) rIxL ix_list rfl) (pe_ix (ixK (K := K) rIxL ix_list rfl) (pv 0) pe_int (fun _ _ => rfl)) (pe_op op_sub (pe_ix (ixK (K := K) rIxL ix_list rfl) (pv 0) pe_int (fun _ _ => rfl)) pe_int) (fun _ _ => rfl)))
    (pss_cons (ps_asg (pe_op op_modN (pe_callTy call_int1 (by rfl) T.g_int (by decide +kernel) (pa_cons (pe_op op_add (pe_op op_add (pe_op op_mul (pe_ix (ixK (K := K) rIxL ix_list rfl) (pv 0) pe_int (fun _ _ => rfl)) pe_int) (pv 2)) pe_int) pa_nil)) pe_int) (pg_sub (pv 0) pe_int set_list))
    (pss_cons (ps_if (pt_cmpR op_ge (pv 2) (pe_op op_pow pe_int pe_int) (nomark _)) (pss_one (ps_asg (pe_op op_fdivW (pv 2) (pv 1)) (pg_sub (pv 0) pe_int set_list))) pss_nil)
    (pss_one (ps_ret (pe_op op_modN (pe_callTy call_int1 (by rfl) T.g_int (by decide +kernel) (pa_cons (pv 2) pa_nil)) (pv 1)))))))))), ?_⟩)
  · obtain ⟨row, scr, ns, m, rfl, _⟩ := h; rfl
  · obtain ⟨row, scr, ns, m, rfl, hR, m1, m2, q⟩ := h
    obtain ⟨⟨i, x, r, h1, hi, hx, hx2, hr0⟩, hsc, hne⟩ := id hR
    have x0 : ∀ o, Xt (At1 row) H (upd H row o) := fun o => Xt.own rfl h1
    refine ⟨_, rfl, rixLC 3 h1 rfl rfl ⟨_, _, rfl, rfl, _, rfl, ?_⟩⟩
    by_cases c1 : r > 0
    · rw [decide_eq_true c1]
      refine iteT ⟨_, rfl, rixLC 3 h1 rfl rfl (.inl ⟨_, rfl, _, rfl, _, _, rfl, rfl, by omega, ?_⟩)⟩
      refine ⟨_, rfl, rixLC 3 h1 rfl rfl ⟨_, rfl, _, _, rfl, rfl, ⟨by omega, ?_⟩, _, rfl, _, _, _, 3, rfl, rfl, h1, rfl, ?_⟩⟩
      · exact Nat.lt_of_le_of_lt (Nat.log2_le_self _) (by omega)
      · refine ⟨_, rfl, q _ _ (Int.fmod_nonneg_of_pos _ (by omega)) (Int.fmod_lt_of_pos _ (by omega)) (x0 _) (hR.upd hi hx hx2 ?_)⟩
        exact Int.ediv_nonneg hr0 (by omega)
    · rw [decide_eq_false c1]
      refine iteF ?_
      refine ⟨_, rfl, rixLC 1 h1 rfl rfl ⟨_, _, rfl, rfl, _, rfl, _, _, _, 1, rfl, rfl, h1, rfl, ?_⟩⟩
      have h2 : upd H row (.lst [.ref scr, .int (i + 1), .int x, .int r]) row = some (.lst [.ref scr, .int (i + 1), .int x, .int r]) := upd_same
      have hsc2 := sqL_neK (o := .lst [.ref scr, .int (i + 1), .int x, .int r]) hsc hne
      have d1 : (2147483647 : Int) ≠ 0 := by decide
      have fm : ∀ y : Int, 0 ≤ y.fmod 2147483647 ∧ y.fmod 2147483647 < 2147483647 := fun y => ⟨Int.fmod_nonneg_of_pos _ (by decide), Int.fmod_lt_of_pos _ (by decide)⟩
      have fq : ∀ y : Int, 0 ≤ y.fmod m ∧ y.fmod m < m := fun y => ⟨Int.fmod_nonneg_of_pos _ (by omega), Int.fmod_lt_of_pos _ (by omega)⟩
      refine ⟨_, rfl, rixLC 1 h2 rfl rfl ⟨_, rfl, rixLC 0 h2 rfl rfl ⟨scr, _, rfl, .inl hsc2, ?_⟩⟩⟩
      refine ⟨_, _, rfl, rfl, _, rfl, ?_⟩
      rw [List.length_map]
      by_cases c2 : i + 1 > (ns.length : Int)
      · rw [decide_eq_true c2]
        refine iteT ⟨_, rfl, rixLC 2 h2 rfl rfl ⟨_, _, rfl, rfl, .inr (by decide), _, _, rfl, rfl, .inl ⟨_, rfl, _, _, rfl, rfl, d1, ?_⟩⟩⟩
        refine ⟨_, rfl, _, _, _, 2, rfl, rfl, h2, rfl, ?_⟩
        have h3 : upd (upd H row (.lst [.ref scr, .int (i + 1), .int x, .int r])) row (.lst [.ref scr, .int (i + 1), .int ((x * 48271 + 11).fmod 2147483647), .int r]) row = some (.lst [.ref scr, .int (i + 1), .int ((x * 48271 + 11).fmod 2147483647), .int r]) := upd_same
        refine ⟨_, rfl, rixLC 2 h3 rfl rfl ⟨_, _, rfl, rfl, ⟨by decide, by decide⟩, .inl ⟨_, rfl, _, rfl, _, _, rfl, rfl, by omega, ?_⟩⟩⟩
        refine q _ _ (fq _).1 (fq _).2 ((x0 _).trans (Xt.own rfl h2)) (RowAt.upd (hR.upd (i := i + 1) (by omega) hx hx2 hr0) (by omega) (fm _).1 (fm _).2 hr0)
      · rw [decide_eq_false c2]
        refine iteF ?_
        have hlt : i.toNat < ns.length := by omega
        obtain ⟨cell, ec⟩ : ∃ z, ns[i.toNat]? = some z := ⟨_, List.getElem?_eq_getElem hlt⟩
        refine ⟨_, rfl, rixLC 0 h2 rfl rfl ⟨_, rfl, rixLC 1 h2 rfl rfl ⟨_, _, rfl, rfl, ?_⟩⟩⟩
        refine rixL (v := .int cell) i.toNat hsc2 (by omega) (by rw [List.getElem?_map, ec]; rfl) ?_
        refine ⟨_, rfl, rixLC 2 h2 rfl rfl ⟨_, _, rfl, rfl, .inr (by decide), _, rfl, _, _, rfl, rfl, _, _, rfl, rfl, .inl ⟨_, rfl, _, _, rfl, rfl, d1, ?_⟩⟩⟩
        refine ⟨_, rfl, _, _, _, 2, rfl, rfl, h2, rfl, ?_⟩
        have h3 : upd (upd H row (.lst [.ref scr, .int (i + 1), .int x, .int r])) row (.lst [.ref scr, .int (i + 1), .int ((x * 48271 + cell + 11).fmod 2147483647), .int r]) row = some (.lst [.ref scr, .int (i + 1), .int ((x * 48271 + cell + 11).fmod 2147483647), .int r]) := upd_same
        refine ⟨_, rfl, _, _, rfl, rfl, ⟨by decide, by decide, by decide⟩, _, _, rfl, rfl, _, rfl, ?_⟩
        have x3 := (x0 (.lst [.ref scr, .int (i + 1), .int x, .int r])).trans (Xt.own (S := At1 row) (o := .lst [.ref scr, .int (i + 1), .int ((x * 48271 + cell + 11).fmod 2147483647), .int r]) rfl h2)
        have r3 := RowAt.upd (x := (x * 48271 + cell + 11).fmod 2147483647) (hR.upd (i := i + 1) (by omega) hx hx2 hr0) (show 0 ≤ i + 1 by omega) (fm _).1 (fm _).2 hr0
        by_cases c3 : cell ≥ 10 ^ (18 : Int).toNat
        · rw [decide_eq_true c3]
          refine iteT ⟨_, rfl, _, rfl, _, _, rfl, rfl, ⟨by omega, Nat.lt_of_le_of_lt (Nat.log2_le_self _) (by omega)⟩, _, rfl, _, _, _, 3, rfl, rfl, h3, rfl, ?_⟩
          refine ⟨_, rfl, .inl ⟨_, rfl, _, rfl, _, _, rfl, rfl, by omega, ?_⟩⟩
          have hc0 : (0 : Int) ≤ cell := by
            have e : (10 : Int) ^ (18 : Int).toNat = 1000000000000000000 := by decide +kernel
            rw [e] at c3; omega
          exact q _ _ (fq _).1 (fq _).2 (x3.trans (Xt.own rfl h3)) (r3.upd (by omega) (fm _).1 (fm _).2 (Int.ediv_nonneg hc0 (by omega)))
        · rw [decide_eq_false c3]
          refine iteF ?_
          refine ⟨_, rfl, .inl ⟨_, rfl, _, rfl, _, _, rfl, rfl, by omega, ?_⟩⟩
          exact q _ _ (fq _).1 (fq _).2 x3 r3

end K17
-- L6
namespace LC
variable [Tbl]
open PySem PySem.Spec PyProof.Rows L2
def msr (E : Addr) (H : Hp) : Nat := match H E with
  | some (.lst xs) => (xs.map fun v => match v with | .int i => i.toNat | _ => 0).sum
  | _ => 0
theorem msr_of {E : Addr} {H : Hp} {es : List Int} (h : H E = some (.lst (es.map V.int))) : msr E H = (es.map Int.toNat).sum := by
  unfold msr; rw [h]; simp only [List.map_map]; rfl
theorem first_ix : ∀ {es : List Int} {m : Int}, m ∈ es → ∃ j, es[j]? = some m ∧ ∀ (i : Nat) (z : Int), i < j → es[i]? = some z → z ≠ m
  | [], _, h => nomatch h
  | e :: es, m, h => by
    by_cases z : e = m
    · exact ⟨0, by rw [z]; rfl, fun i _ hi => absurd hi (Nat.not_lt_zero _)⟩
    · obtain ⟨j, h1, h2⟩ := first_ix (es := es) (by
        rcases List.mem_cons.mp h with h | h
        · exact absurd h.symm z
        · exact h)
      refine ⟨j + 1, by simpa using h1, fun i y hi hy => ?_⟩
      cases i with
      | zero => simp at hy; exact hy ▸ z
      | succ i => exact h2 i y (by omega) (by simpa using hy)
theorem set_sum : ∀ {es : List Int} {j : Nat} {m : Int}, es[j]? = some m → ((es.set j 0).map Int.toNat).sum + m.toNat = (es.map Int.toNat).sum
  | [], _, _, h => by simp at h
  | e :: es, 0, m, h => by
    simp at h; subst h
    simp; omega
  | e :: es, j + 1, m, h => by
    have := set_sum (es := es) (j := j) (m := m) (by simpa using h)
    rw [List.set_cons_succ, List.map_cons, List.map_cons, List.sum_cons, List.sum_cons]; omega
theorem sum_pos_max {es : List Int} {m : Int} (h : ∀ y ∈ es, y ≤ m) (hm : m ≤ 0) : es.sum ≤ 0 := by
  induction es with
  | nil => simp
  | cons e es ih =>
    have h1 := h e (List.mem_cons_self ..)
    have h2 := ih fun y hy => h y (List.mem_cons_of_mem _ hy)
    rw [List.sum_cons]; omega
theorem mem_set0 {es : List Int} {j : Nat} (h : ∀ e ∈ es, 0 ≤ e ∧ e ≤ 4) : ∀ e ∈ es.set j 0, 0 ≤ e ∧ e ≤ 4 := fun e he => by
  rcases List.mem_or_eq_of_mem_set he with h1 | h1
  · exact h e h1
  · subst h1; exact ⟨by omega, by omega⟩
end LC
-- L7
namespace LC
variable [Tbl]
open PySem PySem.Spec PyProof.Rows L2
/-! dicts whose keys are tuples of whole numbers -/
def kI (k : List Int) : List Key := k.map Sum.inl
theorem kI_inj {a b : List Int} (h : kI a = kI b) : a = b := by
  induction a generalizing b with
  | nil => cases b with
    | nil => rfl
    | cons _ _ => cases h
  | cons x a ih => cases b with
    | nil => cases h
    | cons y b =>
      unfold kI at h
      rw [List.map_cons, List.map_cons, List.cons.injEq] at h
      obtain ⟨h1, h2⟩ := h
      rw [Sum.inl.injEq] at h1
      rw [h1, ih h2]
theorem kI_kV (k : List Int) : (kI k).map kV = k.map V.int := by
  unfold kI; rw [List.map_map]; rfl
def dOf (ps : List (List Int × V)) : List (List Key × V) := ps.map fun p => (kI p.1, p.2)
theorem put_ps {ps : List (List Int × V)} {k : List Int} {v : V} {R : List Int × V → Prop} (nd : (ps.map (·.1)).Nodup) (h : ∀ p ∈ ps, R p) (hr : R (k, v)) :
    ∃ qs, putK (dOf ps) (kI k) v = dOf qs ∧ (qs.map (·.1)).Nodup ∧ (∀ p ∈ qs, R p) ∧ qs.length ≤ ps.length + 1 := by
  unfold putK
  by_cases z : ((dOf ps).any fun kv => decide (kv.1 = kI k)) = true
  · rw [if_pos z]
    refine ⟨ps.map fun p => if p.1 = k then (p.1, v) else p, ?_, ?_, ?_, ?_⟩
    · unfold dOf
      rw [List.map_map, List.map_map]
      refine List.map_congr_left fun p _ => ?_
      show (if kI p.1 = kI k then (kI p.1, v) else (kI p.1, p.2)) = (kI (if p.1 = k then (p.1, v) else p).1, (if p.1 = k then (p.1, v) else p).2)
      by_cases e : p.1 = k
      · rw [if_pos (by rw [e]), if_pos e]
      · rw [if_neg (fun q => e (kI_inj q)), if_neg e]
    · have e : (ps.map fun p => if p.1 = k then (p.1, v) else p).map (·.1) = ps.map (·.1) := by
        rw [List.map_map]
        refine List.map_congr_left fun p _ => ?_
        show (if p.1 = k then (p.1, v) else p).1 = p.1
        by_cases e : p.1 = k
        · rw [if_pos e]
        · rw [if_neg e]
      rw [e]; exact nd
    · intro p hp
      obtain ⟨q, hq, rfl⟩ := List.mem_map.mp hp
      by_cases e : q.1 = k
      · rw [if_pos e, e]; exact hr
      · rw [if_neg e]; exact h q hq
    · rw [List.length_map]; omega
  · rw [if_neg z]
    refine ⟨ps ++ [(k, v)], ?_, ?_, ?_, ?_⟩
    · unfold dOf; rw [List.map_append]; rfl
    · rw [List.map_append, List.nodup_append]
      refine ⟨nd, by simp, fun a ha b hb => ?_⟩
      simp at hb
      subst hb
      intro e
      refine z ?_
      obtain ⟨p, hp, e2⟩ := List.mem_map.mp ha
      rw [List.any_eq_true]
      exact ⟨(kI p.1, p.2), List.mem_map.mpr ⟨p, hp, rfl⟩, decide_eq_true (by show kI p.1 = kI b; rw [e2, e])⟩
    · intro p hp
      rcases List.mem_append.mp hp with hp | hp
      · exact h p hp
      · rw [List.mem_singleton] at hp; rw [hp]; exact hr
    · rw [List.length_append]; exact Nat.le_refl _
theorem val_ps : ∀ {ps : List (List Int × V)} {k : List Int} {v : V}, (ps.map (·.1)).Nodup → (k, v) ∈ ps → valV (dOf ps) (kI k) = some v
  | [], _, _, _, h => nomatch h
  | p :: ps, k, v, nd, h => by
    rw [List.map_cons, List.nodup_cons] at nd
    rcases List.mem_cons.mp h with h | h
    · show valV ((kI p.1, p.2) :: dOf ps) (kI k) = some v
      rw [valV_pos (by show kI p.1 = kI k; rw [← h]), ← h]
    · show valV ((kI p.1, p.2) :: dOf ps) (kI k) = some v
      rw [valV_neg (fun z => nd.1 (List.mem_map.mpr ⟨(k, v), h, (kI_inj z).symm⟩))]
      exact val_ps nd.2 h
/-! rows, in another order -/
def intO : V → Int
  | .int i => i
  | _ => 0
def rowO (H : Hp) : V → List Int
  | .ref b => match H b with
    | some (.tup xs) => xs.map intO
    | _ => []
  | _ => []
theorem rowO_ints {H : Hp} {b : Addr} {ns : List Int} (h : H b = some (.tup (ns.map V.int))) : rowO H (.ref b) = ns := by
  show (match H b with | some (.tup xs) => xs.map intO | _ => []) = ns
  rw [h]
  show (ns.map V.int).map intO = ns
  rw [List.map_map]
  exact List.map_id _
theorem rows_map {H : Hp} {rs : List V} {xss : List (List Int)} (h : Rows H rs xss) : rs.map (rowO H) = xss := by
  refine List.ext_getElem? fun i => ?_
  rw [List.getElem?_map]
  cases z : rs[i]? with
  | none =>
    rw [List.getElem?_eq_none_iff] at z
    rw [h.1] at z
    rw [List.getElem?_eq_none z]; rfl
  | some v =>
    obtain ⟨b, ns, rfl, e1, e2⟩ := h.get z
    rw [e1]
    show some (rowO H (V.ref b)) = some ns
    rw [rowO_ints e2]
theorem rows_perm {H : Hp} {rs ys : List V} {xss : List (List Int)} (h : Rows H rs xss) (p : ys.Perm rs) : Rows H ys (ys.map (rowO H)) ∧ (ys.map (rowO H)).Perm xss := by
  refine ⟨⟨by rw [List.length_map], fun i ns e => ?_⟩, by rw [← rows_map h]; exact p.map _⟩
  rw [List.getElem?_map] at e
  cases z : ys[i]? with
  | none => rw [z] at e; cases e
  | some y =>
    rw [z] at e
    have hy : y ∈ rs := p.mem_iff.mp (List.mem_of_getElem? z)
    obtain ⟨j, hj⟩ := List.mem_iff_getElem?.mp hy
    obtain ⟨b, ms, rfl, e1, e2⟩ := h.get hj
    have e3 : rowO H (V.ref b) = ns := Option.some.inj e
    rw [rowO_ints e2] at e3
    exact ⟨b, rfl, by rw [← e3]; exact e2⟩
theorem code_lexLt {B : Int} : ∀ {a b : List Int}, a.length = b.length → TS.Bd B a → TS.Bd B b → TS.code B a ≤ TS.code B b → a ≠ b → HT.lexLt a b = true
  | [], [], _, _, _, _, h => absurd rfl h
  | [], _ :: _, h, _, _, _, _ => nomatch h
  | _ :: _, [], h, _, _, _, _ => nomatch h
  | x :: a, y :: b, hl, ha, hb, hc, hn => by
    have hl2 : a.length = b.length := by simpa using hl
    rw [HT.lexLt_cons]
    by_cases e : x = y
    · rw [if_pos e]
      subst e
      refine code_lexLt hl2 ha.tail hb.tail (Int.not_lt.mp fun z => ?_) fun z => hn (by rw [z])
      have := (TS.code_same (B := B) (d := x) hl2.symm).mpr z
      omega
    · rw [if_neg e]
      refine decide_eq_true ?_
      by_cases z : x < y
      · exact z
      · have := TS.code_lt (B := B) (d := y) (e := x) hl2.symm hb.tail ha.tail (by omega)
        omega
theorem rising_of {ks : List (List Int)} (h : ∀ i a b, ks[i]? = some a → ks[i + 1]? = some b → HT.lexLt a b = true) : rising ks = true := by
  unfold rising
  rw [List.all_eq_true]
  intro i hi
  rw [List.mem_range] at hi
  rw [List.getElem?_eq_getElem (by omega : i < ks.length), List.getElem?_eq_getElem (by omega : i + 1 < ks.length)]
  exact h i _ _ (List.getElem?_eq_getElem _) (List.getElem?_eq_getElem _)
theorem pair_next {α : Type} {R : α → α → Prop} : ∀ {xs : List α} {i : Nat} {a b : α}, xs.Pairwise R → xs[i]? = some a → xs[i + 1]? = some b → R a b
  | [], _, _, _, _, h, _ => by simp at h
  | x :: xs, 0, a, b, p, h1, h2 => by
    simp at h1 h2; subst h1
    exact (List.pairwise_cons.mp p).1 b (List.mem_of_getElem? h2)
  | x :: xs, i + 1, a, b, p, h1, h2 => pair_next (List.pairwise_cons.mp p).2 (by simpa using h1) (by simpa using h2)
end LC
namespace LC
variable [Tbl]
open PySem PySem.Spec PyProof.Rows L2
theorem sorted_rows {K : PySem.W.Frag} {H : Hp} {a : Addr} {xs : List V} {kss : List (List Int)} {Q : VK} {d : Nat} {B : Int} (hs : SqL K H a xs) (hl : xs.length < 64) (hr : Rows H xs kss) (hd : ∀ k ∈ kss, k.length = d ∧ TS.Bd B k) (nd : kss.Nodup)
    (q : ∀ ys p ks, ks.Perm kss → Rows H ys ks → rising ks = true → H p = none → Q (.ref p) (upd H p (.lst ys))) : rSortU K d B [.ref a] H Q := by
  refine ⟨a, xs, rfl, hs, hl, fun x hx => ?_, fun ys p hp hw hn => ?_⟩
  · obtain ⟨i, hi⟩ := List.mem_iff_getElem?.mp hx
    obtain ⟨b, ns, rfl, e1, e2⟩ := hr.get hi
    obtain ⟨h1, h2⟩ := hd ns (List.mem_of_getElem? e1)
    exact ⟨ns, ⟨b, rfl, SqT.of e2⟩, h1, h2⟩
  · obtain ⟨r1, r2⟩ := rows_perm hr hp
    refine q ys p _ r2 r1 (rising_of fun i u v hu hv => ?_) hn
    rw [List.getElem?_map] at hu hv
    cases zu : ys[i]? with
    | none => rw [zu] at hu; cases hu
    | some yu =>
      cases zv : ys[i + 1]? with
      | none => rw [zv] at hv; cases hv
      | some yv =>
        rw [zu] at hu
        rw [zv] at hv
        have hu2 : rowO H yu = u := Option.some.inj hu
        have hv2 : rowO H yv = v := Option.some.inj hv
        have g1 := r1.get zu
        have g2 := r1.get zv
        obtain ⟨bu, nu, rfl, eu, tu⟩ := g1
        obtain ⟨bv, nv, rfl, ev, tv⟩ := g2
        rw [rowO_ints tu] at hu2
        rw [rowO_ints tv] at hv2
        subst hu2 hv2
        have mu := hd nu (r2.mem_iff.mp (List.mem_of_getElem? eu))
        have mv := hd nv (r2.mem_iff.mp (List.mem_of_getElem? ev))
        have hc := pair_next hw zu zv nu nv ⟨bu, rfl, SqT.of tu⟩ ⟨bv, rfl, SqT.of tv⟩
        refine code_lexLt (mu.1.trans mv.1.symm) mu.2 mv.2 hc fun z => ?_
        have nd2 : (ys.map (rowO H)).Nodup := r2.nodup_iff.mpr nd
        exact pair_next nd2 eu ev z
theorem keys_rows {H : Hp} : ∀ {ps : List (List Int × V)} {bs : List Addr}, IsKeys H (dOf ps) bs → Rows H (bs.map V.ref) (ps.map (·.1))
  | [], bs, h => by
    cases h
    exact Rows.nil
  | p :: ps, bs, h => by
    unfold IsKeys at h
    have e : dOf (p :: ps) = (kI p.1, p.2) :: dOf ps := rfl
    rw [e] at h
    cases h with
    | cons h1 h2 =>
      rename_i b bs
      have ih := keys_rows (ps := ps) (bs := bs) h2
      refine ⟨by rw [List.length_map, List.length_map, List.length_cons, List.length_cons]; have := ih.1; rw [List.length_map, List.length_map] at this; omega, fun i ns e => ?_⟩
      cases i with
      | zero =>
        simp at e; subst e
        have h3 : H b = some (.tup ((kI p.1).map kV)) := h1
        rw [kI_kV] at h3
        exact ⟨b, rfl, h3⟩
      | succ i =>
        obtain ⟨b2, h3, h4⟩ := ih.2 i ns (by simpa using e)
        exact ⟨b2, by simpa using h3, h4⟩
end LC
namespace LC
variable [Tbl]
open PySem L2
theorem upd_old {H : Hp} {a p : Addr} {o u : HO} (e : H a = some o) (h : H p = none) : upd H p u a = some o := by
  rw [upd_ne (fun z => by rw [z, h] at e; cases e)]; exact e
theorem ne_none {H : Hp} {a p : Addr} {o : HO} (e : H a = some o) (h : H p = none) : a ≠ p := fun z => by rw [z, h] at e; cases e
theorem RowAt.nn {K : PySem.W.Frag} {H : Hp} {row scr p : Addr} {ns : List Int} (h : RowAt K H row scr ns) (hp : H p = none) : p ≠ row := fun z => by
  obtain ⟨_, _, _, e, _⟩ := h.ex
  rw [← z, hp] at e; cases e
theorem RowAt.back {K : PySem.W.Frag} {H H2 : Hp} {row scr p : Addr} {ns : List Int} (h : RowAt K H2 row scr ns) (x : Xt (At1 row) H H2) (hp : H2 p = none) : H p = none := x.back (fun _ _ z => h.nn hp z) hp
end LC
-- L8
namespace LC
variable [Tbl]
open PySem PySem.Spec PyProof.Rows L2
theorem dp_ints {K : PySem.W.Frag} {H : Hp} : ∀ qs : List Int, DpAll K H (qs.map V.int) (qs.map PyData.int)
  | [] => .nil
  | q :: qs => .cons (.int q) (dp_ints qs)
theorem neD_nil {K : PySem.W.Frag} {H : Hp} {S T : Addr} {qs : List Int} {Q : VK} (h : H S = some (.lst (qs.map V.int))) (e : H T = some (.lst [])) (q : Q (.bl (!qs.isEmpty)) H) : rNeD K (.ref S) (.ref T) H Q := by
  refine ⟨.list (qs.map .int), .list [], .lst (SqL.of h) (dp_ints qs), .lst (SqL.of e) .nil, PySem.W.ke_shaped_ints qs, PySem.W.ke_shaped_ints [], ?_⟩
  cases qs with
  | nil => exact q
  | cons x xs => exact q
theorem neD_nilC {K : PySem.W.Frag} {H : Hp} {S T : Addr} {qs : List Int} {Q : VK} (h : H S = some (.lst (qs.map V.int))) (e : H T = some (.lst [])) (q : Q (.bl (!qs.isEmpty)) H) : (fun x H2 => rNeD K (.ref S) x H2 Q) (.ref T) H := neD_nil h e q
theorem Tk.trans {H H1 H2 : Hp} (a : Tk H H1) (b : Tk H1 H2) : Tk H H2 := fun x xs e => b x xs (a x xs e)
theorem tk_dt {H H1 : Hp} {p : Addr} {o : HO} {ys : List (List Key × V)} (t : Tk H H1) (h : H1 p = some (.dT ys)) : Tk H (upd H1 p o) := fun a xs e => by
  rw [upd_ne (fun z => by rw [z] at e; have := t _ _ e; rw [h] at this; cases this)]; exact t _ _ e
theorem rising_ints {g : List Int} (h : g.Pairwise (· < ·)) : rising (g.map fun x => [x]) = true := rising_of fun i a b ha hb => by
  rw [List.getElem?_map] at ha hb
  cases za : g[i]? with
  | none => rw [za] at ha; cases ha
  | some x =>
    cases zb : g[i + 1]? with
    | none => rw [zb] at hb; cases hb
    | some y =>
      rw [za] at ha; rw [zb] at hb
      cases ha; cases hb
      rw [lexLt_one]
      exact decide_eq_true (pair_next h za zb)
/-- the value at a key -/
def bval (bs : List (List Int × V)) (k : List Int) : Int := match valV (dOf bs) (kI k) with
  | some (.int b) => b
  | _ => 0
theorem bval_of {bs : List (List Int × V)} {k : List Int} {b : Int} (nd : (bs.map (·.1)).Nodup) (h : (k, V.int b) ∈ bs) : bval bs k = b := by
  unfold bval; rw [val_ps nd h]
theorem DGet.ps {H : Hp} {a r : Addr} {bs : List (List Int × V)} {k : List Int} {v : V} (e : H a = some (.dT (dOf bs))) (er : H r = some (.tup (k.map V.int))) (nd : (bs.map (·.1)).Nodup) (h : (k, v) ∈ bs) : DGet H a (.ref r) (some v) := by
  have := DGet.t (k := kI k) e (by rw [kI_kV]; exact er)
  rw [val_ps nd h] at this
  exact this
theorem tnil1 {σ : L2.St} {H : Hp} {F : List V → Hp → Prop} (h : F [] H) : tNil σ H F := h
theorem tc1 {σ : L2.St} {H : Hp} {v : V} {F : V → Hp → Prop} (h : F v H) : tC v σ H F := h
end LC
-- K17_d6
namespace K17
open PySem PySem.Spec PyProof.Rows L2 LC
variable [Tbl]
variable {P : Program} {w : World} {K : PySem.W.Frag} {mg : Str → Option Value} {base : Heap} {f c : Addr} {fd : FuncData} {Ts : List Addr} {TP : Addr}

@[reducible] def sgLC (row : Addr) (per wh mo en : Int) (x5 x6 x7 x8 x9 x10 x11 x12 x13 x14 : Option V) : L2.St := [some (.ref row), some (.int per), some (.int wh), some (.int mo), some (.int en), x5, x6, x7, x8, x9, x10, x11, x12, x13, x14, none, none, none]
def sp_low_clock (K : PySem.W.Frag) : Sp := fun vs H Q _ => ∃ (row scr : Addr) (ns : List Int) (per wh mo en : Int), vs = [.ref row, .int per, .int wh, .int mo, .int en] ∧ RowAt K H row scr ns ∧ 1 ≤ per ∧ per ≤ 12 ∧ 1 ≤ wh ∧ wh ≤ 6 ∧ 1 ≤ mo ∧ mo ≤ 4 ∧ 0 ≤ en ∧ en ≤ 12 ∧
  ∀ H' v k, Xt (At1 row) H H' → RowAt K H' row scr ns → ClkAt H' v k → k.Ok → Q v H'
def sp_low_clockX (K : PySem.W.Frag) : Sp := fun vs H Q _ => ∃ (row scr : Addr) (ns : List Int) (per wh mo en : Int), vs = [.ref row, .int per, .int wh, .int mo, .int en] ∧ RowAt K H row scr ns ∧ 1 ≤ per ∧ per ≤ 12 ∧ 1 ≤ wh ∧ wh ≤ 6 ∧ 1 ≤ mo ∧ mo ≤ 4 ∧ 0 ≤ en ∧ en ≤ 12 ∧
  ∀ H' v k, Xt (At1 row) H H' → RowAt K H' row scr ns → ClkAt H' v k → k.Ok → k.per = per → (k.eds.length : Int) = wh → Q v H'
theorem ok_law_low_clockX (T : Txt mg) (C_law_taken : Callee P w K mg base "_law_taken" 1 ["row", "many"] (sb_taken K)) (F : FunC K "_law_low_clock" s_law_low_clock f fd c) : FnOk P w K mg base CX0 2 f fd ["row", "period", "wheels", "most", "entries"] (sp_low_clockX K) := by
  refine F.ok sc_law_low_clock (fun vs H Q E h => ?_) (fun A outer s H vs Q E hr h => ⟨_, (pss_cons (ps_setLc (i := 5) (own := [("wheel", 15)]) rfl sc_law_low_clock.nd rfl rfl (sw_true rfl rfl rfl (by decide +kernel)) (pi_range1 (by rfl) T.g_range (pa_cons (pv 2) pa_nil)) (blkOk_by (N := N_law_low_clock) (sc := defScope s_law_low_clock) (own := [("wheel", 15)]) (by decide +kernel)) (fun _ _ _ _ _ => (pg_name (i := 15) sc_law_low_clock.nd rfl (Or.inl rfl))) (fun _ _ _ _ _ => pts_nil) (fun _ _ _ _ _ => (pe_callC C_law_taken hr (by rfl) (pa_cons (pv 0) (pa_cons (pe_op op_add (pv 3) pe_int) pa_nil)))))
    (pss_cons (ps_while PassesOwn.never (pt_cmpR op_gt (pe_callB (crK (K := K) rSumT (cr_sumT rfl) rfl) (by rfl) T.g_sum (by decide +kernel) (pa_cons (pv 5) pa_nil)) pe_int (nomark _)) (pss_one (ps_asg pe_int (pg_sub (pv 5) (pe_bm PySem.F.plainAttrs_list PySem.F.slot_list_index PySem.F.type_list_index mt_index (pv 5) (pa_cons (pe_callB (cr_max rfl) (by rfl) T.g_max (by decide +kernel) (pa_cons (pv 5) pa_nil)) pa_nil)) set_list))))
    (pss_cons (ps_set (i := 6) sc_law_low_clock.nd rfl (Or.inl rfl) pe_dnewT)
    (pss_cons (ps_for PassesOwn.never rfl (pi_range1 (by rfl) T.g_range (pa_cons (pe_callC C_law_taken hr (by rfl) (pa_cons (pv 0) (pa_cons (pe_op op_add pe_int (pe_op op_mul pe_int (pv 2))) pa_nil))) pa_nil)) (pg_name (i := 7) sc_law_low_clock.nd rfl (Or.inl rfl)) (pss_cons (ps_set (i := 12) sc_law_low_clock.nd rfl (Or.inl rfl) (pe_callC C_law_taken hr (by rfl) (pa_cons (pv 0) (pa_cons (pv 2) pa_nil))))
    (pss_cons (ps_set (i := 13) sc_law_low_clock.nd rfl (Or.inl rfl) (pe_callC C_law_taken hr (by rfl) (pa_cons (pv 0) (pa_cons (pv 2) pa_nil))))
    (pss_one (ps_if (pt_cmpR op_lt (pv 12) (pv 13) (nomark _)) (pss_one (ps_dput (hu_of hr) (pv 6) (pe_tup (pa_cons (pe_callC C_law_taken hr (by rfl) (pa_cons (pv 0) (pa_cons (pv 1) pa_nil))) (pa_cons (pv 12) (pa_cons (pv 13) pa_nil)))) pe_bl rfl)) pss_nil)))))
    (pss_cons (ps_set (i := 8) sc_law_low_clock.nd rfl (Or.inl rfl) (pe_lst pa_nil))
    (pss_cons (ps_for PassesOwn.never rfl (piK (K := K) iList (pi_list (pv 5)) rfl) (pg_name (i := 9) sc_law_low_clock.nd rfl (Or.inl rfl)) (pss_cons (ps_setLc (i := 14) (own := [("phase", 16)]) rfl sc_law_low_clock.nd rfl rfl (sw_true rfl rfl rfl (by decide +kernel)) (pi_range1 (by rfl) T.g_range (pa_cons (pv 1) pa_nil)) (blkOk_by (N := N_law_low_clock) (sc := defScope s_law_low_clock) (own := [("phase", 16)]) (by decide +kernel)) (fun _ _ _ _ _ => (pg_name (i := 16) sc_law_low_clock.nd rfl (Or.inl rfl))) (fun _ _ _ _ _ => (pts_one (pt_cmpR op_gt (pe_callC C_law_taken hr (by rfl) (pa_cons (pv 0) (pa_cons pe_int pa_nil))) pe_int (nomark _)))) (fun _ _ _ _ _ => (pv 16)))
    (pss_one (ps_expr (pe_bm PySem.F.plainAttrs_list PySem.F.slot_list_append PySem.F.type_list_append mt_append (pv 8) (pa_cons (pe_callTy (crK (K := K) rTupQ cr_tuple rfl) (by rfl) T.g_tuple (by decide +kernel) (pa_cons (pe_ifExp (pt_cmpR (op_neD hr.units) (pv 14) (pe_lst pa_nil) (nomark _)) (pv 14) (pe_lst (pa_cons (pe_callC C_law_taken hr (by rfl) (pa_cons (pv 0) (pa_cons (pv 1) pa_nil))) pa_nil))) pa_nil)) pa_nil))))))
    (pss_cons (ps_set (i := 10) sc_law_low_clock.nd rfl (Or.inr rfl) pe_dnewT)
    (pss_cons (ps_for PassesOwn.never rfl (pi_range1 (by rfl) T.g_range (pa_cons (pe_callC C_law_taken hr (by rfl) (pa_cons (pv 0) (pa_cons (pe_op op_add (pv 4) pe_int) pa_nil))) pa_nil)) (pg_name (i := 7) sc_law_low_clock.nd rfl (Or.inl rfl)) (pss_cons (ps_par (i := 12) (j := 13) rfl sc_law_low_clock.nd rfl rfl (by decide) rfl rfl (pa_cons (pe_callC C_law_taken hr (by rfl) (pa_cons (pv 0) (pa_cons (pv 2) pa_nil))) (pa_cons (pe_callC C_law_taken hr (by rfl) (pa_cons (pv 0) (pa_cons (pv 2) pa_nil))) pa_nil)) (by rfl))
    (pss_one (ps_if (PW.pt (pw_and (pt_cmpR op_ne (pv 12) (pv 13) (nomark _)) (pw_and (pt_cmpR op_gt (pe_ix (ixK (K := K) rIxL ix_list rfl) (pv 5) (pv 12) (fun _ _ => rfl)) pe_int (nomark _)) (pw_and1 (pt_cmpR op_gt (pe_ix (ixK (K := K) rIxL ix_list rfl) (pv 5) (pv 13) (fun _ _ => rfl)) pe_int (nomark _)))))) (pss_one (ps_dput (hu_of hr) (pv 10) (pe_tup (pa_cons (pv 12) (pa_cons (pe_op op_add pe_int (pe_callC C_law_taken hr (by rfl) (pa_cons (pv 0) (pa_cons (pe_ix (ixK (K := K) rIxL ix_list rfl) (pv 5) (pv 12) (fun _ _ => rfl)) pa_nil)))) (pa_cons (pv 13) pa_nil)))) (pe_op op_add pe_int (pe_callC C_law_taken hr (by rfl) (pa_cons (pv 0) (pa_cons (pe_ix (ixK (K := K) rIxL ix_list rfl) (pv 5) (pv 13) (fun _ _ => rfl)) pa_nil)))) rfl)) pss_nil))))
    (pss_cons (ps_set (i := 11) sc_law_low_clock.nd rfl (Or.inl rfl) (pe_callTy (crK (K := K) rTupQ cr_tuple rfl) (by rfl) T.g_tuple (by decide +kernel) (pa_cons (pe_lc (own := [("key", 17)]) rfl sc_law_low_clock.nd (piK (K := K) iList (pi_list (pe_callB (cr_sortT (d := 3) (B := 64) (by decide)) (by rfl) T.g_sorted (by decide +kernel) (pa_cons (pe_callTy (call_list_dT rfl) (by rfl) T.g_list (by decide +kernel) (pa_cons (pv 10) pa_nil)) pa_nil))) rfl) (blkOk_by (N := N_law_low_clock) (sc := defScope s_law_low_clock) (own := [("key", 17)]) (by decide +kernel)) (fun _ _ _ _ _ => (pg_name (i := 17) sc_law_low_clock.nd rfl (Or.inl rfl))) (fun _ _ _ _ _ => pts_nil) (fun _ _ _ _ _ => (pe_op (opK (K := K) rCatT op_catT rfl) (pv 17) (pe_tup (pa_cons (pe_dget (hu_of hr) (pv 10) (pv 17) (fun _ _ => rfl)) pa_nil))))) pa_nil)))
    (pss_one (ps_ret (pe_tup (pa_cons (pv 1) (pa_cons (pe_callTy (crK (K := K) rTupQ cr_tuple rfl) (by rfl) T.g_tuple (by decide +kernel) (pa_cons (pv 5) pa_nil)) (pa_cons (pe_callTy (crK (K := K) rTupQ cr_tuple rfl) (by rfl) T.g_tuple (by decide +kernel) (pa_cons (pe_callB (cr_sortT (d := 3) (B := 64) (by decide)) (by rfl) T.g_sorted (by decide +kernel) (pa_cons (pe_callTy (call_list_dT rfl) (by rfl) T.g_list (by decide +kernel) (pa_cons (pv 6) pa_nil)) pa_nil)) pa_nil)) (pa_cons (pe_callTy (crK (K := K) rTupQ cr_tuple rfl) (by rfl) T.g_tuple (by decide +kernel) (pa_cons (pv 8) pa_nil)) (pa_cons (pv 11) pa_nil))))))))))))))))), ?_⟩)
  · obtain ⟨row, scr, ns, per, wh, mo, en, rfl, _⟩ := h; rfl
  · obtain ⟨row, scr, ns, per, wh, mo, en, rfl, hR, p1, p2, w1, w2, mo1, mo2, en1, en2, q⟩ := h
    have hrow : H row ≠ none := by obtain ⟨_, _, _, e, _⟩ := hR.ex; rw [e]; exact fun z => by cases z
    have nerow : ∀ {p : Addr}, H p = none → p ≠ row := fun hp z => hrow (z ▸ hp)
    refine ⟨_, rfl, wh, rfl, by omega, by omega, fun E hE => ?_⟩
    refine lc_range (n := wh.toNat) (fun i H' => Xt (At1 row) H H' ∧ RowAt K H' row scr ns ∧ ∃ es : List Int, es.length = i ∧ (∀ e ∈ es, 0 ≤ e ∧ e ≤ 4) ∧ H' E = some (.lst (es.map V.int))) ⟨Xt.new hE, hR.x (Xt.new hE), [], rfl, (fun _ h => nomatch h), upd_same⟩ (fun i H' hi hp => ?_) (fun H' hp => ?_)
    · obtain ⟨hx, hR', es, hl, he, hD⟩ := hp
      refine ⟨rfl, yes_of ⟨_, rfl, _, rfl, _, _, rfl, rfl, row, scr, ns, mo + 1, rfl, hR', by omega, by omega, fun H2 n n0 n1 x2 hR2 => ?_⟩⟩
      have hD2 : H2 E = some (.lst (es.map V.int)) := x2.keep E _ (nerow hE) (fun _ z => by cases z) hD
      refine ⟨_, hD2, sz_lt (by rw [List.length_map]; omega), (hx.trans x2).young hE, hR.yo ((hx.trans x2).young hE) hR2 (nerow hE), es ++ [n], by rw [List.length_append, hl]; rfl, fun e h => ?_, by rw [upd_same, List.map_append]; rfl⟩
      rw [List.mem_append] at h
      rcases h with h | h
      · exact he e h
      · rw [List.mem_singleton] at h; subst h; exact ⟨n0, by omega⟩
    · obtain ⟨hx, hR', es, hl, he, hD⟩ := hp
      have hel : (es.length : Int) = wh := by omega
      refine while_by (fun σ H2 => σ = sgLC row per wh mo en (some (.ref E)) none none none none none none none none none ∧ Xt (At1 row) H H2 ∧ RowAt K H2 row scr ns ∧ ∃ es : List Int, (es.length : Int) = wh ∧ (∀ e ∈ es, 0 ≤ e ∧ e ≤ 4) ∧ H2 E = some (.lst (es.map V.int))) (fun _ H2 => msr E H2) ⟨rfl, hx, hR', es, hel, he, hD⟩ ?_ ?_
      · rintro σ H2 ⟨rfl, hx2, hR2, es2, hl2, he2, hD2⟩
        refine ⟨_, rfl, E, es2, rfl, .inr (SqL.of hD2), _, _, rfl, rfl, _, rfl, ?_⟩
        by_cases c1 : es2.sum > (12 : Int)
        · rw [decide_eq_true c1]
          refine iteT ⟨_, rfl, _, rfl, .inl ⟨rfl, _, SqL.of hD2⟩, _, rfl, E, es2, rfl, SqL.of hD2, by omega, fun m hm hmax => ?_⟩
          obtain ⟨j, hj, hj2⟩ := first_ix hm
          have hjl : j < es2.length := (List.getElem?_eq_some_iff.mp hj).1
          have m0 : 0 < m := by
            by_cases z : 0 < m
            · exact z
            · have := sum_pos_max hmax (by omega); omega
          refine ⟨E, es2.map V.int, .int m, j, .int m, rfl, rfl, SqL.of hD2, rfl, ?_, by rw [List.getElem?_map, hj]; rfl, by show (m == m) = true; exact beq_self_eq_true m, fun i z hi hz => ?_, ?_⟩
          · rw [List.all_map, List.all_eq_true]; exact fun _ _ => rfl
          · rw [List.getElem?_map] at hz
            cases ez : es2[i]? with
            | none => rw [ez] at hz; cases hz
            | some y =>
              rw [ez] at hz; cases hz
              show (y == m) = false
              exact beq_eq_false_iff_ne.mpr (hj2 i y hi ez)
          have hE3 : upd H2 E (.lst ((es2.map V.int).set j (.int 0))) E = some (.lst ((es2.set j 0).map V.int)) := by rw [upd_same, List.map_set]
          have x3 : Xt (At1 row) H (upd H2 E (.lst ((es2.map V.int).set j (.int 0)))) := hx2.young hE
          refine ⟨E, _, _, j, rfl, rfl, hD2, ?_, ⟨rfl, x3, hR.yo x3 hR2 (nerow hE), es2.set j 0, by rw [List.length_set]; exact hl2, mem_set0 he2, hE3⟩, ?_⟩
          · rw [List.length_map]; unfold ixN; rw [if_pos (by omega), if_pos (by omega), Int.toNat_natCast]
          · rw [msr_of hE3, msr_of hD2]
            have := set_sum hj; omega
        · rw [decide_eq_false c1]
          refine iteF ?_
          refine fun TD hTD => ?_
          have hET : E ≠ TD := ne_none hD2 hTD
          have hTD0 : H TD = none := hR2.back hx2 hTD
          refine ⟨_, rfl, _, rfl, _, _, rfl, rfl, .inl ⟨by decide, by decide⟩, _, _, rfl, rfl, row, scr, ns, 2 + 2 * wh, rfl, hR2.x (Xt.new hTD), by omega, by omega, fun H3 nt nt0 nt1 x3 hR3 => ⟨nt, rfl, by omega, by omega, ?_⟩⟩
          have hE3 : H3 E = some (.lst (es2.map V.int)) := x3.keep E _ (nerow hE) (fun _ z => by cases z) (upd_old hD2 hTD)
          have hT3 : H3 TD = some (.dT (dOf [])) := x3.keep TD _ (nerow hTD0) (fun _ z => by cases z) upd_same
          have hx3 : Xt (At1 row) H H3 := (hx2.trans (Xt.new hTD)).trans x3
          clear x3
          refine for_range (n := nt.toNat) (fun i σ H' => ∃ tu o1 o2, σ = sgLC row per wh mo en (some (.ref E)) (some (.ref TD)) tu none none none none o1 o2 none ∧ Xt (At1 row) H H' ∧ RowAt K H' row scr ns ∧ H' E = some (.lst (es2.map V.int)) ∧ ∃ ps : List (List Int × V), H' TD = some (.dT (dOf ps)) ∧ (ps.map (·.1)).Nodup ∧ (∀ p ∈ ps, TchOk per es2 p.1) ∧ ps.length ≤ i) ⟨_, _, _, rfl, hx3, hR3, hE3, [], hT3, List.nodup_nil, (fun _ h => nomatch h), Nat.le_refl _⟩ (fun i σ H' hi hp => ?_) (fun σ H' hp => ?_)
          · obtain ⟨tu, o1, o2, rfl, hx, hRr, hEe, ps, hTt, nd, hok, hle⟩ := hp
            refine ⟨_, rfl, _, rfl, row, scr, ns, wh, rfl, hRr, by omega, by omega, fun H4 a a0 a1 x4 hR4 => ?_⟩
            refine ⟨_, rfl, _, rfl, row, scr, ns, wh, rfl, hR4, by omega, by omega, fun H5 b b0 b1 x5 hR5 => ?_⟩
            have x45 := x4.trans x5
            have hE5 := x45.keep E _ (nerow hE) (fun _ z => by cases z) hEe
            have hT5 := x45.keep TD _ (nerow hTD0) (fun _ z => by cases z) hTt
            refine ⟨_, rfl, _, rfl, _, _, rfl, rfl, _, rfl, ?_⟩
            by_cases c2 : a < b
            · rw [decide_eq_true c2]
              refine iteT ⟨_, rfl, _, rfl, _, rfl, row, scr, ns, per, rfl, hR5, by omega, by omega, fun H6 p p0 p1' x6 hR6 => ⟨_, rfl, _, rfl, by show 3 ≤ sizeLine; decide, fun kt hkt => ?_⟩⟩
              have x456 := x45.trans x6
              have hE6 := x456.keep E _ (nerow hE) (fun _ z => by cases z) hEe
              have hT6 := x456.keep TD _ (nerow hTD0) (fun _ z => by cases z) hTt
              have hT7 : upd H6 kt (.tup [.int p, .int a, .int b]) TD = some (.dT (dOf ps)) := upd_old hT6 hkt
              obtain ⟨qs, eq, nd', ok', le'⟩ := put_ps (k := [p, a, b]) (v := .bl true) (R := fun p => TchOk per es2 p.1) nd hok ⟨p, a, b, rfl, p0, p1', a0, c2, by omega⟩
              refine ⟨TD, _, rfl, DPut.t (k := kI [p, a, b]) hT7 upd_same (sz_lt (by unfold dOf; rw [List.length_map]; omega)), ?_⟩
              rw [eq]
              have x7 : Xt (At1 row) H (upd (upd H6 kt (.tup [.int p, .int a, .int b])) TD (.dT (dOf qs))) := ((hx.trans x456).trans (Xt.new hkt)).young hTD0
              exact ⟨_, _, _, rfl, x7, hR.yo x7 (hR6.x (Xt.new hkt)) (nerow hTD0), by rw [upd_ne hET]; exact upd_old hE6 hkt, qs, upd_same, nd', ok', by omega⟩
            · rw [decide_eq_false c2]
              refine iteF ⟨_, _, _, rfl, hx.trans x45, hR5, hE5, ps, hT5, nd, hok, by omega⟩
          · obtain ⟨tu, o1, o2, rfl, hx, hRr, hEe, ps, hTt, nd, hok, hle⟩ := hp
            have hps : ps.length < 64 := by omega
            refine ⟨by show 0 ≤ sizeLine; decide, fun G hG => ?_⟩
            have hG0 : H G = none := hRr.back hx hG
            have hEG : E ≠ G := ne_none hEe hG
            have hTG : TD ≠ G := ne_none hTt hG
            refine ⟨_, rfl, E, rfl, ⟨_, SqL.of (upd_old hEe hG)⟩, ?_⟩
            refine for_list (xs := es2.map V.int) (fun i σ H' => ∃ la so, σ = sgLC row per wh mo en (some (.ref E)) (some (.ref TD)) tu (some (.ref G)) la none none o1 o2 so ∧ Xt (At1 row) H H' ∧ RowAt K H' row scr ns ∧ H' E = some (.lst (es2.map V.int)) ∧ H' TD = some (.dT (dOf ps)) ∧ ∃ gs gps, H' G = some (.lst gs) ∧ Rows H' gs gps ∧ gps.length = i ∧ ∀ g ∈ gps, g ≠ [] ∧ g.length ≤ 12 ∧ g.Pairwise (· < ·) ∧ ∀ x ∈ g, 0 ≤ x ∧ x < per) ⟨_, _, rfl, hx.trans (Xt.new hG), hRr.x (Xt.new hG), upd_old hEe hG, upd_old hTt hG, [], [], upd_same, Rows.nil, rfl, fun _ h => nomatch h⟩ (fun i σ H' _ hp => ?_) (fun i x σ H' ex hp => ?_) (fun σ H' hp => ?_)
            · obtain ⟨la, so, rfl, h1, h2, h3, h4⟩ := hp
              exact SqL.of h3
            · obtain ⟨la, so, rfl, hx, hRr, hEe, hTt, gs, gps, hGg, hGr, hGl, hGo⟩ := hp
              have hil : i < es2.length := by have := (List.getElem?_eq_some_iff.mp ex).1; rw [List.length_map] at this; exact this
              refine ⟨_, rfl, per, rfl, by omega, by omega, fun S hS => ?_⟩
              have hS0 : H S = none := hRr.back hx hS
              have hES : E ≠ S := ne_none hEe hS
              have hTS : TD ≠ S := ne_none hTt hS
              have hGS : G ≠ S := ne_none hGg hS
              refine lc_range (n := per.toNat) (fun j H2 => Xt (At1 row) H' H2 ∧ RowAt K H2 row scr ns ∧ ∃ qs : List Int, H2 S = some (.lst (qs.map V.int)) ∧ qs.length ≤ j ∧ qs.Pairwise (· < ·) ∧ ∀ x ∈ qs, 0 ≤ x ∧ x < (j : Int)) ⟨Xt.new hS, hRr.x (Xt.new hS), [], upd_same, Nat.le_refl _, List.Pairwise.nil, fun _ h => nomatch h⟩ (fun j H2 hj hp => ?_) (fun H2 hp => ?_)
              · obtain ⟨hx2, hR2, qs, hSq, hql, hqp, hqb⟩ := hp
                refine ⟨rfl, ⟨_, rfl, row, scr, ns, 3, rfl, hR2, by decide, by decide, fun H3 n n0 n1 x3 hR3 => ⟨_, _, rfl, rfl, _, rfl, ?_⟩⟩⟩
                have hS3 := x3.keep S _ (nerow hS0) (fun _ z => by cases z) hSq
                by_cases c3 : n > 0
                · rw [decide_eq_true c3]
                  have x4 : Xt (At1 row) H' (upd H3 S (.lst (qs.map V.int ++ [.int (0 + (j : Int))]))) := (hx2.trans x3).young hS
                  refine iteT ⟨_, rfl, _, hS3, sz_lt (by rw [List.length_map]; omega), x4, hRr.yo x4 hR3 (nerow hS0), qs ++ [(j : Int)], by rw [upd_same, List.map_append, Int.zero_add]; rfl, by rw [List.length_append]; exact Nat.succ_le_succ hql, ?_, fun y hy => ?_⟩
                  · rw [List.pairwise_append]
                    refine ⟨hqp, List.pairwise_singleton _ _, fun u hu v hv => ?_⟩
                    rw [List.mem_singleton] at hv; subst hv
                    exact (hqb u hu).2
                  · rcases List.mem_append.mp hy with hy | hy
                    · have := hqb y hy; omega
                    · rw [List.mem_singleton] at hy; omega
                · rw [decide_eq_false c3]
                  exact iteF ⟨hx2.trans x3, hR3, qs, hS3, by omega, hqp, fun y hy => by have := hqb y hy; omega⟩
              · obtain ⟨hx2, hR2, qs, hSq, hql, hqp, hqb⟩ := hp
                have hE2 := hx2.keep E _ (nerow hE) (fun _ z => by cases z) hEe
                have hT2 := hx2.keep TD _ (nerow hTD0) (fun _ z => by cases z) hTt
                have hG2 := hx2.keep G _ (nerow hG0) (fun _ z => by cases z) hGg
                have hgl : gs.length = i := hGr.1.trans hGl
                refine ⟨_, rfl, .inl ⟨rfl, _, SqL.of hG2⟩, _, rfl, by show 0 ≤ sizeLine; decide, fun e he => neD_nil (upd_old hSq he) upd_same ⟨_, rfl, ?_⟩⟩
                have fin : ∀ (H5 : Hp) (l : Addr) (g : List Int), Xt (At1 row) H2 H5 → RowAt K H5 row scr ns → H5 l = none → g ≠ [] → g.length ≤ 12 → g.Pairwise (· < ·) → (∀ x ∈ g, 0 ≤ x ∧ x < per) → ∃ H6, H6 = upd H5 l (.tup (g.map V.int)) ∧ H6 G = some (.lst gs) ∧ gs.length < sizeLine ∧ Xt (At1 row) H (upd H6 G (.lst (gs ++ [V.ref l]))) ∧ RowAt K (upd H6 G (.lst (gs ++ [V.ref l]))) row scr ns ∧ upd H6 G (.lst (gs ++ [V.ref l])) E = some (.lst (es2.map V.int)) ∧ upd H6 G (.lst (gs ++ [V.ref l])) TD = some (.dT (dOf ps)) ∧ ∃ gs' gps', upd H6 G (.lst (gs ++ [V.ref l])) G = some (.lst gs') ∧ Rows (upd H6 G (.lst (gs ++ [V.ref l]))) gs' gps' ∧ gps'.length = i + 1 ∧ ∀ g ∈ gps', g ≠ [] ∧ g.length ≤ 12 ∧ g.Pairwise (· < ·) ∧ ∀ x ∈ g, 0 ≤ x ∧ x < per := fun H5 l g x5 hR5 hl g1 g2 g3 g4 => by
                  have hG5 := x5.keep G _ (nerow hG0) (fun _ z => by cases z) hG2
                  have hE5 := x5.keep E _ (nerow hE) (fun _ z => by cases z) hE2
                  have hT5 := x5.keep TD _ (nerow hTD0) (fun _ z => by cases z) hT2
                  have hG6 : upd H5 l (.tup (g.map V.int)) G = some (.lst gs) := upd_old hG5 hl
                  have x6 : Xt (At1 row) H (upd (upd H5 l (.tup (g.map V.int))) G (.lst (gs ++ [V.ref l]))) := (((hx.trans hx2).trans x5).trans (Xt.new hl)).young hG0
                  refine ⟨_, rfl, hG6, sz_lt (by have := es2.length; omega), x6, hR.yo x6 (hR5.x (Xt.new hl)) (nerow hG0), by rw [upd_ne hEG]; exact upd_old hE5 hl, by rw [upd_ne hTG]; exact upd_old hT5 hl, _, gps ++ [g], upd_same, ?_, by rw [List.length_append, hGl]; rfl, fun y hy => ?_⟩
                  · exact ((hGr.mono (hx2.tups)).mono (Tk.lst (Tk.new x5.tups hl) hG6)).snoc (by rw [upd_ne (Ne.symm (ne_none hG5 hl)), upd_same])
                  · rcases List.mem_append.mp hy with hy | hy
                    · exact hGo y hy
                    · rw [List.mem_singleton] at hy; subst hy; exact ⟨g1, g2, g3, g4⟩
                cases hz : qs.isEmpty with
                | false =>
                  refine iteT ⟨_, rfl, S, _, rfl, .inl ⟨SqL.of (upd_old hSq he), fun l hl => ?_⟩⟩
                  obtain ⟨H6, rfl, f1, f2, f3⟩ := fin _ l qs (Xt.new he) (hR2.x (Xt.new he)) hl (fun z => by rw [z] at hz; cases hz) (by omega) hqp (fun y hy => by have := hqb y hy; omega)
                  exact ⟨G, gs, _, rfl, rfl, f1, f2, _, _, rfl, f3⟩
                | true =>
                  refine iteF ⟨_, rfl, _, rfl, row, scr, ns, per, rfl, hR2.x (Xt.new he), by omega, by omega, fun H3 n n0 n1 x3 hR3 => ⟨by show 1 ≤ sizeLine; decide, fun l1 hl1 => ⟨l1, _, rfl, .inl ⟨SqL.of upd_same, fun l hl => ?_⟩⟩⟩⟩
                  obtain ⟨H6, e6, f1, f2, f3⟩ := fin _ l [n] (((Xt.new he).trans x3).trans (Xt.new hl1)) (hR3.x (Xt.new hl1)) hl (by simp) (by show 1 ≤ 12; decide) (List.pairwise_singleton _ _) (fun y hy => by rw [List.mem_singleton] at hy; omega)
                  subst e6
                  exact ⟨G, gs, _, rfl, rfl, f1, f2, _, _, rfl, f3⟩
            · obtain ⟨la, so, rfl, hx, hRr, hEe, hTt, gs, gps, hGg, hGr, hGl, hGo⟩ := hp
              rw [List.length_map] at hGl
              refine fun BD hBD => ?_
              have hBD0 : H BD = none := hRr.back hx hBD
              have hEB : E ≠ BD := ne_none hEe hBD
              have hTB : TD ≠ BD := ne_none hTt hBD
              have hGB : G ≠ BD := ne_none hGg hBD
              refine ⟨_, rfl, _, rfl, _, _, rfl, rfl, row, scr, ns, en + 1, rfl, hRr.x (Xt.new hBD), by omega, by omega, fun H3 nb nb0 nb1 x3 hR3 => ⟨nb, rfl, by omega, by omega, ?_⟩⟩
              refine for_range (n := nb.toNat) (fun i σ H' => ∃ tu o1 o2, σ = sgLC row per wh mo en (some (.ref E)) (some (.ref TD)) tu (some (.ref G)) la (some (.ref BD)) none o1 o2 so ∧ Xt (At1 row) H H' ∧ RowAt K H' row scr ns ∧ H' E = some (.lst (es2.map V.int)) ∧ H' TD = some (.dT (dOf ps)) ∧ H' G = some (.lst gs) ∧ Rows H' gs gps ∧ ∃ bs : List (List Int × V), H' BD = some (.dT (dOf bs)) ∧ (bs.map (·.1)).Nodup ∧ (∀ p ∈ bs, ∃ i a j b : Int, p = ([i, a, j], V.int b) ∧ BokOk es2 [i, a, j, b]) ∧ bs.length ≤ i) ⟨_, _, _, rfl, (hx.trans (Xt.new hBD)).trans x3, hR3, x3.keep E _ (nerow hE) (fun _ z => by cases z) (upd_old hEe hBD), x3.keep TD _ (nerow hTD0) (fun _ z => by cases z) (upd_old hTt hBD), x3.keep G _ (nerow hG0) (fun _ z => by cases z) (upd_old hGg hBD), (hGr.mono (Tk.refl.new hBD)).mono x3.tups, [], x3.keep BD _ (nerow hBD0) (fun _ z => by cases z) upd_same, List.nodup_nil, (fun _ h => nomatch h), Nat.le_refl _⟩ (fun i σ H' hi hp => ?_) (fun σ H' hp => ?_)
              · obtain ⟨tu, o1, o2, rfl, hx, hRr, hEe, hTt, hGg, hGr, bs, hBb, bnd, bok, ble⟩ := hp
                refine ⟨_, rfl, _, rfl, row, scr, ns, wh, rfl, hRr, by omega, by omega, fun H4 a a0 a1 x4 hR4 => ?_⟩
                refine ⟨_, rfl, _, rfl, row, scr, ns, wh, rfl, hR4, by omega, by omega, fun H5 b b0 b1 x5 hR5 => ⟨_, _, rfl, ?_⟩⟩
                have x45 := x4.trans x5
                have hE5 := x45.keep E _ (nerow hE) (fun _ z => by cases z) hEe
                have hT5 := x45.keep TD _ (nerow hTD0) (fun _ z => by cases z) hTt
                have hG5 := x45.keep G _ (nerow hG0) (fun _ z => by cases z) hGg
                have hB5 := x45.keep BD _ (nerow hBD0) (fun _ z => by cases z) hBb
                have hGr5 := hGr.mono x45.tups
                have hla : a.toNat < es2.length := by omega
                have hlb : b.toNat < es2.length := by omega
                obtain ⟨ea, hea⟩ : ∃ z, es2[a.toNat]? = some z := ⟨_, List.getElem?_eq_getElem hla⟩
                obtain ⟨eb, heb⟩ : ∃ z, es2[b.toNat]? = some z := ⟨_, List.getElem?_eq_getElem hlb⟩
                have hva : (es2.map V.int)[a.toNat]? = some (.int ea) := by rw [List.getElem?_map, hea]; rfl
                have hvb : (es2.map V.int)[b.toNat]? = some (.int eb) := by rw [List.getElem?_map, heb]; rfl
                have hoa := he2 ea (List.mem_of_getElem? hea)
                have hob := he2 eb (List.mem_of_getElem? heb)
                refine ⟨_, rfl, _, rfl, rfl, ?_⟩
                rw [deceq]
                refine ⟨_, rfl, ?_⟩
                by_cases c4 : a = b
                · rw [decide_eq_true c4]
                  exact iteF (iteF ⟨_, _, _, rfl, hx.trans x45, hR5, hE5, hT5, hG5, hGr5, bs, hB5, bnd, bok, by omega⟩)
                rw [decide_eq_false c4]
                refine iteT ⟨_, rfl, _, rfl, rixL a.toNat (SqL.of hE5) (by omega) hva ⟨_, _, rfl, rfl, _, rfl, ?_⟩⟩
                by_cases c5 : ea > 0
                rotate_left
                · rw [decide_eq_false c5]
                  exact iteF (iteF ⟨_, _, _, rfl, hx.trans x45, hR5, hE5, hT5, hG5, hGr5, bs, hB5, bnd, bok, by omega⟩)
                rw [decide_eq_true c5]
                refine iteT ⟨_, rfl, _, rfl, rixL b.toNat (SqL.of hE5) (by omega) hvb ⟨_, _, rfl, rfl, _, rfl, ?_⟩⟩
                by_cases c6 : eb > 0
                rotate_left
                · rw [decide_eq_false c6]
                  exact iteF ⟨_, _, _, rfl, hx.trans x45, hR5, hE5, hT5, hG5, hGr5, bs, hB5, bnd, bok, by omega⟩
                rw [decide_eq_true c6]
                refine iteT ⟨_, rfl, _, rfl, _, rfl, rixL b.toNat (SqL.of hE5) (by omega) hvb ⟨row, scr, ns, eb, rfl, hR5, by omega, by omega, fun H6 n n0 n1 x6 hR6 => ⟨_, _, rfl, rfl, ?_⟩⟩⟩
                have hE6 := x6.keep E _ (nerow hE) (fun _ z => by cases z) hE5
                refine ⟨_, rfl, _, rfl, _, rfl, _, rfl, _, rfl, rixL a.toNat (SqL.of hE6) (by omega) hva ⟨row, scr, ns, ea, rfl, hR6, by omega, by omega, fun H7 m m0 m1 x7 hR7 => ⟨_, _, rfl, rfl, _, rfl, by show 3 ≤ sizeLine; decide, fun kt hkt => ?_⟩⟩⟩
                have x47 := (x45.trans x6).trans x7
                have hE7 := x47.keep E _ (nerow hE) (fun _ z => by cases z) hEe
                have hT7 := x47.keep TD _ (nerow hTD0) (fun _ z => by cases z) hTt
                have hG7 := x47.keep G _ (nerow hG0) (fun _ z => by cases z) hGg
                have hB7 := x47.keep BD _ (nerow hBD0) (fun _ z => by cases z) hBb
                have hB8 : upd H7 kt (.tup [.int a, .int (1 + m), .int b]) BD = some (.dT (dOf bs)) := upd_old hB7 hkt
                obtain ⟨qs, eq, nd', ok', le'⟩ := put_ps (k := [a, 1 + m, b]) (v := .int (1 + n)) (R := fun p => ∃ i a j b : Int, p = ([i, a, j], V.int b) ∧ BokOk es2 [i, a, j, b]) bnd bok ⟨a, 1 + m, b, 1 + n, rfl, a, 1 + m, b, 1 + n, rfl, a0, by omega, b0, by omega, c4, by omega, by rw [hea]; show 1 + m ≤ ea; omega, by omega, by rw [heb]; show 1 + n ≤ eb; omega⟩
                refine ⟨BD, _, rfl, DPut.t (k := kI [a, 1 + m, b]) hB8 upd_same (sz_lt (by unfold dOf; rw [List.length_map]; omega)), ?_⟩
                rw [eq]
                have x9 : Xt (At1 row) H (upd (upd H7 kt (.tup [.int a, .int (1 + m), .int b])) BD (.dT (dOf qs))) := ((hx.trans x47).trans (Xt.new hkt)).young hBD0
                exact ⟨_, _, _, rfl, x9, hR.yo x9 (hR7.x (Xt.new hkt)) (nerow hBD0), by rw [upd_ne hEB]; exact upd_old hE7 hkt, by rw [upd_ne hTB]; exact upd_old hT7 hkt, by rw [upd_ne hGB]; exact upd_old hG7 hkt, hGr.mono (Tk.trans x47.tups (tk_dt (Tk.refl.new hkt) hB8)), qs, upd_same, nd', ok', by omega⟩
              · obtain ⟨tu2, o3, o4, rfl, hx, hRr, hEe, hTt, hGg, hGr, bs, hBb, bnd, bok, ble⟩ := hp
                have hbs : bs.length < 64 := by omega
                have bok3 : ∀ k ∈ bs.map (·.1), ∃ b, (k, V.int b) ∈ bs ∧ k.length = 3 ∧ TS.Bd 64 k ∧ BokOk es2 (k ++ [b]) := fun k hk => by
                  obtain ⟨p, hp, rfl⟩ := List.mem_map.mp hk
                  obtain ⟨i, a, j, b, rfl, hB⟩ := bok p hp
                  refine ⟨b, hp, rfl, fun m hm => ?_, hB⟩
                  obtain ⟨i', a', j', b', e, h1, h2, h3, h4, h5, h6, h7, h8, h9⟩ := hB
                  simp only [List.cons.injEq] at e
                  obtain ⟨rfl, rfl, rfl, rfl, _⟩ := e
                  have h7' : a ≤ 4 := by
                    cases z : es2[i.toNat]? with
                    | none => rw [z] at h7; have : a ≤ 0 := h7; omega
                    | some y => rw [z] at h7; have : a ≤ y := h7; have := he2 y (List.mem_of_getElem? z); omega
                  simp only [List.mem_cons, List.not_mem_nil, or_false] at hm
                  rcases hm with rfl | rfl | rfl
                  · exact ⟨by omega, by omega⟩
                  · exact ⟨by omega, by omega⟩
                  · exact ⟨by omega, by omega⟩
                refine ⟨_, rfl, BD, dOf bs, rfl, Rd.of hBb, fun L1 ad hL1 hK => ?_⟩
                have y1 : Xn H' (upd H' L1 (.lst (ad.map V.ref))) := Xt.new hL1
                refine tnil1 (sorted_rows (d := 3) (B := 64) (SqL.of upd_same) (by rw [(keys_rows hK).1, List.length_map]; omega) ((keys_rows hK).x y1) (fun k hk => ⟨(bok3 k hk).choose_spec.2.1, (bok3 k hk).choose_spec.2.2.1⟩) bnd fun ys L2' ks hper hrow hri hL2 => ?_)
                have y2 := y1.trans (Xt.new (o := .lst ys) hL2)
                refine ⟨L2', rfl, ⟨_, SqL.of upd_same⟩, fun D hD => ?_⟩
                have hysl : ys.length = ks.length := hrow.1
                have hksl : ks.length ≤ 13 := by rw [hper.length_eq, List.length_map]; omega
                have mem3 : ∀ k ∈ ks, (k, V.int (bval bs k)) ∈ bs ∧ k.length = 3 ∧ BokOk es2 (k ++ [bval bs k]) := fun k hk => by
                  obtain ⟨b, h1, h2, h3, h4⟩ := bok3 k (hper.mem_iff.mp hk)
                  rw [bval_of bnd h1]
                  exact ⟨h1, h2, h4⟩
                have hB2 := y2.keep BD _ (fun z => z) (fun _ z => by cases z) hBb
                refine lc_list (xs := ys) (fun n H2 => Xn (upd (upd H' L1 (.lst (ad.map V.ref))) L2' (.lst ys)) H2 ∧ ∃ acc, H2 D = some (.lst acc) ∧ Rows H2 acc ((ks.map fun k => k ++ [bval bs k]).take n)) ⟨Xt.new hD, [], upd_same, Rows.nil⟩ (fun n H2 _ hp => SqL.of (hp.1.keep L2' _ (fun z => z) (fun _ z => by cases z) upd_same)) (fun n x H2 ex hp => ?_) (fun H2 hp => ?_)
                · obtain ⟨hx2, acc, hD2, hrw2⟩ := hp
                  obtain ⟨r, k, rfl, e1, e2⟩ := hrow.get ex
                  obtain ⟨m1, m2, m3⟩ := mem3 k (List.mem_of_getElem? e1)
                  have e3 := (hx2.tups) _ _ ((Tk.refl.new hL2) _ _ e2)
                  have hB3 := hx2.keep BD _ (fun z => z) (fun _ z => by cases z) hB2
                  have hn : n < ks.length := (List.getElem?_eq_some_iff.mp e1).1
                  refine ⟨rfl, yes_of ⟨_, rfl, _, rfl, _, rfl, BD, _, rfl, DGet.ps hB3 e3 bnd m1, by show 1 ≤ sizeLine; decide, fun t1 ht1 => ?_⟩⟩
                  refine ⟨r, t1, _, _, rfl, rfl, SqT.of (upd_old e3 ht1), SqT.of upd_same, ?_, ?_, (fun z => nomatch z), fun _ t2 ht2 => ?_⟩
                  · intro z
                    have := congrArg List.length z
                    rw [List.length_map, m2] at this; cases this
                  · rw [List.length_map, m2]; show 4 ≤ sizeLine; decide
                  · have hD4 := upd_old (u := .tup (k.map V.int ++ [V.int (bval bs k)])) (upd_old (u := .tup [V.int (bval bs k)]) hD2 ht1) ht2
                    refine ⟨acc, hD4, sz_lt (by rw [hrw2.1, List.length_take]; omega), ((hx2.trans (Xt.new ht1)).trans (Xt.new ht2)).young hD, _, upd_same, ?_⟩
                    have e5 : (ks.map fun k => k ++ [bval bs k])[n]? = some (k ++ [bval bs k]) := by rw [List.getElem?_map, e1]; rfl
                    rw [take_snocE e5]
                    exact (hrw2.mono (((Tk.refl.new ht1).new ht2).lst hD4)).snoc (by rw [upd_ne (Ne.symm (ne_none (upd_old hD2 ht1) ht2)), upd_same, List.map_append]; rfl)
                · obtain ⟨hx2, acc, hD2, hrw2⟩ := hp
                  rw [hysl, List.take_of_length_le (by rw [List.length_map]; exact Nat.le_refl _)] at hrw2
                  refine ⟨D, acc, rfl, .inl ⟨SqL.of hD2, fun eT heT => ?_⟩⟩
                  have z1 := (y2.trans hx2).trans (Xt.new (o := .tup acc) heT)
                  have hrw3 := hrw2.mono (Tk.refl.new (o := .tup acc) heT)
                  have heT1 : upd H2 eT (.tup acc) eT = some (.tup acc) := upd_same
                  generalize upd H2 eT (.tup acc) = A1 at z1 hrw3 heT1
                  have hEe := z1.keep E _ (fun z => z) (fun _ z => by cases z) hEe
                  have hTt := z1.keep TD _ (fun z => z) (fun _ z => by cases z) hTt
                  have hGg := z1.keep G _ (fun z => z) (fun _ z => by cases z) hGg
                  have hGr := hGr.x z1
                  refine ⟨_, rfl, _, rfl, E, _, rfl, .inl ⟨SqL.of hEe, fun e1 he1 => ?_⟩⟩
                  refine ⟨_, rfl, TD, dOf ps, rfl, Rd.of (upd_old hTt he1), fun L3 ad3 hL3 hK3 => ?_⟩
                  have w1 : Xn A1 (upd (upd A1 e1 (.tup (es2.map V.int))) L3 (.lst (ad3.map V.ref))) := (Xt.new he1).trans (Xt.new hL3)
                  have tch3 : ∀ k ∈ ps.map (·.1), k.length = 3 ∧ TS.Bd 64 k ∧ TchOk per es2 k := fun k hk => by
                    obtain ⟨p, hp, rfl⟩ := List.mem_map.mp hk
                    have hB := hok p hp
                    obtain ⟨a, b, c, e, h1, h2, h3, h4, h5⟩ := id hB
                    rw [e]
                    rw [e] at hB
                    refine ⟨rfl, fun m hm => ?_, hB⟩
                    simp only [List.mem_cons, List.not_mem_nil, or_false] at hm
                    rcases hm with rfl | rfl | rfl
                    · exact ⟨by omega, by omega⟩
                    · exact ⟨by omega, by omega⟩
                    · exact ⟨by omega, by omega⟩
                  refine tnil1 (sorted_rows (d := 3) (B := 64) (SqL.of upd_same) (by rw [(keys_rows hK3).1, List.length_map]; omega) ((keys_rows hK3).x (Xt.new (S := No) hL3)) (fun k hk => ⟨(tch3 k hk).1, (tch3 k hk).2.1⟩) nd fun ys3 L4' ks3 hper3 hrow3 hri3 hL4 => ?_)
                  have w2 := w1.trans (Xt.new (o := .lst ys3) hL4)
                  refine ⟨L4', ys3, rfl, .inl ⟨SqL.of upd_same, fun t1 ht1 => ?_⟩⟩
                  have w3 := w2.trans (Xt.new (o := .tup ys3) ht1)
                  have hr3 := (hrow3.mono (Tk.refl.new (o := .lst ys3) hL4)).mono (Tk.refl.new (o := .tup ys3) ht1)
                  have ht2 : upd (upd (upd (upd A1 e1 (.tup (es2.map V.int))) L3 (.lst (ad3.map V.ref))) L4' (.lst ys3)) t1 (.tup ys3) t1 = some (.tup ys3) := upd_same
                  have he2' : upd (upd (upd (upd A1 e1 (.tup (es2.map V.int))) L3 (.lst (ad3.map V.ref))) L4' (.lst ys3)) t1 (.tup ys3) e1 = some (.tup (es2.map V.int)) := upd_old (upd_old (upd_old upd_same hL3) hL4) ht1
                  generalize upd (upd (upd (upd A1 e1 (.tup (es2.map V.int))) L3 (.lst (ad3.map V.ref))) L4' (.lst ys3)) t1 (.tup ys3) = A2 at w3 hr3 ht2 he2'
                  refine ⟨_, rfl, G, gs, rfl, .inl ⟨SqL.of (w3.keep G _ (fun z => z) (fun _ z => by cases z) hGg), fun g1 hg1 => ?_⟩⟩
                  refine ⟨_, rfl, by show 5 ≤ sizeLine; decide, fun ct hct => ?_⟩
                  have w4 := (w3.trans (Xt.new (o := .tup gs) hg1)).trans (Xt.new (o := .tup [.int per, .ref e1, .ref t1, .ref g1, .ref eT]) hct)
                  have wz := z1.trans w4
                  have tk : Tk A2 (upd (upd A2 g1 (.tup gs)) ct (.tup [.int per, .ref e1, .ref t1, .ref g1, .ref eT])) := (Tk.refl.new hg1).new hct
                  refine q _ _ ⟨per, es2, ks3, gps, ks.map fun k => k ++ [bval bs k]⟩ (hx.trans wz.any) (hRr.x wz) ⟨⟨ct, e1, t1, g1, eT, ys3, gs, acc, rfl, upd_same, tk _ _ he2', tk _ _ ht2, hr3.mono tk, upd_old upd_same hct, hGr.x w4, w4.tups _ _ heT1, hrw3.x w4⟩⟩ ?_ rfl (by show (es2.length : Int) = wh; omega)
                  refine ⟨⟨p1, p2⟩, ⟨by show 1 ≤ es2.length; omega, by show es2.length ≤ 12; omega⟩, he2, by show es2.sum ≤ 24; omega, fun t ht => ?_, hri3, ?_, hGl, fun i e g he hg => ?_, fun t ht => ?_, ?_, ?_⟩
                  · exact (tch3 t (hper3.mem_iff.mp ht)).2.2
                  · show ks3.length ≤ 1000
                    rw [hper3.length_eq, List.length_map]; omega
                  · obtain ⟨g1, g2, g3, g4⟩ := hGo g (List.mem_of_getElem? hg)
                    exact ⟨fun _ => g1, g4, rising_ints g3, by omega⟩
                  · obtain ⟨k, hk, rfl⟩ := List.mem_map.mp ht
                    exact (mem3 k hk).2.2
                  · have e : (ks.map fun k => k ++ [bval bs k]).map (·.take 3) = ks := by
                      rw [List.map_map]
                      refine (List.map_congr_left fun k hk => ?_).trans (List.map_id ks)
                      show (k ++ [bval bs k]).take 3 = k
                      rw [List.take_append_of_le_length (by rw [(mem3 k hk).2.1]; exact Nat.le_refl _), List.take_of_length_le (by rw [(mem3 k hk).2.1]; exact Nat.le_refl _)]
                    show rising ((ks.map fun k => k ++ [bval bs k]).map (·.take 3)) = true
                    rw [e]; exact hri
                  · show (ks.map fun k => k ++ [bval bs k]).length ≤ 1000
                    rw [List.length_map]; omega
      · rintro σ H Q Q' hq h
        obtain ⟨x, e1, a, es, e2, hs, i, j, e3, e4, k, e5, h⟩ := h
        exact ⟨x, e1, a, es, e2, hs, i, j, e3, e4, k, e5, hq _ _ h⟩
theorem ok_law_low_clock (T : Txt mg) (C_law_taken : Callee P w K mg base "_law_taken" 1 ["row", "many"] (sb_taken K)) (F : FunC K "_law_low_clock" s_law_low_clock f fd c) : FnOk P w K mg base CX0 2 f fd ["row", "period", "wheels", "most", "entries"] (sp_low_clock K) :=
  (ok_law_low_clockX T C_law_taken F).imp fun vs H Q E h => by
    obtain ⟨row, scr, ns, per, wh, mo, en, rfl, h1, h2, h3, h4, h5, h6, h7, h8, h9, q⟩ := h
    exact ⟨row, scr, ns, per, wh, mo, en, rfl, h1, h2, h3, h4, h5, h6, h7, h8, h9, fun H2 v k a b c d _ _ => q H2 v k a b c d⟩

end K17
-- P1
namespace LC
variable [Tbl]
/-! plans: what fits, the first wrong tick -/
def tchAt (tch : List (List Int)) (p : Int) : List (List Int) := (tch.filter fun t => decide (t[0]?.getD 0 = p)).map (·.drop 1)
def nd (bok : List (List Int)) (i a j : Int) : Int := ((bok.filter (entOk i a j)).map fun t => t[3]?.getD 0).foldl max 0
theorem fm_ge : ∀ (xs : List Int) (m : Int), m ≤ xs.foldl max m ∧ ∀ x ∈ xs, x ≤ xs.foldl max m
  | [], m => ⟨Int.le_refl _, fun _ h => nomatch h⟩
  | y :: xs, m => by
    obtain ⟨h1, h2⟩ := fm_ge xs (max m y)
    refine ⟨by show m ≤ xs.foldl max (max m y); omega, fun x hx => ?_⟩
    show x ≤ xs.foldl max (max m y)
    rcases List.mem_cons.mp hx with rfl | hx
    · omega
    · exact h2 x hx
theorem fm_mem : ∀ (xs : List Int) (m : Int), xs.foldl max m = m ∨ xs.foldl max m ∈ xs
  | [], m => .inl rfl
  | y :: xs, m => by
    show xs.foldl max (max m y) = m ∨ xs.foldl max (max m y) ∈ y :: xs
    rcases fm_mem xs (max m y) with h | h
    · by_cases z : m ≤ y
      · exact .inr (by rw [h, Int.max_eq_right z]; exact List.mem_cons_self)
      · exact .inl (by rw [h]; omega)
    · exact .inr (List.mem_cons_of_mem _ h)
theorem nd_ln (bok : List (List Int)) (i a j : Int) : LN bok i a j (nd bok i a j) := by
  refine ⟨fun t ht ho => ?_, ?_⟩
  · exact (fm_ge _ 0).2 _ (List.mem_map.mpr ⟨t, List.mem_filter.mpr ⟨ht, ho⟩, rfl⟩)
  · rcases fm_mem ((bok.filter (entOk i a j)).map fun t => t[3]?.getD 0) 0 with h | h
    · exact .inl h
    · obtain ⟨t, ht, e⟩ := List.mem_map.mp h
      obtain ⟨h1, h2⟩ := List.mem_filter.mp ht
      exact .inr ⟨t, h1, h2, e⟩
theorem LN.nd {bok : List (List Int)} {eds : List Int} {i a j m : Int} (hb : ∀ t ∈ bok, BokOk eds t) (h : LN bok i a j m) : m = LC.nd bok i a j := h.uniq hb (nd_ln ..)
theorem nd_pos (bok : List (List Int)) (i a j : Int) : 0 ≤ nd bok i a j := (fm_ge _ 0).1
theorem nd_zero {bok : List (List Int)} {eds : List Int} {i j : Int} (hb : ∀ t ∈ bok, BokOk eds t) : nd bok i 0 j = 0 := by
  rcases (nd_ln bok i 0 j).2 with h | ⟨t, ht, ho, _⟩
  · exact h
  · obtain ⟨i1, a, j1, b, rfl, _, _, _, _, _, h6, _⟩ := hb t ht
    unfold entOk at ho
    rw [Bool.and_eq_true] at ho
    have : a ≤ 0 := of_decide_eq_true ho.2
    omega
/-- the edition that stands -/
def sg (st : List Int) (i : Int) : Int := st[i.toNat]?.getD 0
def fits (bok : List (List Int)) (st : List Int) (i j : Int) : Bool := decide (nd bok i (sg st i) j ≤ sg st j) && decide (nd bok j (sg st j) i ≤ sg st i)
def unfit (bok : List (List Int)) (st : List Int) (p : List Int) : Bool := !fits bok st (p[0]?.getD 0) (p[1]?.getD 0)
def badOf (bok : List (List Int)) (st : List Int) (tch : List (List Int)) (ph : Int) : List (List Int) := (tchAt tch ph).filter (unfit bok st)
def badAt (k : Clk) (st : List Int) (t : Int) : List (List Int) := badOf k.bok st k.tch (t % k.per)
theorem bad_no {bok : List (List Int)} {st : List Int} {tch : List (List Int)} {ph : Int} {n : Nat} {t : List Int} (e : tch[n]? = some t) (h : t[0]?.getD 0 ≠ ph) : badOf bok st (tch.take (n + 1)) ph = badOf bok st (tch.take n) ph := by
  unfold badOf tchAt
  rw [filt_no e (decide_eq_false h)]
theorem bad_fit {bok : List (List Int)} {st : List Int} {tch : List (List Int)} {ph : Int} {n : Nat} {t : List Int} (e : tch[n]? = some t) (h : t[0]?.getD 0 = ph) (u : unfit bok st (t.drop 1) = false) : badOf bok st (tch.take (n + 1)) ph = badOf bok st (tch.take n) ph := by
  unfold badOf tchAt
  rw [filt_yes e (decide_eq_true h), List.map_append, List.filter_append]
  show _ ++ [t.drop 1].filter (unfit bok st) = _
  rw [List.filter_cons_of_neg (by rw [u]; exact Bool.false_ne_true), List.filter_nil, List.append_nil]
theorem bad_yes {bok : List (List Int)} {st : List Int} {tch : List (List Int)} {ph : Int} {n : Nat} {t : List Int} (e : tch[n]? = some t) (h : t[0]?.getD 0 = ph) (u : unfit bok st (t.drop 1) = true) : badOf bok st (tch.take (n + 1)) ph = badOf bok st (tch.take n) ph ++ [t.drop 1] := by
  unfold badOf tchAt
  rw [filt_yes e (decide_eq_true h), List.map_append, List.filter_append]
  show _ ++ [t.drop 1].filter (unfit bok st) = _
  rw [List.filter_cons_of_pos u, List.filter_nil]
theorem badOf_len {bok : List (List Int)} {st : List Int} {tch : List (List Int)} {ph : Int} : (badOf bok st tch ph).length ≤ tch.length := by
  unfold badOf tchAt
  exact Nat.le_trans (List.length_filter_le _ _) (by rw [List.length_map]; exact List.length_filter_le _ _)
def stand (pl : List (List Int)) (t : Int) : List Int := pl.map fun ts => (((ts.filter fun x => decide (x ≤ t)).length : Nat) : Int)
theorem stand_len (pl : List (List Int)) (t : Int) : (stand pl t).length = pl.length := by unfold stand; rw [List.length_map]
theorem stand_get {pl : List (List Int)} {t : Int} {i : Nat} {ts : List Int} (e : pl[i]? = some ts) : (stand pl t)[i]? = some (((ts.filter fun x => decide (x ≤ t)).length : Nat) : Int) := by
  unfold stand; rw [List.getElem?_map, e]; rfl
theorem stand_same {pl : List (List Int)} {s t : Int} (h : s ≤ t) (hn : ∀ ts ∈ pl, ∀ x ∈ ts, s < x → t < x) : stand pl t = stand pl s := by
  unfold stand
  refine List.map_congr_left fun ts hts => ?_
  have e : ts.filter (fun x => decide (x ≤ t)) = ts.filter fun x => decide (x ≤ s) := List.filter_congr fun x hx => by
    have := hn ts hts x hx
    by_cases z : x ≤ s
    · rw [decide_eq_true z, decide_eq_true (by omega)]
    · rw [decide_eq_false z, decide_eq_false (by have := this (by omega); omega)]
  rw [e]
theorem bad_stand0 {k : Clk} {pl : List (List Int)} {t u : Int} (hb : ∀ e ∈ k.bok, BokOk k.eds e) (hn : ∀ ts ∈ pl, ∀ x ∈ ts, t < x) : badAt k (stand pl t) u = [] := by
  have e : ∀ i : Int, sg (stand pl t) i = 0 := fun i => by
    unfold sg
    cases z : pl[i.toNat]? with
    | none => rw [List.getElem?_eq_none (by rw [stand_len]; exact List.getElem?_eq_none_iff.mp z)]; rfl
    | some ts =>
      rw [stand_get z]
      have : ts.filter (fun x => decide (x ≤ t)) = [] := List.filter_eq_nil_iff.mpr fun x hx => by
        have := hn ts (List.mem_of_getElem? z) x hx
        rw [decide_eq_false (by omega)]; exact Bool.false_ne_true
      rw [this]; rfl
  unfold badAt badOf
  refine List.filter_eq_nil_iff.mpr fun p _ => ?_
  unfold unfit fits
  rw [e, e, nd_zero hb, nd_zero hb]
  decide
structure PlOk (k : Clk) (pl : List (List Int)) : Prop where
  len : pl.length = k.eds.length
  row : ∀ (i : Nat) (ts : List Int), pl[i]? = some ts → (ts.length : Int) = k.eds[i]?.getD 0 ∧ (∀ x ∈ ts, 0 ≤ x ∧ x ≤ 100000 ∧ x % k.per ∈ k.gps[i]?.getD []) ∧ ts.Pairwise (· < ·)
theorem PlOk.bd {k : Clk} {pl : List (List Int)} (h : PlOk k pl) : ∀ ts ∈ pl, ∀ x ∈ ts, 0 ≤ x ∧ x ≤ 100000 := fun ts hts x hx => by
  obtain ⟨i, hi⟩ := List.mem_iff_getElem?.mp hts
  obtain ⟨_, h2, _⟩ := h.row i ts hi
  exact ⟨(h2 x hx).1, (h2 x hx).2.1⟩
def FB (k : Clk) (pl : List (List Int)) : Option Int → Prop
  | none => ∀ t, 0 ≤ t → badAt k (stand pl t) t = []
  | some t => 0 ≤ t ∧ badAt k (stand pl t) t ≠ [] ∧ ∀ u, 0 ≤ u → u < t → badAt k (stand pl u) u = []
theorem FB.uniq {k : Clk} {pl : List (List Int)} {r s : Option Int} (h : FB k pl r) (g : FB k pl s) : r = s := by
  cases r with
  | none =>
    cases s with
    | none => rfl
    | some t => exact absurd (h t g.1) g.2.1
  | some t =>
    cases s with
    | none => exact absurd (g t h.1) h.2.1
    | some u =>
      rcases Int.lt_trichotomy t u with z | z | z
      · exact absurd (g.2.2 t h.1 z) h.2.1
      · rw [z]
      · exact absurd (h.2.2 u g.1 z) g.2.1
/-- nothing is wrong ahead of the moment at p -/
def Pre (k : Clk) (pl : List (List Int)) (ms : List Int) (p : Nat) : Prop := ∀ t, 0 ≤ t → (∀ m, ms[p]? = some m → t < m) → badAt k (stand pl t) t = []
section
variable {k : Clk} {pl : List (List Int)} {ms : List Int}
theorem first_le (hp : ms.Pairwise (· < ·)) {p q : Nat} {m x : Int} (h : p ≤ q) (e : ms[p]? = some m) (f : ms[q]? = some x) : m ≤ x := by
  obtain ⟨h1, e1⟩ := List.getElem?_eq_some_iff.mp e
  obtain ⟨h2, e2⟩ := List.getElem?_eq_some_iff.mp f
  by_cases z : p = q
  · subst z; rw [← e1, ← e2]; exact Int.le_refl _
  · have := List.pairwise_iff_getElem.mp hp p q h1 h2 (by omega)
    rw [e1, e2] at this; exact Int.le_of_lt this
theorem pre_zero (hb : ∀ e ∈ k.bok, BokOk k.eds e) (hp : ms.Pairwise (· < ·)) (hm : ∀ ts ∈ pl, ∀ x ∈ ts, x ∈ ms) : Pre k pl ms 0 := fun t _ h2 => by
  refine bad_stand0 hb fun ts hts x hx => ?_
  obtain ⟨q, hq⟩ := List.mem_iff_getElem?.mp (hm ts hts x hx)
  cases z : ms[0]? with
  | none => rw [List.getElem?_eq_none_iff] at z; have := (List.getElem?_eq_some_iff.mp hq).1; omega
  | some m => have := h2 m z; have := first_le hp (Nat.zero_le q) z hq; omega
/-- between two moments the editions stand still -/
theorem stand_mid (hp : ms.Pairwise (· < ·)) (hm : ∀ ts ∈ pl, ∀ x ∈ ts, x ∈ ms) {p : Nat} {m t : Int} (e : ms[p]? = some m) (h1 : m ≤ t) (h2 : ∀ m2, ms[p + 1]? = some m2 → t < m2) : stand pl t = stand pl m := by
  refine stand_same h1 fun ts hts x hx hlt => ?_
  obtain ⟨q, hq⟩ := List.mem_iff_getElem?.mp (hm ts hts x hx)
  have hpq : p < q := by
    by_cases z : p < q
    · exact z
    · have := first_le hp (Nat.le_of_not_lt z) hq e; omega
  have hl : p + 1 < ms.length := by have := (List.getElem?_eq_some_iff.mp hq).1; omega
  have e2 := List.getElem?_eq_getElem hl
  have := h2 _ e2
  have := first_le hp (show p + 1 ≤ q by omega) e2 hq
  omega
theorem pre_step (hper : 1 ≤ k.per) (hp : ms.Pairwise (· < ·)) (hm : ∀ ts ∈ pl, ∀ x ∈ ts, x ∈ ms) {p : Nat} {m e : Int} (h : Pre k pl ms p) (em : ms[p]? = some m) (h1 : e = m + k.per ∨ ms[p + 1]? = some e)
    (hin : ∀ t, m ≤ t → t < e → badAt k (stand pl m) t = []) : Pre k pl ms (p + 1) := fun t h0 hn => by
  by_cases z : t < m
  · exact h t h0 fun m' e' => by rw [em] at e'; cases e'; exact z
  · rw [stand_mid hp hm em (by omega) hn]
    by_cases z2 : t < e
    · exact hin t (by omega) z2
    · rcases h1 with h1 | h1
      · have hd : 0 ≤ (t - m) % k.per ∧ (t - m) % k.per < k.per := ⟨Int.emod_nonneg _ (by omega), Int.emod_lt_of_pos _ (by omega)⟩
        have := hin (m + (t - m) % k.per) (by omega) (by omega)
        unfold badAt at this ⊢
        have e3 : (m + (t - m) % k.per) % k.per = t % k.per := by
          rw [Int.add_emod, Int.emod_emod_of_dvd _ (Int.dvd_refl _), ← Int.add_emod]; congr 1; omega
        rw [e3] at this
        exact this
      · have := hn e h1; omega
theorem pre_hit (hp : ms.Pairwise (· < ·)) (hm : ∀ ts ∈ pl, ∀ x ∈ ts, x ∈ ms) {p : Nat} {m t : Int} (h : Pre k pl ms p) (em : ms[p]? = some m) (m0 : 0 ≤ m) (h1 : m ≤ t) (h2 : ∀ m2, ms[p + 1]? = some m2 → t < m2)
    (hin : ∀ u, m ≤ u → u < t → badAt k (stand pl m) u = []) (hb : badAt k (stand pl m) t ≠ []) : FB k pl (some t) := by
  refine ⟨by omega, by rw [stand_mid hp hm em h1 h2]; exact hb, fun u u0 hu => ?_⟩
  by_cases z : u < m
  · exact h u u0 fun m' e' => by rw [em] at e'; cases e'; exact z
  · rw [stand_mid hp hm em (by omega) fun m2 e2 => by have := h2 m2 e2; omega]
    exact hin u (by omega) hu
theorem pre_end (h : Pre k pl ms ms.length) : FB k pl none := fun t h0 => h t h0 fun m e => by
  have := (List.getElem?_eq_some_iff.mp e).1; omega
theorem fb_none {last : Int} (hper : 1 ≤ k.per) (h0 : 0 ≤ last) (hl : ∀ ts ∈ pl, ∀ x ∈ ts, x ≤ last) (h : ∀ u, 0 ≤ u → u < last + k.per + 1 → badAt k (stand pl u) u = []) : FB k pl none := fun t t0 => by
  by_cases z : t < last + k.per + 1
  · exact h t t0 z
  · have hd : 0 ≤ (t - last) % k.per ∧ (t - last) % k.per < k.per := ⟨Int.emod_nonneg _ (by omega), Int.emod_lt_of_pos _ (by omega)⟩
    have e1 : ∀ u, last ≤ u → stand pl u = stand pl last := fun u hu => stand_same hu fun ts hts x hx hlt => by have := hl ts hts x hx; omega
    have := h (last + (t - last) % k.per) (by omega) (by omega)
    rw [e1 _ (by omega)] at this
    rw [e1 _ (by omega)]
    unfold badAt at this ⊢
    have e3 : (last + (t - last) % k.per) % k.per = t % k.per := by
      rw [Int.add_emod, Int.emod_emod_of_dvd _ (Int.dvd_refl _), ← Int.add_emod]; congr 1; omega
    rw [e3] at this
    exact this
theorem stand_far (ok : PlOk k pl) {t : Int} (h : 100000 ≤ t) : stand pl t = k.eds := by
  refine List.ext_getElem? fun i => ?_
  cases z : pl[i]? with
  | none =>
    have hl := List.getElem?_eq_none_iff.mp z
    rw [List.getElem?_eq_none (by rw [stand_len]; exact hl), List.getElem?_eq_none (by rw [← ok.len]; exact hl)]
  | some ts =>
    rw [stand_get z]
    obtain ⟨h1, h2, _⟩ := ok.row i ts z
    have e : ts.filter (fun x => decide (x ≤ t)) = ts := List.filter_eq_self.mpr fun x hx => decide_eq_true (by have := (h2 x hx).2.1; omega)
    have hl : i < k.eds.length := by rw [← ok.len]; exact (List.getElem?_eq_some_iff.mp z).1
    rw [e, h1, List.getElem?_eq_getElem hl]; rfl
end
end LC
-- L9
namespace LC
variable [Tbl]
open PySem PySem.Spec PyProof.Rows L2
mutual
/-- how deep; small enough to be walked -/
def D.dep : D → Nat
  | .tup ds => D.deps ds + 1
  | .lst ds => D.deps ds + 1
  | _ => 0
def D.deps : List D → Nat
  | [] => 0
  | d :: ds => max d.dep (D.deps ds)
end
mutual
def D.sm : D → Bool
  | .tup ds => decide (ds.length ≤ 1000) && D.sms ds
  | .lst ds => decide (ds.length ≤ 1000) && D.sms ds
  | _ => true
def D.sms : List D → Bool
  | [] => true
  | d :: ds => d.sm && D.sms ds
end
theorem D.dep_get : ∀ {ds : List D} {i : Nat} {d : D}, ds[i]? = some d → d.dep ≤ D.deps ds
  | [], _, _, h => by simp at h
  | e :: ds, 0, d, h => by simp at h; subst h; unfold D.deps; exact Nat.le_max_left _ _
  | e :: ds, i + 1, d, h => by
    have := D.dep_get (ds := ds) (i := i) (d := d) (by simpa using h)
    unfold D.deps; exact Nat.le_trans this (Nat.le_max_right _ _)
theorem D.sm_get : ∀ {ds : List D} {i : Nat} {d : D}, D.sms ds = true → ds[i]? = some d → d.sm = true
  | [], _, _, _, h => by simp at h
  | e :: ds, 0, d, s, h => by simp at h; subst h; unfold D.sms at s; rw [Bool.and_eq_true] at s; exact s.1
  | e :: ds, i + 1, d, s, h => by unfold D.sms at s; rw [Bool.and_eq_true] at s; exact D.sm_get s.2 (by simpa using h)
section
variable {H H1 : Hp}
mutual
theorem At.xn (x : Xn H H1) : ∀ (d : D) (v : V), At H d v → At H1 d v
  | .non, _, e => e
  | .bl _, _, e => e
  | .int _, _, e => e
  | .str _, _, e => e
  | .tup ds, v, e => by
    unfold At at e ⊢
    obtain ⟨a, xs, e1, e2, e3⟩ := e
    exact ⟨a, xs, e1, x.tups _ _ e2, Ats.xn x ds xs e3⟩
  | .lst ds, v, e => by
    unfold At at e ⊢
    obtain ⟨a, xs, e1, e2, e3⟩ := e
    exact ⟨a, xs, e1, x.keep a _ (fun z => z) (fun _ z => by cases z) e2, Ats.xn x ds xs e3⟩
theorem Ats.xn (x : Xn H H1) : ∀ (ds : List D) (vs : List V), Ats H ds vs → Ats H1 ds vs
  | [], _, e => by unfold Ats at e ⊢; exact e
  | d :: ds, _, e => by
    unfold Ats at e ⊢
    obtain ⟨v, r, e1, e2, e3⟩ := e
    exact ⟨v, r, e1, At.xn x d v e2, Ats.xn x ds r e3⟩
end
/-- is it a tuple or a list -/
def D.seq : D → Bool
  | .tup _ => true
  | .lst _ => true
  | _ => false
def D.isL : D → Bool
  | .lst _ => true
  | _ => false
def D.ty : D → String
  | .non => "NoneType"
  | .bl _ => "bool"
  | .int _ => "int"
  | .str _ => "str"
  | .tup _ => "tuple"
  | .lst _ => "list"
theorem At.tyx {K : PySem.W.Frag} {d : D} {v : V} (h : At H d v) : TyX K H v (.type d.ty) := by
  cases d with
  | non => unfold At at h; subst h; exact .base .non
  | bl b => unfold At at h; subst h; exact .base (.bl b)
  | int i => unfold At at h; subst h; exact .base (.int i)
  | str x => unfold At at h; subst h; exact .base (.str x)
  | tup ds => obtain ⟨a, xs, rfl, e, _⟩ := at_tup.mp h; exact .base (.tup e)
  | lst ds => obtain ⟨a, xs, rfl, e, _⟩ := at_lst.mp h; exact .base (.lst e)
end
theorem eqD_nil {K : PySem.W.Frag} {H : Hp} {S T : Addr} {Q : VK} (h : H S = some (.lst [])) (e : H T = some (.lst [])) (q : Q (.bl true) H) : rEqD K (.ref S) (.ref T) H Q :=
  ⟨.list [], .list [], .lst (SqL.of h) .nil, .lst (SqL.of e) .nil, PySem.W.ke_shaped_ints [], PySem.W.ke_shaped_ints [], q⟩
end LC
namespace LC
variable [Tbl]
open PySem PySem.Spec PyProof.Rows L2
def D.isT : D → Bool
  | .tup _ => true
  | _ => false
def D.isS : D → Bool
  | .str _ => true
  | _ => false
def D.isB : D → Bool
  | .bl _ => true
  | _ => false
def D.kids : D → List D
  | .tup ds => ds
  | .lst ds => ds
  | _ => []
section
variable {K : PySem.W.Frag}
theorem D.kT (d : D) : PySem.W.kitOne K (.type d.ty) (.type "tuple") = some d.isT := kit_ty (match d with
  | .non => (show kitB "NoneType" "tuple" = some false by decide +kernel)
  | .bl _ => (show kitB "bool" "tuple" = some false by decide +kernel)
  | .int _ => (show kitB "int" "tuple" = some false by decide +kernel)
  | .str _ => (show kitB "str" "tuple" = some false by decide +kernel)
  | .tup _ => (show kitB "tuple" "tuple" = some true by decide +kernel)
  | .lst _ => (show kitB "list" "tuple" = some false by decide +kernel))
theorem D.kL (d : D) : PySem.W.kitOne K (.type d.ty) (.type "list") = some d.isL := kit_ty (match d with
  | .non => (show kitB "NoneType" "list" = some false by decide +kernel)
  | .bl _ => (show kitB "bool" "list" = some false by decide +kernel)
  | .int _ => (show kitB "int" "list" = some false by decide +kernel)
  | .str _ => (show kitB "str" "list" = some false by decide +kernel)
  | .tup _ => (show kitB "tuple" "list" = some false by decide +kernel)
  | .lst _ => (show kitB "list" "list" = some true by decide +kernel))
theorem D.kS (d : D) : PySem.W.kitOne K (.type d.ty) (.type "str") = some d.isS := kit_ty (match d with
  | .non => (show kitB "NoneType" "str" = some false by decide +kernel)
  | .bl _ => (show kitB "bool" "str" = some false by decide +kernel)
  | .int _ => (show kitB "int" "str" = some false by decide +kernel)
  | .str _ => (show kitB "str" "str" = some true by decide +kernel)
  | .tup _ => (show kitB "tuple" "str" = some false by decide +kernel)
  | .lst _ => (show kitB "list" "str" = some false by decide +kernel))
theorem D.kB (d : D) : PySem.W.kitOne K (.type d.ty) (.type "bool") = some d.isB := kit_ty (match d with
  | .non => (show kitB "NoneType" "bool" = some false by decide +kernel)
  | .bl _ => (show kitB "bool" "bool" = some true by decide +kernel)
  | .int _ => (show kitB "int" "bool" = some false by decide +kernel)
  | .str _ => (show kitB "str" "bool" = some false by decide +kernel)
  | .tup _ => (show kitB "tuple" "bool" = some false by decide +kernel)
  | .lst _ => (show kitB "list" "bool" = some false by decide +kernel))
theorem D.kI (d : D) (b : Bool) (h : b = match d with | .int _ => true | .bl _ => true | _ => false) : PySem.W.kitOne K (.type d.ty) (.type "int") = some b := kit_ty (match d with
  | .non => h ▸ (show kitB "NoneType" "int" = some false by decide +kernel)
  | .bl _ => h ▸ (show kitB "bool" "int" = some true by decide +kernel)
  | .int _ => h ▸ (show kitB "int" "int" = some true by decide +kernel)
  | .str _ => h ▸ (show kitB "str" "int" = some false by decide +kernel)
  | .tup _ => h ▸ (show kitB "tuple" "int" = some false by decide +kernel)
  | .lst _ => h ▸ (show kitB "list" "int" = some false by decide +kernel))
theorem D.seq_eq (d : D) : d.seq = (d.isT || d.isL) := by cases d <;> rfl
theorem D.kTL (d : D) : PySem.W.kitAny K (.type d.ty) [.type "tuple", .type "list"] = some d.seq := by
  rw [D.seq_eq]
  have h1 := D.kT (K := K) d
  have h2 := D.kL (K := K) d
  generalize d.isT = b at h1 ⊢
  generalize d.isL = c at h2 ⊢
  refine kitAny_cons h1 (fun h => kitAny_cons h2 (fun h3 => ?_) (fun h3 => ?_)) (fun h => ?_)
  · subst h h3; exact kitAny_nil
  · subst h h3; rfl
  · subst h; rfl
theorem At.sq {H : Hp} {d : D} {v : V} (hs : d.seq = true) (h : At H d v) : ∃ a xs, v = .ref a ∧ (SqL K H a xs ∨ SqT K H a xs) ∧ Ats H d.kids xs := by
  cases d with
  | tup ds => obtain ⟨a, xs, rfl, e, h⟩ := at_tup.mp h; exact ⟨a, xs, rfl, .inr (SqT.of e), h⟩
  | lst ds => obtain ⟨a, xs, rfl, e, h⟩ := at_lst.mp h; exact ⟨a, xs, rfl, .inl (SqL.of e), h⟩
  | _ => cases hs
theorem D.kid_dep {d : D} {n i : Nat} {e : D} (hs : d.seq = true) (hd : d.dep < n + 1) (h : d.kids[i]? = some e) : e.dep < n := by
  have := D.dep_get h
  cases d with
  | tup ds => unfold D.dep at hd; have : e.dep ≤ D.deps ds := this; omega
  | lst ds => unfold D.dep at hd; have : e.dep ≤ D.deps ds := this; omega
  | _ => cases hs
theorem D.kid_sm {d : D} {i : Nat} {e : D} (hs : d.seq = true) (hd : d.sm = true) (h : d.kids[i]? = some e) : e.sm = true := by
  cases d with
  | tup ds => unfold D.sm at hd; rw [Bool.and_eq_true] at hd; exact D.sm_get hd.2 h
  | lst ds => unfold D.sm at hd; rw [Bool.and_eq_true] at hd; exact D.sm_get hd.2 h
  | _ => cases hs
theorem D.kids_len {d : D} (hs : d.seq = true) (hd : d.sm = true) : d.kids.length ≤ 1000 := by
  cases d with
  | tup ds => unfold D.sm at hd; rw [Bool.and_eq_true] at hd; exact of_decide_eq_true hd.1
  | lst ds => unfold D.sm at hd; rw [Bool.and_eq_true] at hd; exact of_decide_eq_true hd.1
  | _ => cases hs
end
end LC
namespace LC
variable [Tbl]
open PySem PySem.Spec PyProof.Rows L2
theorem eqD_pair {K : PySem.W.Frag} {H : Hp} {S T : Addr} {i j a b : Int} {Q : VK} (h : H S = some (.tup [.int i, .int j])) (e : H T = some (.tup [.int a, .int b])) (q : Q (.bl (decide (i = a) && decide (j = b))) H) : rEqD K (.ref S) (.ref T) H Q := by
  refine ⟨.tuple [.int i, .int j], .tuple [.int a, .int b], .tup (SqT.of h) (dp_ints [i, j]), .tup (SqT.of e) (dp_ints [a, b]), by rfl, by rfl, ?_⟩
  have e2 : PyData.eqv (.tuple [.int i, .int j]) (.tuple [.int a, .int b]) = (decide (i = a) && decide (j = b)) := by
    show ((i == a) && ((j == b) && true)) = _
    rw [Bool.and_true, Bool.beq_eq_decide_eq, Bool.beq_eq_decide_eq]
  rw [e2]
  exact q
theorem LN.zero {i a j : Int} : LN [] i a j 0 := ⟨fun _ h => (nomatch h), .inl rfl⟩
theorem LN.skip {xs : List (List Int)} {i a j m : Int} {t : List Int} (h : LN xs i a j m) (z : entOk i a j t = true → t[3]?.getD 0 ≤ m) : LN (xs ++ [t]) i a j m := by
  obtain ⟨h1, h2⟩ := h
  refine ⟨fun u hu ho => ?_, ?_⟩
  · rcases List.mem_append.mp hu with hu | hu
    · exact h1 u hu ho
    · rw [List.mem_singleton] at hu; subst hu; exact z ho
  · rcases h2 with h2 | ⟨u, h3, h4⟩
    · exact .inl h2
    · exact .inr ⟨u, List.mem_append_left _ h3, h4⟩
theorem LN.take {xs : List (List Int)} {i a j m n : Int} {t : List Int} (h : LN xs i a j m) (ho : entOk i a j t = true) (e : t[3]?.getD 0 = n) (hn : m ≤ n) : LN (xs ++ [t]) i a j n := by
  obtain ⟨h1, _⟩ := h
  refine ⟨fun u hu ho => ?_, .inr ⟨t, by simp, ho, e⟩⟩
  rcases List.mem_append.mp hu with hu | hu
  · exact Int.le_trans (h1 u hu ho) hn
  · rw [List.mem_singleton] at hu; subst hu; rw [e]; exact Int.le_refl _
end LC
namespace LC
variable [Tbl]
open PySem PySem.Spec PyProof.Rows L2
/-- rows as data -/
def dR (xss : List (List Int)) : D := .tup (xss.map fun ns => D.tup (ns.map D.int))
theorem ats_of {H : Hp} : ∀ {ds : List D} {vs : List V}, vs.length = ds.length → (∀ (i : Nat) (d : D) (v : V), ds[i]? = some d → vs[i]? = some v → At H d v) → Ats H ds vs
  | [], [], _, _ => Ats.nil
  | [], _ :: _, h, _ => nomatch h
  | _ :: _, [], h, _ => nomatch h
  | d :: ds, v :: vs, h, q => Ats.cons (q 0 d v rfl rfl) (ats_of (by simpa using h) fun i e u h1 h2 => q (i + 1) e u (by simpa using h1) (by simpa using h2))
theorem rows_at {H : Hp} {p : Addr} {rs : List V} {xss : List (List Int)} (e : H p = some (.tup rs)) (r : Rows H rs xss) : At H (dR xss) (.ref p) := by
  refine at_tup.mpr ⟨p, rs, rfl, e, ats_of (by rw [List.length_map]; exact r.1) fun i d v h1 h2 => ?_⟩
  obtain ⟨b, ns, rfl, e1, e2⟩ := r.get h2
  rw [List.getElem?_map, e1] at h1
  cases h1
  exact at_ints.mpr ⟨b, rfl, e2⟩
theorem deps_ints : ∀ ns : List Int, D.deps (ns.map D.int) = 0
  | [] => rfl
  | n :: ns => by
    show max (D.dep (.int n)) (D.deps (ns.map D.int)) = 0
    rw [deps_ints ns]; rfl
theorem sms_ints : ∀ ns : List Int, D.sms (ns.map D.int) = true
  | [] => rfl
  | n :: ns => by
    show ((D.int n).sm && D.sms (ns.map D.int)) = true
    rw [sms_ints ns]; rfl
theorem dR_dep (xss : List (List Int)) : (dR xss).dep < 3 := by
  show D.deps (xss.map fun ns => D.tup (ns.map D.int)) + 1 < 3
  have : ∀ xss : List (List Int), D.deps (xss.map fun ns => D.tup (ns.map D.int)) ≤ 1 := fun xss => by
    induction xss with
    | nil => exact Nat.zero_le _
    | cons ns xss ih =>
      show max (D.deps (ns.map D.int) + 1) (D.deps (xss.map fun ns => D.tup (ns.map D.int))) ≤ 1
      rw [deps_ints]; omega
  have := this xss
  omega
theorem dR_sm {xss : List (List Int)} (h : xss.length ≤ 1000) (h2 : ∀ ns ∈ xss, ns.length ≤ 1000) : (dR xss).sm = true := by
  show (decide ((xss.map fun ns => D.tup (ns.map D.int)).length ≤ 1000) && D.sms (xss.map fun ns => D.tup (ns.map D.int))) = true
  rw [List.length_map, decide_eq_true h, Bool.true_and]
  clear h
  induction xss with
  | nil => rfl
  | cons ns xss ih =>
    show ((decide ((ns.map D.int).length ≤ 1000) && D.sms (ns.map D.int)) && D.sms (xss.map fun ns => D.tup (ns.map D.int))) = true
    rw [List.length_map, decide_eq_true (h2 ns (List.mem_cons_self ..)), sms_ints, ih fun ms hm => h2 ms (List.mem_cons_of_mem _ hm)]; rfl
theorem Rows.app {H : Hp} {rs us : List V} {xss yss : List (List Int)} (h : Rows H rs xss) (h2 : Rows H us yss) : Rows H (rs ++ us) (xss ++ yss) := ⟨by rw [List.length_append, List.length_append, h.1, h2.1], fun i ns e => by
  by_cases hi : i < xss.length
  · rw [List.getElem?_append_left hi] at e
    obtain ⟨b, e1, e2⟩ := h.2 i ns e
    exact ⟨b, by rw [List.getElem?_append_left (by rw [h.1]; exact hi)]; exact e1, e2⟩
  · rw [List.getElem?_append_right (by omega)] at e
    obtain ⟨b, e1, e2⟩ := h2.2 _ ns e
    exact ⟨b, by rw [List.getElem?_append_right (by rw [h.1]; omega), h.1]; exact e1, e2⟩⟩
end LC
namespace LC
variable [Tbl]
theorem due_two {eds : List Int} {n : Nat} {ns : List Int} (h : ns ∈ due eds n) : ns.length ≤ 1000 := by
  unfold due at h
  obtain ⟨i, _, h2⟩ := List.mem_flatMap.mp h
  unfold dueW at h2
  obtain ⟨k, _, rfl⟩ := List.mem_map.mp h2
  show 2 ≤ 1000
  decide
end LC
-- S1
namespace LC
open PySem PySem.Spec PyProof.Rows L2
/-! set(xs), sorted(set(xs)) of a list of whole numbers -/
/-- what stands at a set that has nothing yet -/
abbrev void (w : World) : Obj := { cls := .type "set", dict := none, data := .set #[] 0 (.fresh 0 0 (!w.params.followText "set-order")) }
section
variable {P : Program} {w : World} {A : Around} {E : Value → Shared → Prop} {s : Shared}
theorem set_of_list {la : Addr} {cells : Array Value} {qs : List Int} {R : Value → Shared → Prop} (nh : A.handled = none) (hla : s.heap.IsList la cells) (are : IntsAre cells.toList qs) (few : qs.length + 1 < scanBound)
    (fin : ∀ (g : Heap) (tk c : Nat), SetR w g s.heap.objs.size (fun j => decide (j ∈ qs)) c → c ≤ qs.length → (∀ b u, s.heap.get? b = some u → g.get? b = some u) → R (.ref s.heap.objs.size) { s with heap := g, toks := tk }) :
    wpAny (model P w) A (call (.type "set") [.ref la]) R E s := by
  have n1 : cells.size = qs.length := by have z := IntsAre.length are; rw [Array.length_toList] at z; exact z
  obtain ⟨c0, tl0, mro0⟩ := F.called_set.mro
  have k1 := F.called_set.made; have k2 := F.called_set.sub
  apply wpAny_call; apply codeAny_of_tree
  show wpAny (model P w) _ (callAny (.type "set") _) _ E s
  apply wpAny_pure; refine ⟨Code.quiet_builtin _ (by decide +kernel), ?_⟩; apply codeAny_builtin F.entry_type_call
  rw [Around.under_plain (weight_type_call_type "set" [.ref la] []) rfl]
  have k3 := F.called_set.notType; have k4 := F.called_set.canCreate; have k5 := F.typeCall_set_1 (.ref la)
  repeat any_goals (first | assumption | wp_step)
  apply codeAny_mono (code_set_led1 (.ref la) (E := E) (Q₁ := fun x s1 => x = .ref s.heap.objs.size ∧ s1 = { s with heap := s.heap.push (void w) }) ⟨rfl, rfl⟩)
  intro r s1 hr
  match r, hr with
  | .error e, hr => exact hr
  | .ok (.ret x), hr =>
    obtain ⟨rfl, rfl⟩ := hr
    have g0 : (s.heap.push (void w)).get? s.heap.objs.size = some (void w) := Heap.get?_push_size _ rfl
    have ty : Shared.TypeIs { s with heap := s.heap.push (void w) } (.ref s.heap.objs.size) "set" := ⟨_, g0, rfl⟩
    have k6 := F.called_set.init.lookup; have k7 := F.called_set.init.bind (.ref s.heap.objs.size)
    repeat any_goals (first | assumption | wp_step)
    apply codeAny_mono (codeAny_call_builtin (R := wants (fun y s2 => y = .none ∧ ∃ g tk c, s2 = { s with heap := g, toks := tk } ∧ SetR w g s.heap.objs.size (fun j => decide (j ∈ qs)) c ∧ c ≤ qs.length ∧
      ∀ b u, s.heap.get? b = some u → g.get? b = some u) E) F.called_set.init.plain F.entry_set_init (check_set_init_1 ty ?body))
    case body =>
      obtain ⟨⟨oc, od, da, sl⟩, ho, hc, m, hd⟩ := hla
      dsimp only at hc hd
      subst hc hd
      have ho2 : (s.heap.push (void w)).get? la = some { cls := .type "list", dict := od, data := .seq cells m, slots := sl } := Heap.get?_push_of_some _ ho
      have k8 := F.sub_list_set; have k9 := F.sub_list_frozenset
      have k10 : (Value.type "list" == Value.type "dict") = false := by decide +kernel
      have at1 : (s.heap.push (void w)).IsList la cells := ⟨_, ho2, rfl, m, rfl⟩
      unfold Builtin.«set.__init__» noKeywords Builtin.Frozenset.updateFrom
      generalize hit : pyIter = it
      wp_walk
      subst hit
      apply wpAny_pyIter_list at1; apply wpAny_bind; apply wpAny_runValue
      have lt1 : la < s.heap.objs.size := Heap.lt_size ho
      have nh3 : A.in1.in1.in1.handled = none := by simp [nh]
      have sz : (s.heap.push (void w)).objs.size = s.heap.objs.size + 1 := by rw [Heap.size_push]
      have ne1 : la ≠ (s.heap.push (void w)).objs.size := by rw [sz]; exact Nat.ne_of_lt (Nat.lt_succ_of_lt lt1)
      have out1 : s.heap.objs.size ∉ [(s.heap.push (void w)).objs.size, la] := by
        rw [sz]; intro z; simp only [List.mem_cons, List.not_mem_nil, or_false] at z
        rcases z with z | z
        · exact absurd z (Nat.ne_of_lt (Nat.lt_succ_self _))
        · exact absurd z (Nat.ne_of_gt lt1)
      have val1 : ∀ (i : Nat) (v : Value), cells[i]? = some v → ∃ k t, qs[i]? = some k ∧ v = .int k t := by
        intro i v hv
        have hi : i < qs.length := by rw [← n1]; exact (Array.getElem?_eq_some_iff.mp hv).1
        obtain ⟨t, e⟩ := IntsAre.int_at are i v (by rw [Array.getElem?_toList]; exact hv)
        refine ⟨qs[i], t, List.getElem?_eq_getElem hi, e.trans ?_⟩
        rw [List.getD_eq_getElem?_getD, List.getElem?_eq_getElem hi]; rfl
      refine set_update_ints (Walks.list nh3 _ la ne1 cells).toS s.heap.objs.size out1 qs n1 few val1 (cells.size - 0) 0 _ (by omega) (Nat.zero_le _) ⟨⟨_, Heap.get?_push_size _ rfl, rfl, rfl⟩, at1.push _⟩ ?s0 ?s1
      case s0 =>
        refine ⟨0, Nat.le_refl 0, setR_new_at ?_⟩
        exact Heap.get?_push_of_some _ g0
      case s1 =>
        rintro ⟨g, ge, dr, tk, os⟩ c mv hc hS
        have q1 : ge = s.gens := mv.gens; have q2 : dr = s.drawn := mv.drawn; have q3 : os = s.os := mv.os
        subst q1 q2 q3
        show wpAny (model P w) _ _ _ E _
        apply wpAny_pure
        show wpAny (model P w) _ (ret Value.none) _ E _
        rw [n1] at hc
        refine wpAny_pure ⟨rfl, g, tk, c, rfl, hS, hc, fun b u hb => ?_⟩
        have lb : b < s.heap.objs.size := Heap.lt_size hb
        apply mv.heap b u
        · intro z; rw [sz] at z; simp only [List.mem_cons, List.not_mem_nil, or_false] at z
          rcases z with z | z
          · exact absurd z (Nat.ne_of_lt lb)
          · exact absurd z (Nat.ne_of_lt (Nat.lt_succ_of_lt lb))
        · exact Heap.get?_push_of_some _ (Heap.get?_push_of_some _ hb)
    intro y s2 hy
    match y, hy with
    | .error e, hy => exact hy
    | .ok (.ret z), hy =>
      obtain ⟨rfl, g, tk, c, rfl, hS, hc, hk⟩ := hy
      repeat any_goals (first | assumption | wp_step)
      exact fin g tk c hS hc hk
end
/-- set(xs) -/
def rSetI (K : PySem.W.Frag) (w : World) : List V → Hp → VK → Prop := fun vs H Q => ∃ (a : Addr) (qs : List Int), vs = [.ref a] ∧ SqL K H a (qs.map V.int) ∧ qs.length ≤ 1000 ∧ ∀ p n, H p = none → n ≤ qs.length → Q (.ref p) (upd H p (SetO w p (fun j => decide (j ∈ qs)) n))
theorem cr_setI {X : Cx} (hc : X.calm = true) : CallR X (.type "set") (rSetI X.K X.w) := by
  intro pins s σ H vs us Q I r h
  obtain ⟨a, qs, rfl, hs, hn, q⟩ := h
  obtain ⟨its, rv, pl, hz⟩ := I.list hs
  rw [Vals.ref1 r]
  refine set_of_list (I.ok.hd hc) pl.isList (qs := qs) (by simpa using rv.ints) (by unfold scanBound; omega) fun g tk c hS hcn k => ?_
  exact ⟨.ref s.heap.objs.size, _, I.laid (t' := tk) k (Nat.le_refl _) (setO_new hS), rfl, q _ c (I.hok.fresh (Nat.le_refl _)) hcn⟩
end LC
namespace LC
open PySem PySem.Spec PyProof.Rows L2
theorem crW {X : Cx} {w : World} (r : World → List V → Hp → VK → Prop) {f : Value} (h : CallR X f (r X.w)) (e : X.w = w) : CallR X f (r w) := e ▸ h
theorem crKW {X : Cx} {K : PySem.W.Frag} {w : World} (r : PySem.W.Frag → World → List V → Hp → VK → Prop) {f : Value} (h : CallR X f (r X.K X.w)) (e : X.K = K) (e2 : X.w = w) : CallR X f (r K w) := e2 ▸ e ▸ h
end LC
-- P2
namespace LC
variable [Tbl]
open PySem PySem.Spec PyProof.Rows L2 GenW RZ
theorem getI {ns : List Int} {i : Nat} {x : V} (e : (ns.map V.int)[i]? = some x) : ∃ n, ns[i]? = some n ∧ V.int n = x := by
  rw [List.getElem?_map] at e
  cases z : ns[i]? with
  | none => rw [z] at e; cases e
  | some n => rw [z] at e; cases e; exact ⟨n, rfl, rfl⟩
theorem getV {ns : List Int} {i : Nat} {n : Int} (e : ns[i]? = some n) : (ns.map V.int)[i]? = some (.int n) := by rw [List.getElem?_map, e]; rfl
/-- a plan, as the heap holds it -/
structure PlnAt (H : Hp) (v : V) (pl : List (List Int)) : Prop where
  ex : ∃ (a : Addr) (rs : List V), v = .ref a ∧ H a = some (.tup rs) ∧ Rows H rs pl
theorem PlnAt.x {S : Addr → Prop} {H H1 : Hp} {v : V} {pl : List (List Int)} (h : PlnAt H v pl) (x : Xt S H H1) : PlnAt H1 v pl := by
  obtain ⟨a, rs, h1, h2, h3⟩ := h.ex
  exact ⟨a, rs, h1, x.tups _ _ h2, h3.x x⟩
theorem flat_ints (ns : List Int) : (ns.map V.int).all flatV = true := by
  rw [List.all_map, List.all_eq_true]; exact fun _ _ => rfl
theorem inV_ints {n : Int} : ∀ {ns : List Int}, inV (.int n) (ns.map V.int) = decide (n ∈ ns)
  | [] => rfl
  | m :: ns => by
    show (eqV (.int m) (.int n) || inV (.int n) (ns.map V.int)) = _
    rw [inV_ints]
    show ((m == n) || decide (n ∈ ns)) = _
    rw [Bool.beq_eq_decide_eq, ← Bool.decide_or]
    exact decide_eq_decide.mpr (by rw [List.mem_cons]; exact ⟨fun h => h.imp Eq.symm id, fun h => h.imp Eq.symm id⟩)
theorem PlOk.few {k : Clk} {pl : List (List Int)} (ok : k.Ok) (h : PlOk k pl) {i : Nat} {ts : List Int} (e : pl[i]? = some ts) : ts.length ≤ 4 := by
  obtain ⟨h1, _⟩ := h.row i ts e
  cases z : k.eds[i]? with
  | none => rw [z] at h1; have : (ts.length : Int) = 0 := h1; omega
  | some l => rw [z] at h1; have : (ts.length : Int) = l := h1; have := ok.eds l (List.mem_of_getElem? z); omega
def rInS (K : PySem.W.Frag) : R2 := fun x y H Q => rIn K false x y H Q
theorem op_inS {X : Cx} : OpR X (compareOp .In) (rInS X.K) := op_in_seq
def rNinS (K : PySem.W.Frag) : R2 := fun x y H Q => rIn K true x y H Q
theorem op_ninS {X : Cx} : OpR X (compareOp .NotIn) (rNinS X.K) := op_notIn_seq
end LC
namespace LC
variable [Tbl]
open PySem PySem.Spec PyProof.Rows L2 GenW RZ
theorem for_enumL {K : PySem.W.Frag} {a : Addr} {xs : List V} {g : TG} {tb : TS} {D : Ends} {σ : L2.St} {H : Hp} (Pv : Nat → L2.St → Hp → Prop) (h0 : Pv 0 σ H) (hl : ∀ i σ H, i ≤ xs.length → Pv i σ H → SqL K H a xs)
    (hs : ∀ i x T σ H, xs[i]? = some x → Pv i σ H → H T = none → g (.ref T) σ (upd H T (.tup [.int (i : Nat), x])) fun σ2 H2 => tb { D with nx := Pv (i + 1), ct := Pv (i + 1), bk := D.nx } σ2 H2) (hd : ∀ σ H, Pv xs.length σ H → D.nx σ H) :
    ∃ W : Nat → Nat → L2.St → Hp → Prop, (∃ m, W 0 m σ H) ∧ ∀ i m σ H, W i m σ H →
      ((Ite K a).stop i H ∧ D.nx σ H) ∨ ((Ite K a).go i H ∧ ∃ N : L2.St → Hp → Prop, (∀ σ' H', N σ' H' → ∃ m', m' < m ∧ W (i + 1) m' σ' H') ∧ ∀ x H', (Ite K a).yld i H x H' → g x σ H' fun σ2 H2 => tb { D with nx := N, ct := N, bk := D.nx } σ2 H2) := by
  refine ⟨fun i m σ H => m = xs.length - i ∧ i ≤ xs.length ∧ Pv i σ H, ⟨xs.length, by simp, Nat.zero_le _, h0⟩, ?_⟩
  rintro i m σ H ⟨rfl, hi, p⟩
  have q := hl i σ H hi p
  by_cases hlt : i < xs.length
  · refine .inr ⟨⟨xs, xs[i], q, by simp [hlt]⟩, Pv (i + 1), fun σ' H' p' => ⟨xs.length - (i + 1), by omega, rfl, hlt, p'⟩, fun x H' y => ?_⟩
    obtain ⟨T, u, rfl, hT, rfl, e1⟩ := y
    exact hs i u T σ H (e1 xs q) p hT
  · have e : i = xs.length := by omega
    subst e
    exact .inl ⟨⟨xs, q, Nat.le_refl _⟩, hd σ H p⟩
end LC
namespace LC
variable [Tbl]
open PySem
/-- the scope of the comprehension that a def returns -/
def retScope : List Stmt → Scope
  | [.Return (some (.ListComp _ _ sc _)) _] => sc
  | [.Return (some (.Call _ (.ListComp _ _ sc _ :: _) _ _)) _] => sc
  | _ => ⟨.function, [], false, false, []⟩
end LC
namespace LC
variable [Tbl]
open PySem PySem.Spec PyProof.Rows L2
theorem relab {env : Env} {y : Str} : ∀ {ns : List (Str × NameKind)}, (ns.lookup y = some .cell ∨ ns.lookup y = some .free) → ∀ g : Str × NameKind → Str × NameKind, (∀ p, g p = p ∨ (p.2 = .free ∧ g p = (p.1, .cell))) → ((ns.map g).lookup y = some .cell ∨ (ns.map g).lookup y = some .free)
  | [], h, _, _ => by rcases h with h | h <;> cases h
  | (n, k) :: ns, h, g, hg => by
    rw [List.map_cons]
    rcases hg (n, k) with e | ⟨e1, e⟩
    · rw [e]
      cases z : y == n with
      | true => rw [List.lookup_cons, z] at h ⊢; exact h
      | false => rw [List.lookup_cons, z] at h ⊢; exact relab (env := env) h g hg
    · rw [e]
      cases z : y == n with
      | true => rw [List.lookup_cons, z]; exact .inl rfl
      | false => rw [List.lookup_cons, z] at h ⊢; exact relab (env := env) h g hg
theorem blkOk_re {N : List Str} {sc scope : Scope} {env : Env} {own : List (Str × Nat)} (h : BlkOk N sc scope own) : BlkOk N (relabel sc env) scope own := by
  refine ⟨h.kind, h.uniq, h.ix, fun y hy e => ?_, h.own⟩
  refine relab (env := env) (h.free y hy e) _ fun p => ?_
  obtain ⟨n, k⟩ := p
  by_cases z : (k == NameKind.free && env.scope.kind == .function && env.kindOf n == some .cell) = true
  · refine .inr ⟨?_, by dsimp only; rw [if_pos z]⟩
    rw [Bool.and_eq_true, Bool.and_eq_true] at z
    exact eq_of_beq z.1.1
  · exact .inl (by dsimp only; rw [if_neg z])
end LC
namespace LC
variable [Tbl]
open PySem PySem.Spec PyProof.Rows L2
def rowsP (xss : List (List Int)) : List PyData := xss.map fun ns => PyData.tuple (ns.map PyData.int)
theorem layP : ∀ xss : List (List Int), PyData.canLayAll0 (rowsP xss) = true
  | [] => rfl
  | ns :: xss => by
    have ih := layP xss
    show PyData.canLayAll0 (PyData.tuple (ns.map PyData.int) :: rowsP xss) = true
    simp [PyData.canLayAll0, PyData.canLay0, PySem.W.ke_canLayAll0, ih]
theorem depP : ∀ xss : List (List Int), PyData.depthAll (rowsP xss) ≤ 1
  | [] => by show PyData.depthAll [] ≤ 1; simp [PyData.depthAll]
  | ns :: xss => by
    have ih := depP xss
    show PyData.depthAll (PyData.tuple (ns.map PyData.int) :: rowsP xss) ≤ 1
    simp [PyData.depthAll, PyData.depth, PySem.W.ke_depthAll]
    omega
theorem shpP (xss : List (List Int)) : SeqAt.shaped (.list (rowsP xss)) = true := by
  have h1 := layP xss
  have h2 := depP xss
  simp [SeqAt.shaped, PyData.canLay0, PyData.depth, h1]
  omega
theorem dpP {K : PySem.W.Frag} {H : Hp} : ∀ {rs : List V} {xss : List (List Int)}, Rows H rs xss → DpAll K H rs (rowsP xss)
  | [], [], _ => .nil
  | [], _ :: _, h => nomatch h.1
  | _ :: _, [], h => nomatch h.1
  | r :: rs, ns :: xss, h => by
    obtain ⟨b, e1, e2⟩ := h.2 0 ns rfl
    cases e1
    exact .cons (.tup (SqT.of e2) (dp_ints ns)) (dpP ⟨Nat.succ.inj h.1, fun i ms e => h.2 (i + 1) ms e⟩)
theorem neR_nil {K : PySem.W.Frag} {H : Hp} {S T : Addr} {rs : List V} {xss : List (List Int)} {Q : VK} (h : H S = some (.lst rs)) (r : Rows H rs xss) (e : H T = some (.lst [])) (q : Q (.bl (!xss.isEmpty)) H) : rNeD K (.ref S) (.ref T) H Q := by
  refine ⟨.list (rowsP xss), .list [], .lst (SqL.of h) (dpP r), .lst (SqL.of e) .nil, shpP xss, PySem.W.ke_shaped_ints [], ?_⟩
  cases xss with
  | nil => exact q
  | cons x xs => exact q
/-- what stands in a slot, how long a list is -/
def slI (σ : L2.St) (i : Nat) : Int := match σ[i]? with
  | some (some (.int n)) => n
  | _ => 0
def lnL (E : Addr) (H : Hp) : Nat := match H E with
  | some (.lst xs) => xs.length
  | _ => 0
theorem lnL_of {E : Addr} {H : Hp} {xs : List V} (h : H E = some (.lst xs)) : lnL E H = xs.length := by unfold lnL; rw [h]
end LC
namespace LC
variable [Tbl]
/-- how far to the next of these phases -/
def far (x t per : Int) : Int := (x - t) % per
theorem far_bd {x t per : Int} (h : 1 ≤ per) : 0 ≤ far x t per ∧ far x t per < per := ⟨Int.emod_nonneg _ (by omega), Int.emod_lt_of_pos _ (by omega)⟩
theorem far_step {x t per : Int} (h : 1 ≤ per) (hx : 0 ≤ x ∧ x < per) (hn : t % per ≠ x) : far x (t + 1) per = far x t per - 1 ∧ 1 ≤ far x t per := by
  have h0 := far_bd (x := x) (t := t) h
  have h1 : far x t per ≠ 0 := fun z => by
    unfold far at z
    have d : per ∣ x - t := Int.dvd_of_emod_eq_zero z
    apply hn
    obtain ⟨c, hc⟩ := d
    have e2 : t = x + per * (-c) := by rw [Int.mul_neg]; omega
    have this : t % per = x % per := by rw [e2, Int.add_mul_emod_self_left]
    rw [this]; exact Int.emod_eq_of_lt hx.1 hx.2
  refine ⟨?_, by omega⟩
  unfold far at *
  have e : x - (t + 1) = (x - t) % per - 1 + per * ((x - t) / per) := by have := Int.emod_add_mul_ediv (x - t) per; omega
  rw [e, Int.add_mul_emod_self_left, Int.emod_eq_of_lt (by omega) (by omega)]
end LC
namespace LC
variable [Tbl]
theorem nil_no {α : Type} {j : Nat} {x : α} (h : ([] : List α)[j]? = some x) : False := by simp at h
end LC
namespace LC
variable [Tbl]
open PySem PySem.Spec PyProof.Rows L2
/-- a tick, or None, as a value and as data -/
def rV : Option Int → V
  | none => .non
  | some t => .int t
def rD : Option Int → D
  | none => .non
  | some t => .int t
theorem at_rD {H : Hp} (r : Option Int) : At H (rD r) (rV r) := by
  cases r with
  | none => unfold rD rV At; rfl
  | some t => exact at_int.mpr rfl
theorem rV_none (r : Option Int) : decide (rV r = V.non) = r.isNone := by
  cases r with
  | none => exact decide_eq_true rfl
  | some t => exact decide_eq_false fun z => nomatch z
theorem at_bl {H : Hp} (b : Bool) : At H (.bl b) (.bl b) := by unfold At; rfl
theorem rD_dep (r : Option Int) : (rD r).dep < 3 := by
  cases r with
  | none => show 0 < 3; decide
  | some t => show 0 < 3; decide
theorem rD_sm (r : Option Int) : (rD r).sm = true := by cases r <;> rfl
theorem bad_two {k : Clk} (ok : k.Ok) {st : List Int} {t : Int} : ∀ ms ∈ badAt k st t, ms.length ≤ 1000 := fun ms hm => by
  unfold badAt badOf tchAt at hm
  obtain ⟨u, hu, rfl⟩ := List.mem_map.mp (List.mem_filter.mp hm).1
  obtain ⟨p, wi, oi, rfl, _⟩ := ok.tch u (List.mem_filter.mp hu).1
  show 2 ≤ 1000
  decide
theorem bad_len {k : Clk} (ok : k.Ok) {st : List Int} {t : Int} : (badAt k st t).length ≤ 1000 := Nat.le_trans badOf_len ok.tchL
end LC
namespace LC
variable [Tbl]
open PySem PySem.Spec PyProof.Rows L2
theorem RowAt.neI {K : PySem.W.Frag} {H : Hp} {row scr st : Addr} {ns es : List Int} (h : RowAt K H row scr ns) (e : H st = some (.lst (es.map V.int))) : st ≠ row := fun z => by
  obtain ⟨_, _, _, e9, _⟩ := h.ex
  rw [z, e9] at e
  cases es with
  | nil => cases e
  | cons x xs => cases e
end LC
-- S2
namespace LC
variable [Tbl]
open PySem PySem.Spec PyProof.Rows L2
/-! range(lo, hi) of numbers of any size -/
theorem turn_long {P : Program} {w : World} {K : PySem.W.Frag} {tg : Expr} (it : Addr) (lo : Int) (n : Nat) : Turn P w K tg (Itr lo n) [it] it (fun i h => IsLongIter h it (lo + (i : Nat) * 1) ((n : Int) - (i : Nat)) 1) := by
  refine ⟨List.mem_cons_self, fun i h st b hb => ?_, fun i h h2 st k => k it List.mem_cons_self _ st, ?_, ?_, fun _ _ _ _ _ st h => wpAny_pyIter_longiter st h⟩
  · rw [List.mem_singleton] at hb
    subst hb
    exact ⟨_, st, fun v z => nomatch (show Data.fields _ = Data.cell v from z)⟩
  · rintro X rfl rfl rfl hc i pins s σ H E I hf st hg
    obtain ⟨f0, f1, f2, f3, f4, f5⟩ := hf it List.mem_cons_self
    refine (Walks.longrange (prog := X.prog) (w := X.w) (I.ok.hd hc) it lo 1 n).item i s _ _ hg st fun v g tk hv st2 kk => ?_
    obtain ⟨t, rfl⟩ := hv
    have I1 : Inv X pins σ H { s with heap := g, toks := tk } := I.turned (fun b o hb e => kk b o (by rw [List.mem_singleton]; exact hb) e) f0 f1 f3 f4 f5
    refine ⟨_, rfl, go_of (s := { s with heap := g, toks := tk }) (n := "longrange_iterator") st2 rfl rfl (by decide +kernel) ⟨.int (lo + i), H, I1, ⟨t, ?_⟩, ⟨rfl, rfl⟩, st2, fun b hb => (hf b hb).1⟩⟩
    rw [Int.mul_one]
  · rintro X rfl rfl rfl hc i pins s σ H E I hf st hg
    obtain ⟨f0, f1, f2, f3, f4, f5⟩ := hf it List.mem_cons_self
    exact wpAny_pyNext_long_end (I.ok.hd hc) st (by have : n ≤ i := hg; omega) fun g eb => ⟨rfl, I.turned (t' := s.toks) (fun b o hb e => eb b o hb e) f0 f1 f3 f4 f5⟩
theorem range_any {X : Cx} {tg : Expr} {pins : List (Addr × Obj)} {σ : L2.St} {H : Hp} {s : Shared} {R : It → Hp → Prop} {E : Value → Shared → Prop} {lo hi : Int} {t u v : Tok} {tk : Nat} (I : Inv X pins σ H s) (q : R (Itr lo (hi - lo).toNat) H) :
    wpAny (model X.prog X.w) X.A (pyIter (.ref s.heap.objs.size)) (PIE X pins σ tg R) E { s with heap := s.heap.push { cls := .type "range", data := .fields #[.int lo t, .int hi u, .int 1 v] }, toks := tk } := by
  generalize hg : s.heap.push { cls := .type "range", data := .fields #[.int lo t, .int hi u, .int 1 v] } = g
  have old : ∀ b o, s.heap.get? b = some o → g.get? b = some o := fun b o e => by rw [← hg]; exact Heap.get?_push_of_some _ e
  have I1 : Inv X pins σ H { s with heap := g, toks := tk } := I.kept old
  have hr : IsRange g s.heap.objs.size lo hi 1 t u v := by rw [← hg]; exact IsRange.new ..
  have e1 : lo + ((0 : Nat) : Int) * 1 = lo := by omega
  have e2 : (((hi - lo).toNat : Nat) : Int) - ((0 : Nat) : Int) = Builtin.Range.rangeSize lo hi 1 := by rw [rangeSize_one]; split <;> omega
  cases hs : Builtin.Range.small lo hi 1 with
  | true =>
    refine wpAny_pyIter_range (s := { s with heap := g, toks := tk }) hr hs ⟨g.objs.size, [g.objs.size], _, _, H, rfl, I1.kept (t' := tk) fun b o e => Heap.get?_push_of_some _ e, turn_range _ lo (hi - lo).toNat, ?_, fun b hb => ?_, q⟩
    · show IsRangeIter _ _ (lo + ((0 : Nat) : Int) * 1) _ 1
      rw [e1, e2]
      exact Heap.get?_push_size _ rfl
    · rw [List.mem_singleton] at hb
      subst hb
      exact I1.fpOk (Nat.le_refl _) (I1.hok.fresh (Nat.le_refl _))
  | false =>
    refine wpAny_pyIter_longrange (s := { s with heap := g, toks := tk }) hr hs ⟨g.objs.size, [g.objs.size], _, _, H, rfl, I1.kept (t' := tk) fun b o e => Heap.get?_push_of_some _ e, turn_long _ lo (hi - lo).toNat, ?_, fun b hb => ?_, q⟩
    · show IsLongIter _ _ (lo + ((0 : Nat) : Int) * 1) _ 1
      rw [e1, e2]
      exact Heap.get?_push_size _ rfl
    · rw [List.mem_singleton] at hb
      subst hb
      exact I1.fpOk (Nat.le_refl _) (I1.hok.fresh (Nat.le_refl _))
/-- the walk of range(lo, hi) -/
def iRngB (ta : TA) : TI := fun σ H R => ta σ H fun vs H1 => ∃ i j : Int, vs = [.int i, .int j] ∧ R (Itr i (j - i).toNat) H1
theorem pi_rangeB {X : Cx} {tg a b : Expr} {ta : TA} {p pos : Pos} (hg : Gl X "range") (hm : X.mg "range" = none) (ha : PA X [a, b] ta) (h1 : starEach [a, b] X.env = [(false, eval a X.env), (false, eval b X.env)] := by rfl) (h2 : starEach [b] X.env = [(false, eval b X.env)] := by rfl) :
    PI X tg (.Call (.Name "range" p) [a, b] [] pos) (iRngB ta) := by
  constructor
  intro pins s σ H R I h
  refine Call_ (ld_blt I hg hm boot_range (PyProof.Rows.callWith_type1 (thn (ha.run pos pins s σ H _ I h) fun us s1 hh => ?_) (by rw [h1, h2]) (by rw [h2]; rfl)))
  obtain ⟨vs, H1, I1, r1, i, j, e, q⟩ := hh
  subst e
  obtain ⟨u1, u2, rfl, ⟨t1, rfl⟩, ⟨t2, rfl⟩⟩ := vals2 r1
  exact call_range_2 (range_any I1 q)
end LC
-- S3
namespace LC
variable [Tbl]
open PySem PySem.Spec PyProof.Rows L2
/-! pairs of rows -/
def PPs (H : Hp) (rs : List V) (ls : List (List Int × List Int)) : Prop := rs.length = ls.length ∧ ∀ (i : Nat) (p : List Int × List Int), ls[i]? = some p → ∃ b c d : Addr, rs[i]? = some (V.ref b) ∧ H b = some (.tup [.ref c, .ref d]) ∧ H c = some (.tup (p.1.map V.int)) ∧ H d = some (.tup (p.2.map V.int))
section
variable {S : Addr → Prop} {H H1 : Hp} {rs : List V} {ls : List (List Int × List Int)}
theorem PPs.mono (h : PPs H rs ls) (x : Tk H H1) : PPs H1 rs ls := ⟨h.1, fun i p e => by
  obtain ⟨b, c, d, e1, e2, e3, e4⟩ := h.2 i p e
  exact ⟨b, c, d, e1, x _ _ e2, x _ _ e3, x _ _ e4⟩⟩
theorem PPs.x (h : PPs H rs ls) (x : Xt S H H1) : PPs H1 rs ls := h.mono x.tups
theorem PPs.nil : PPs H [] [] := ⟨rfl, fun i p e => (nil_no e).elim⟩
theorem PPs.get (h : PPs H rs ls) {i : Nat} {v : V} (e : rs[i]? = some v) : ∃ (b c d : Addr) (p : List Int × List Int), v = .ref b ∧ ls[i]? = some p ∧ H b = some (.tup [.ref c, .ref d]) ∧ H c = some (.tup (p.1.map V.int)) ∧ H d = some (.tup (p.2.map V.int)) := by
  have hl : i < ls.length := by rw [← h.1]; exact (List.getElem?_eq_some_iff.mp e).1
  obtain ⟨b, c, d, e1, e2, e3, e4⟩ := h.2 i _ (List.getElem?_eq_getElem hl)
  rw [e] at e1; cases e1
  exact ⟨b, c, d, _, rfl, List.getElem?_eq_getElem hl, e2, e3, e4⟩
theorem PPs.snoc {b c d : Addr} {p : List Int × List Int} (h : PPs H rs ls) (e2 : H b = some (.tup [.ref c, .ref d])) (e3 : H c = some (.tup (p.1.map V.int))) (e4 : H d = some (.tup (p.2.map V.int))) : PPs H (rs ++ [.ref b]) (ls ++ [p]) := ⟨by rw [List.length_append, List.length_append, h.1]; rfl, fun i q e1 => by
  by_cases hi : i < ls.length
  · rw [List.getElem?_append_left hi] at e1
    obtain ⟨b', c', d', f1, f2⟩ := h.2 i q e1
    exact ⟨b', c', d', by rw [List.getElem?_append_left (by rw [h.1]; exact hi)]; exact f1, f2⟩
  · rw [List.getElem?_append_right (by omega)] at e1
    have z : i - ls.length = 0 := by
      have := (List.getElem?_eq_some_iff.mp e1).1
      simp at this; omega
    rw [z] at e1
    cases e1
    exact ⟨b, c, d, by rw [List.getElem?_append_right (by rw [h.1]; omega), h.1, z]; rfl, e2, e3, e4⟩⟩
end
def dPP (ls : List (List Int × List Int)) : D := .tup (ls.map fun p => D.tup [.tup (p.1.map D.int), .tup (p.2.map D.int)])
theorem pps_at {H : Hp} {p : Addr} {rs : List V} {ls : List (List Int × List Int)} (e : H p = some (.tup rs)) (r : PPs H rs ls) : At H (dPP ls) (.ref p) := by
  refine at_tup.mpr ⟨p, rs, rfl, e, ats_of (by rw [List.length_map]; exact r.1) fun i d v h1 h2 => ?_⟩
  obtain ⟨b, c, d0, q, rfl, e1, e2, e3, e4⟩ := r.get h2
  rw [List.getElem?_map, e1] at h1
  cases h1
  exact at_tup.mpr ⟨b, _, rfl, e2, Ats.cons (at_ints.mpr ⟨c, rfl, e3⟩) (Ats.cons (at_ints.mpr ⟨d0, rfl, e4⟩) Ats.nil)⟩
theorem dPP_dep (ls : List (List Int × List Int)) : (dPP ls).dep < 4 := by
  show D.deps (ls.map fun p => D.tup [.tup (p.1.map D.int), .tup (p.2.map D.int)]) + 1 < 4
  have : ∀ ls : List (List Int × List Int), D.deps (ls.map fun p => D.tup [.tup (p.1.map D.int), .tup (p.2.map D.int)]) ≤ 2 := fun ls => by
    induction ls with
    | nil => exact Nat.zero_le _
    | cons p ls ih =>
      show max (max (D.deps (p.1.map D.int) + 1) (max (D.deps (p.2.map D.int) + 1) 0) + 1) (D.deps (ls.map fun p => D.tup [.tup (p.1.map D.int), .tup (p.2.map D.int)])) ≤ 2
      rw [deps_ints, deps_ints]; omega
  have := this ls
  omega
theorem dPP_sm {ls : List (List Int × List Int)} (h : ls.length ≤ 1000) (h2 : ∀ p ∈ ls, p.1.length ≤ 1000 ∧ p.2.length ≤ 1000) : (dPP ls).sm = true := by
  show (decide ((ls.map fun p => D.tup [.tup (p.1.map D.int), .tup (p.2.map D.int)]).length ≤ 1000) && D.sms (ls.map fun p => D.tup [.tup (p.1.map D.int), .tup (p.2.map D.int)])) = true
  rw [List.length_map, decide_eq_true h, Bool.true_and]
  clear h
  induction ls with
  | nil => rfl
  | cons p ls ih =>
    obtain ⟨a, b⟩ := h2 p List.mem_cons_self
    show ((decide (2 ≤ 1000) && ((decide ((p.1.map D.int).length ≤ 1000) && D.sms (p.1.map D.int)) && ((decide ((p.2.map D.int).length ≤ 1000) && D.sms (p.2.map D.int)) && true))) && D.sms (ls.map fun p => D.tup [.tup (p.1.map D.int), .tup (p.2.map D.int)])) = true
    rw [List.length_map, List.length_map, decide_eq_true a, decide_eq_true b, sms_ints, sms_ints, ih fun ms hm => h2 ms (List.mem_cons_of_mem _ hm)]; rfl
/-! sorted of pairs of pairs -/
def q0 (p : List Int × List Int) : Int := p.1[0]?.getD 0
def q1 (p : List Int × List Int) : Int := p.1[1]?.getD 0
def q2 (p : List Int × List Int) : Int := p.2[0]?.getD 0
def q3 (p : List Int × List Int) : Int := p.2[1]?.getD 0
def Lt4 (p r : List Int × List Int) : Prop := q0 p < q0 r ∨ (q0 p = q0 r ∧ (q1 p < q1 r ∨ (q1 p = q1 r ∧ (q2 p < q2 r ∨ (q2 p = q2 r ∧ q3 p < q3 r)))))
instance (p r : List Int × List Int) : Decidable (Lt4 p r) := by unfold Lt4; infer_instance
def enc4 (p : List Int × List Int) : PyData := .tuple [.tuple [.int (q0 p), .int (q1 p)], .tuple [.int (q2 p), .int (q3 p)]]
theorem lt_enc4 (p r : List Int × List Int) : PySem.W.dataLt (enc4 p) (enc4 r) = decide (Lt4 p r) := by
  unfold enc4
  rw [PySem.W.dataLt_pair (by rfl) (by rfl), PySem.W.dataLt_ii, PySem.W.dataLt_ii]
  have e : ∀ a b c d : Int, PyData.eqv (.tuple [.int a, .int b]) (.tuple [.int c, .int d]) = (decide (a = c) && decide (b = d)) := fun a b c d => by
    show ((a == c) && ((b == d) && true)) = _
    rw [Bool.and_true, Bool.beq_eq_decide_eq, Bool.beq_eq_decide_eq]
  rw [e, e]
  have z : ∀ a b : Prop, ∀ [Decidable a] [Decidable b], (decide a && decide b) = decide (a ∧ b) := fun a b => by simp
  rw [z, z]
  by_cases h1 : q0 p = q0 r ∧ q1 p = q1 r
  · rw [if_pos (decide_eq_true h1)]
    by_cases h2 : q2 p = q2 r ∧ q3 p = q3 r
    · rw [if_pos (decide_eq_true h2)]
      exact (decide_eq_false (by unfold Lt4; omega)).symm
    · rw [if_neg (by rw [decide_eq_false h2]; exact Bool.false_ne_true)]
      exact decide_eq_decide.mpr (by unfold Lt4; omega)
  · rw [if_neg (by rw [decide_eq_false h1]; exact Bool.false_ne_true)]
    exact decide_eq_decide.mpr (by unfold Lt4; omega)
def rSort4 (K : PySem.W.Frag) : List V → Hp → VK → Prop := fun vs H Q => ∃ (a : Addr) (xs : List V) (ls : List (List Int × List Int)), vs = [.ref a] ∧ SqL K H a xs ∧ PPs H xs ls ∧ (∀ p ∈ ls, ∃ i a j b : Int, p = ([i, a], [j, b])) ∧
  ∀ ys ms p, H p = none → ms.Perm ls → ms.Pairwise (fun x y => ¬ Lt4 y x) → PPs H ys ms → Q (.ref p) (upd H p (.lst ys))
theorem pps_dp {K : PySem.W.Frag} {H : Hp} {v : V} {b c d : Addr} {i a j e : Int} (h1 : H b = some (.tup [.ref c, .ref d])) (h2 : H c = some (.tup ([i, a].map V.int))) (h3 : H d = some (.tup ([j, e].map V.int))) : Dp K H (.ref b) (enc4 ([i, a], [j, e])) :=
  .tup (SqT.of h1) (.cons (.tup (SqT.of h2) (.cons (.int i) (.cons (.int a) .nil))) (.cons (.tup (SqT.of h3) (.cons (.int j) (.cons (.int e) .nil))) .nil))
theorem cr_sort4 {X : Cx} (hu : X.A.units + 64 < cLine) : CallR X (.builtin "sorted") (rSort4 X.K) := by
  intro pins s σ H vs us Q I r h
  obtain ⟨a, xs, ls, rfl, hs, hp, h4, q⟩ := h
  obtain ⟨its, rv, hl, hz⟩ := I.list hs
  rw [Vals.ref1 r]
  have each : ∀ (xs : List V) (its : List Value) (ls : List (List Int × List Int)), Vals xs its → PPs H xs ls → (∀ p ∈ ls, ∃ i a j b : Int, p = ([i, a], [j, b])) →
      PySem.W.EachIs (fun (v : Value) (b : V × (List Int × List Int)) => RelV b.1 v ∧ (∃ as, PySem.Reads s.heap v (enc4 b.2) as) ∧ PPs H [b.1] [b.2]) its (xs.zip ls) := by
    intro xs
    induction xs with
    | nil => intro its ls rv hp _; cases rv; cases ls with
      | nil => exact .nil
      | cons _ _ => exact nomatch hp.1
    | cons x xs ih =>
      intro its ls rv hp h4
      cases rv with
      | cons r1 r2 =>
        cases ls with
        | nil => exact nomatch hp.1
        | cons p ls =>
          refine .cons ⟨r1, ?_, ?_⟩ (ih _ ls r2 ⟨Nat.succ.inj hp.1, fun i q e => hp.2 (i + 1) q e⟩ fun q hq => h4 q (List.mem_cons_of_mem _ hq))
          · obtain ⟨b, c, d, e1, e2, e3, e4⟩ := hp.2 0 p rfl
            obtain ⟨i, a, j, e, rfl⟩ := h4 p List.mem_cons_self
            cases e1
            exact Dp.reads I _ _ _ (pps_dp (v := .non) e2 e3 e4) r1
          · refine ⟨rfl, fun i q e => ?_⟩
            cases i with
            | zero => cases e; exact hp.2 0 p rfl
            | succ i => exact absurd e (by simp)
  have ea := each xs its ls rv hp h4
  have len : xs.length = ls.length := hp.1
  refine PySem.W.sorted_data (R := fun (v : Value) (b : V × (List Int × List Int)) => RelV b.1 v ∧ PPs H [b.1] [b.2]) (enc := fun b => enc4 b.2) (bs := xs.zip ls) hl.isList (ea.mono fun _ _ z => ⟨z.1, z.2.2⟩) (ea.mono fun _ _ z => z.2.1) (.of fun b c => by rfl) (.tuples fun b => ⟨_, _, rfl⟩) (by rw [List.length_zip, len, Nat.min_self, ← len]; exact hz) (fun b _ => ?_) fun out h1 h2 => ?_
  · have : (enc4 b.2).depth ≤ 2 := by simp [enc4, PyData.depth, PyData.depthAll]
    omega
  · generalize hcs : (xs.zip ls).mergeSort (PySem.W.dataLe false fun b => enc4 b.2) = cs at h2
    have hperm : cs.Perm (xs.zip ls) := by rw [← hcs]; exact List.mergeSort_perm _ _
    have hsort : cs.Pairwise fun x y => ¬ Lt4 y.2 x.2 := by
      have le_eq : (PySem.W.dataLe false fun (b : V × (List Int × List Int)) => enc4 b.2) = fun x y => !decide (Lt4 y.2 x.2) := by
        rw [PySem.W.dataLe_eq]
        funext x y
        show (!PySem.W.dataLt (enc4 y.2) (enc4 x.2)) = _
        rw [lt_enc4]
      rw [le_eq] at hcs
      have := List.pairwise_mergeSort (le := fun (x y : V × (List Int × List Int)) => !decide (Lt4 y.2 x.2)) (fun x y z h1 h2 => by
        rw [Bool.not_eq_true', decide_eq_false_iff_not] at h1 h2 ⊢
        unfold Lt4 at *; omega) (fun x y => by
        rw [Bool.or_eq_true, Bool.not_eq_true', Bool.not_eq_true', decide_eq_false_iff_not, decide_eq_false_iff_not]
        unfold Lt4; omega) (xs.zip ls)
      rw [hcs] at this
      exact this.imp fun {x y} h => by rw [Bool.not_eq_true', decide_eq_false_iff_not] at h; exact h
    have back : ∀ (out : List Value) (cs : List (V × (List Int × List Int))), PySem.W.EachIs (fun (v : Value) (b : V × (List Int × List Int)) => RelV b.1 v ∧ PPs H [b.1] [b.2]) out cs → Vals (cs.map (·.1)) out ∧ PPs H (cs.map (·.1)) (cs.map (·.2)) := by
      intro out cs e
      induction e with
      | nil => exact ⟨.nil, PPs.nil⟩
      | cons r _ ih =>
        refine ⟨.cons r.1 ih.1, by rw [List.length_map, List.length_map], fun i q hq => ?_⟩
        cases i with
        | zero => exact r.2.2 0 q hq
        | succ i => exact ih.2.2 i q hq
    obtain ⟨v1, v2⟩ := back out cs h2
    obtain ⟨ep, he⟩ := PyProof.Rows.sortedAll_at s.heap its out.toArray
    have hlen : (cs.map (·.1)).length ≤ sizeLine := by
      rw [List.length_map, hperm.length_eq, List.length_zip, len, Nat.min_self, ← len]; exact hz
    refine ⟨.ref _, upd H (s.heap.objs.size + 1) (.lst (cs.map (·.1))), I.laid (t' := s.toks) (fun _ _ => PyProof.Rows.sortedAll_old) (Nat.le_succ _) ⟨hlen, out, ep, v1, he⟩, rfl, q _ (cs.map (·.2)) _ (I.hok.fresh (Nat.le_succ _)) ?_ (List.pairwise_map.mpr hsort) v2⟩
    have := hperm.map (·.2)
    rw [List.map_snd_zip (by omega)] at this
    exact this
end LC
-- P3
namespace LC
variable [Tbl]
/-! who leans on whom -/
def phs (tch : List (List Int)) (i j : Int) : List Int := (tch.filter fun t => decide (t.drop 1 = [min i j, max i j])).map fun t => t[0]?.getD 0
/-- the least edition of partner j that exchange (i, a) leans on, 0 for none -/
def least (k : Clk) (i a j : Int) : Int := if j = i then a - 1 else if phs k.tch i j = [] then 0 else nd k.bok i a j
def lw1 (k : Clk) (i a : Int) (j : Nat) : List (List Int) := if 0 < least k i a j then [[(j : Int), least k i a j]] else []
def leanW (k : Clk) (i a : Int) (m : Nat) : List (List Int) := (List.range m).flatMap (lw1 k i a)
theorem leanW_succ (k : Clk) (i a : Int) (m : Nat) : leanW k i a (m + 1) = leanW k i a m ++ lw1 k i a m := by
  unfold leanW; rw [List.range_succ, List.flatMap_append, List.flatMap_singleton]
theorem leanW_len (k : Clk) (i a : Int) : ∀ m, (leanW k i a m).length ≤ m
  | 0 => Nat.le_refl _
  | m + 1 => by
    rw [leanW_succ, List.length_append]
    have := leanW_len k i a m
    have : (lw1 k i a m).length ≤ 1 := by unfold lw1; split <;> simp
    omega
def pairsOf (k : Clk) (u : List Int) : List (List Int × List Int) := (leanW k (u[0]?.getD 0) (u[1]?.getD 0) k.eds.length).map fun w => (u, w)
/-- all leans, in order -/
def leans (k : Clk) : List (List Int × List Int) := (due k.eds k.eds.length).flatMap (pairsOf k)
/-- the same, as the law finds them -/
def lawJ1 (k : Clk) (i a : Int) (j : Nat) : List (List Int × List Int) := if i ≠ j ∧ phs k.tch i j ≠ [] ∧ 0 < nd k.bok i a j then [([i, a], [(j : Int), nd k.bok i a j])] else []
def lawJ (k : Clk) (i a : Int) (m : Nat) : List (List Int × List Int) := (List.range m).flatMap (lawJ1 k i a)
def lawA0 (i a : Int) : List (List Int × List Int) := if 1 < a then [([i, a], [i, a - 1])] else []
def lawA (k : Clk) (i a : Int) : List (List Int × List Int) := lawA0 i a ++ lawJ k i a k.eds.length
def lawI (k : Clk) (i : Nat) (m : Nat) : List (List Int × List Int) := (List.range m).flatMap fun (a0 : Nat) => lawA k i (1 + (a0 : Int))
def lawN (k : Clk) (m : Nat) : List (List Int × List Int) := (List.range m).flatMap fun i => lawI k i (k.eds[i]?.getD 0).toNat
theorem lawJ_succ (k : Clk) (i a : Int) (m : Nat) : lawJ k i a (m + 1) = lawJ k i a m ++ lawJ1 k i a m := by
  unfold lawJ; rw [List.range_succ, List.flatMap_append, List.flatMap_singleton]
theorem lawI_succ (k : Clk) (i m : Nat) : lawI k i (m + 1) = lawI k i m ++ lawA k i (1 + (m : Int)) := by
  unfold lawI; rw [List.range_succ, List.flatMap_append, List.flatMap_singleton]
theorem lawN_succ (k : Clk) (m : Nat) : lawN k (m + 1) = lawN k m ++ lawI k m (k.eds[m]?.getD 0).toNat := by
  unfold lawN; rw [List.range_succ, List.flatMap_append, List.flatMap_singleton]
theorem flat_pull {α : Type} {f : Nat → List α} {i : Nat} : ∀ {n : Nat}, i < n → ((List.range n).flatMap f).Perm (f i ++ (List.range n).flatMap fun j => if j = i then [] else f j)
  | 0, h => absurd h (Nat.not_lt_zero _)
  | n + 1, h => by
    rw [List.range_succ, List.flatMap_append, List.flatMap_append, List.flatMap_singleton, List.flatMap_singleton]
    by_cases z : i = n
    · subst z
      rw [if_pos rfl, List.append_nil]
      have e : (List.range i).flatMap (fun j => if j = i then [] else f j) = (List.range i).flatMap f := by
        rw [List.flatMap_def, List.flatMap_def]
        congr 1
        exact List.map_congr_left fun j hj => if_neg (by rw [List.mem_range] at hj; omega)
      rw [e]
      exact List.perm_append_comm
    · rw [if_neg (fun w => z w.symm), ← List.append_assoc]
      exact (flat_pull (f := f) (by omega)).append_right _
theorem lawA_perm (k : Clk) {i : Nat} (hi : i < k.eds.length) (a : Int) : (lawA k i a).Perm (pairsOf k [(i : Int), a]) := by
  unfold pairsOf leanW
  show List.Perm _ (((List.range k.eds.length).flatMap (lw1 k i a)).map fun w => ([(i : Int), a], w))
  rw [List.map_flatMap]
  refine List.Perm.symm ((flat_pull (i := i) hi).trans ?_)
  unfold lawA lawJ
  have e1 : (lw1 k i a i).map (fun w => ([(i : Int), a], w)) = lawA0 i a := by
    unfold lw1 lawA0 least
    rw [if_pos rfl]
    by_cases z : 1 < a
    · rw [if_pos z, if_pos (by omega)]; rfl
    · rw [if_neg z, if_neg (by omega)]; rfl
  have e2 : (fun j => if j = i then [] else (lw1 k i a j).map fun w => ([(i : Int), a], w)) = lawJ1 k i a := by
    funext j
    unfold lw1 lawJ1 least
    by_cases z : j = i
    · subst z
      rw [if_pos rfl, if_neg (fun w => w.1 rfl)]
    · rw [if_neg z, if_neg (show ¬ ((j : Nat) : Int) = ((i : Nat) : Int) by omega)]
      by_cases w : phs k.tch i j = []
      · rw [if_pos w, if_neg (by omega), if_neg (fun y => y.2.1 w)]; rfl
      · rw [if_neg w]
        by_cases y : 0 < nd k.bok i a j
        · rw [if_pos y, if_pos ⟨by omega, w, y⟩]; rfl
        · rw [if_neg y, if_neg (fun x => y x.2.2)]; rfl
  rw [e1, e2]
theorem perm_flat {α β : Type} {f g : α → List β} : ∀ {l : List α}, (∀ x ∈ l, (f x).Perm (g x)) → (l.flatMap f).Perm (l.flatMap g)
  | [], _ => List.Perm.refl _
  | x :: l, h => by
    rw [List.flatMap_cons, List.flatMap_cons]
    exact (h x List.mem_cons_self).append (perm_flat fun y hy => h y (List.mem_cons_of_mem _ hy))
theorem lawN_perm (k : Clk) : (lawN k k.eds.length).Perm (leans k) := by
  unfold leans due lawN
  rw [List.flatMap_assoc]
  refine perm_flat fun i hi => ?_
  rw [List.mem_range] at hi
  unfold lawI dueW
  rw [List.flatMap_map]
  exact perm_flat fun a _ => lawA_perm k hi _
/-! in order -/
theorem due_lt (eds : List Int) (n : Nat) : (due eds n).Pairwise fun u w => u[0]?.getD 0 < w[0]?.getD 0 ∨ (u[0]?.getD 0 = w[0]?.getD 0 ∧ u[1]?.getD 0 < w[1]?.getD 0) := by
  unfold due
  rw [List.pairwise_flatMap]
  refine ⟨fun i _ => ?_, List.pairwise_lt_range.imp fun {i j} hij u hu w hw => ?_⟩
  · unfold dueW
    rw [List.pairwise_map]
    exact List.pairwise_lt_range.imp fun {a b} h => .inr ⟨rfl, by show 1 + (a : Int) < 1 + (b : Int); omega⟩
  · unfold dueW at hu hw
    obtain ⟨a, _, rfl⟩ := List.mem_map.mp hu
    obtain ⟨b, _, rfl⟩ := List.mem_map.mp hw
    exact .inl (by show (i : Int) < (j : Int); omega)
theorem mem_lw1 {k : Clk} {i a : Int} {j : Nat} {w : List Int} (h : w ∈ lw1 k i a j) : w = [(j : Int), least k i a j] ∧ 0 < least k i a j := by
  unfold lw1 at h
  by_cases z : 0 < least k i a j
  · rw [if_pos z, List.mem_singleton] at h; exact ⟨h, z⟩
  · rw [if_neg z] at h; exact nomatch h
theorem leanW_lt (k : Clk) (i a : Int) (m : Nat) : (leanW k i a m).Pairwise fun u w => u[0]?.getD 0 < w[0]?.getD 0 := by
  unfold leanW
  rw [List.pairwise_flatMap]
  refine ⟨fun j _ => ?_, List.pairwise_lt_range.imp fun {x y} hxy u hu w hw => ?_⟩
  · unfold lw1
    split
    · exact List.pairwise_singleton _ _
    · exact List.Pairwise.nil
  · rw [(mem_lw1 hu).1, (mem_lw1 hw).1]
    show (x : Int) < (y : Int)
    omega
theorem leans_lt (k : Clk) : (leans k).Pairwise Lt4 := by
  unfold leans
  rw [List.pairwise_flatMap]
  refine ⟨fun u _ => ?_, (due_lt k.eds k.eds.length).imp fun {u w} h p hp r hr => ?_⟩
  · unfold pairsOf
    rw [List.pairwise_map]
    exact (leanW_lt k _ _ _).imp fun {x y} h => .inr ⟨rfl, .inr ⟨rfl, .inl h⟩⟩
  · unfold pairsOf at hp hr
    obtain ⟨x, _, rfl⟩ := List.mem_map.mp hp
    obtain ⟨y, _, rfl⟩ := List.mem_map.mp hr
    rcases h with h | ⟨h1, h2⟩
    · exact .inl h
    · exact .inr ⟨h1, .inl h2⟩
theorem sort_one : ∀ {ls ms : List (List Int × List Int)}, ms.Perm ls → ls.Pairwise Lt4 → ms.Pairwise (fun x y => ¬ Lt4 y x) → ms = ls
  | [], ms, h, _, _ => h.eq_nil
  | p :: ls, [], h, _, _ => nomatch h.length_eq
  | p :: ls, m :: ms, h, h1, h2 => by
    rw [List.pairwise_cons] at h1 h2
    have e : m = p := by
      rcases List.mem_cons.mp (h.mem_iff.mp List.mem_cons_self) with e | e
      · exact e
      · rcases List.mem_cons.mp (h.mem_iff.mpr (List.mem_cons_self : p ∈ p :: ls)) with f | f
        · exact f.symm
        · exact absurd (h1.1 m e) (h2.1 p f)
    subst e
    rw [sort_one (List.Perm.cons_inv h) h1.2 h2.2]
theorem mem_due {eds u : List Int} {n : Nat} (h : u ∈ due eds n) : ∃ i a : Nat, u = [(i : Int), 1 + (a : Int)] ∧ i < n ∧ a < (eds[i]?.getD 0).toNat := by
  unfold due at h
  obtain ⟨i, hi, h2⟩ := List.mem_flatMap.mp h
  unfold dueW at h2
  obtain ⟨a, ha, rfl⟩ := List.mem_map.mp h2
  exact ⟨i, a, rfl, List.mem_range.mp hi, List.mem_range.mp ha⟩
theorem due_mem {eds : List Int} {n i a : Nat} (hi : i < n) (ha : a < (eds[i]?.getD 0).toNat) : [(i : Int), 1 + (a : Int)] ∈ due eds n := by
  unfold due
  refine List.mem_flatMap.mpr ⟨i, List.mem_range.mpr hi, ?_⟩
  unfold dueW
  exact List.mem_map.mpr ⟨a, List.mem_range.mpr ha, rfl⟩
theorem nd_le {bok : List (List Int)} {eds : List Int} {i a j : Int} (hb : ∀ t ∈ bok, BokOk eds t) (h : 0 < nd bok i a j) : nd bok i a j ≤ eds[j.toNat]?.getD 0 ∧ ∃ a0, 1 ≤ a0 ∧ a0 ≤ a := by
  rcases (nd_ln bok i a j).2 with e | ⟨t, ht, ho, e⟩
  · omega
  · obtain ⟨i1, a1, j1, b, rfl, _, _, _, _, _, h6, _, _, h9⟩ := hb t ht
    unfold entOk at ho
    rw [Bool.and_eq_true, Bool.and_eq_true] at ho
    have e2 : j1 = j := of_decide_eq_true ho.1.2
    have e3 : a1 ≤ a := of_decide_eq_true ho.2
    have e4 : b = nd bok i a j := e
    rw [← e4, ← e2]
    exact ⟨h9, a1, h6, e3⟩
/-- what a lean is -/
structure IsLean (k : Clk) (i a j b : Int) : Prop where
  i0 : 0 ≤ i ∧ i < k.eds.length
  a0 : 1 ≤ a ∧ a ≤ k.eds[i.toNat]?.getD 0
  j0 : 0 ≤ j ∧ j < k.eds.length
  b0 : 1 ≤ b ∧ b ≤ k.eds[j.toNat]?.getD 0
  st : (j = i ∧ b = a - 1) ∨ (j ≠ i ∧ phs k.tch i j ≠ [] ∧ b = nd k.bok i a j)
theorem mem_leans {k : Clk} (ok : k.Ok) {p : List Int × List Int} (h : p ∈ leans k) : ∃ i a j b : Int, p = ([i, a], [j, b]) ∧ IsLean k i a j b := by
  unfold leans at h
  obtain ⟨u, hu, h2⟩ := List.mem_flatMap.mp h
  obtain ⟨i, a, rfl, hi, ha⟩ := mem_due hu
  unfold pairsOf at h2
  obtain ⟨w, hw, rfl⟩ := List.mem_map.mp h2
  unfold leanW at hw
  obtain ⟨j, hj, hw⟩ := List.mem_flatMap.mp hw
  rw [List.mem_range] at hj
  obtain ⟨rfl, h0⟩ := mem_lw1 hw
  refine ⟨_, _, _, _, rfl, ⟨by show 0 ≤ (i : Int); omega, by show (i : Int) < _; omega⟩, ⟨by show 1 ≤ 1 + (a : Int); omega, ?_⟩, ⟨by omega, by omega⟩, ?_, ?_⟩
  · show 1 + (a : Int) ≤ k.eds[((i : Int)).toNat]?.getD 0
    rw [Int.toNat_natCast]; omega
  · show 1 ≤ least k i (1 + (a : Int)) j ∧ least k i (1 + (a : Int)) j ≤ k.eds[((j : Nat) : Int).toNat]?.getD 0
    refine ⟨by exact h0, ?_⟩
    have h0 : 0 < least k i (1 + (a : Int)) j := h0
    unfold least at h0 ⊢
    by_cases z : (j : Int) = i
    · rw [if_pos z, z, Int.toNat_natCast]; omega
    · rw [if_neg z] at h0 ⊢
      by_cases y : phs k.tch i j = []
      · rw [if_pos y] at h0; exact absurd h0 (by decide)
      · rw [if_neg y] at h0 ⊢
        exact (nd_le ok.bok h0).1
  · show ((j : Int) = i ∧ least k i (1 + (a : Int)) j = 1 + (a : Int) - 1) ∨ ((j : Int) ≠ i ∧ phs k.tch i j ≠ [] ∧ least k i (1 + (a : Int)) j = nd k.bok i (1 + (a : Int)) j)
    have h0 : 0 < least k i (1 + (a : Int)) j := h0
    unfold least at h0 ⊢
    by_cases z : (j : Int) = i
    · rw [if_pos z]; exact .inl ⟨z, rfl⟩
    · rw [if_neg z] at h0 ⊢
      by_cases y : phs k.tch i j = []
      · rw [if_pos y] at h0; exact absurd h0 (by decide)
      · rw [if_neg y]; exact .inr ⟨z, y, rfl⟩
theorem leans_mem {k : Clk} {i a j b : Int} (h : IsLean k i a j b) : ([i, a], [j, b]) ∈ leans k := by
  obtain ⟨⟨i0, i1⟩, ⟨a0, a1⟩, ⟨j0, j1⟩, ⟨b0, b1⟩, st⟩ := h
  obtain ⟨i, rfl⟩ := Int.eq_ofNat_of_zero_le i0
  obtain ⟨j, rfl⟩ := Int.eq_ofNat_of_zero_le j0
  obtain ⟨a', ha'⟩ := Int.eq_ofNat_of_zero_le (show 0 ≤ a - 1 by omega)
  have ea : a = 1 + (a' : Int) := by omega
  rw [Int.toNat_natCast] at a1
  unfold leans
  refine List.mem_flatMap.mpr ⟨[(i : Int), 1 + (a' : Int)], due_mem (by omega) (by omega), ?_⟩
  unfold pairsOf
  refine List.mem_map.mpr ⟨[(j : Int), b], ?_, by rw [← ea]⟩
  unfold leanW
  refine List.mem_flatMap.mpr ⟨j, List.mem_range.mpr (by omega), ?_⟩
  have el : least k i (1 + (a' : Int)) j = b := by
    unfold least
    rcases st with ⟨h1, h2⟩ | ⟨h1, h2, h3⟩
    · rw [if_pos h1]; omega
    · rw [if_neg h1, if_neg h2, ← ea]; exact h3.symm
  show [(j : Int), b] ∈ lw1 k ((i : Int)) (1 + (a' : Int)) j
  unfold lw1
  rw [el, if_pos (by omega)]
  exact List.mem_singleton.mpr rfl
theorem leans_len {k : Clk} (ok : k.Ok) : (leans k).length ≤ 600 := by
  have h1 := due_len k.eds ok.eds k.eds.length
  have h2 := ok.len.2
  have h3 : ∀ us : List (List Int), (us.flatMap (pairsOf k)).length ≤ 12 * us.length := fun us => by
    induction us with
    | nil => exact Nat.le_refl _
    | cons u us ih =>
      rw [List.flatMap_cons, List.length_append, List.length_cons]
      have : (pairsOf k u).length ≤ k.eds.length := by unfold pairsOf; rw [List.length_map]; exact leanW_len _ _ _ _
      omega
  have := h3 (due k.eds k.eds.length)
  unfold leans
  omega
end LC
-- P4
namespace LC
variable [Tbl]
/-! pushes -/
def GF (per : Int) (g : List Int) (low r : Int) : Prop := low ≤ r ∧ r % per ∈ g ∧ ∀ x, low ≤ x → x % per ∈ g → r ≤ x
theorem GF.uniq {per : Int} {g : List Int} {low r s : Int} (h : GF per g low r) (f : GF per g low s) : r = s := by
  have := h.2.2 s f.1 f.2.1
  have := f.2.2 r h.1 h.2.1
  omega
theorem mod_sub {per x y : Int} (h : x % per = y % per) (l : Int) : (x - l) % per = (y - l) % per := by
  rw [Int.sub_emod, h, ← Int.sub_emod]
theorem sub_mod {per x y : Int} (h : x % per = y % per) (l : Int) : (l - x) % per = (l - y) % per := by
  rw [Int.sub_emod, h, ← Int.sub_emod]
theorem mod_le {a b : Int} (h : 0 ≤ a) (hb : 0 < b) : a % b ≤ a := by
  have := Int.emod_add_mul_ediv a b
  have := Int.mul_nonneg (Int.le_of_lt hb) (Int.ediv_nonneg h (Int.le_of_lt hb))
  omega
theorem gf_min {per : Int} {g : List Int} {low m : Int} (p0 : 1 ≤ per) (hg : ∀ p ∈ g, 0 ≤ p ∧ p < per) (hm : m ∈ g.map fun p => (p - low) % per) (hn : ∀ y ∈ g.map (fun p => (p - low) % per), m ≤ y) : GF per g low (low + m) := by
  obtain ⟨p, hp, rfl⟩ := List.mem_map.mp hm
  obtain ⟨g0, g1⟩ := hg p hp
  refine ⟨by have := Int.emod_nonneg (p - low) (show per ≠ 0 by omega); omega, ?_, fun x hx hxg => ?_⟩
  · rw [Int.add_emod, Int.emod_emod_of_dvd _ (Int.dvd_refl _), ← Int.add_emod, show low + (p - low) = p by omega, Int.emod_eq_of_lt g0 g1]
    exact hp
  · have h1 := hn _ (List.mem_map.mpr ⟨_, hxg, rfl⟩)
    have h2 : (x % per - low) % per = (x - low) % per := mod_sub (Int.emod_emod_of_dvd _ (Int.dvd_refl _)) low
    have h3 : (x - low) % per ≤ x - low := mod_le (by omega) (by omega)
    omega
/-- b is one more than the last number below t at whose phase the two touch -/
def BF (per : Int) (ph : List Int) (t b : Int) : Prop := b ≤ t ∧ (b - 1) % per ∈ ph ∧ ∀ c, c < t → c % per ∈ ph → c < b
theorem BF.uniq {per : Int} {ph : List Int} {t b d : Int} (h : BF per ph t b) (f : BF per ph t d) : b = d := by
  have := h.2.2 (d - 1) (by have := f.1; omega) f.2.1
  have := f.2.2 (b - 1) (by have := h.1; omega) h.2.1
  omega
theorem bf_min {per : Int} {ph : List Int} {t m : Int} (p0 : 1 ≤ per) (hg : ∀ p ∈ ph, 0 ≤ p ∧ p < per) (hm : m ∈ ph.map fun p => (t - 1 - p) % per) (hn : ∀ y ∈ ph.map (fun p => (t - 1 - p) % per), m ≤ y) : BF per ph t (t - 1 - m + 1) := by
  obtain ⟨p, hp, rfl⟩ := List.mem_map.mp hm
  obtain ⟨g0, g1⟩ := hg p hp
  have h0 := Int.emod_nonneg (t - 1 - p) (show per ≠ 0 by omega)
  refine ⟨by omega, ?_, fun c hc hcp => ?_⟩
  · have e : (t - 1 - (t - 1 - p) % per + 1 - 1) % per = p % per := by
      rw [show t - 1 - (t - 1 - p) % per + 1 - 1 = t - 1 - (t - 1 - p) % per by omega]
      rw [sub_mod (Int.emod_emod_of_dvd (t - 1 - p) (Int.dvd_refl per)) (t - 1)]
      congr 1; omega
    rw [e, Int.emod_eq_of_lt g0 g1]; exact hp
  · have h1 := hn _ (List.mem_map.mpr ⟨_, hcp, rfl⟩)
    have h2 : (t - 1 - c % per) % per = (t - 1 - c) % per := sub_mod (Int.emod_emod_of_dvd _ (Int.dvd_refl _)) _
    have h3 : (t - 1 - c) % per ≤ t - 1 - c := mod_le (by omega) (by omega)
    omega
def PU (k : Clk) (i j t r : Int) : Prop := ∃ b, ((i = j ∧ b = t + 1) ∨ (i ≠ j ∧ BF k.per (phs k.tch i j) t b)) ∧ GF k.per (k.gps[i.toNat]?.getD []) b r
theorem PU.uniq {k : Clk} {i j t r s : Int} (h : PU k i j t r) (f : PU k i j t s) : r = s := by
  obtain ⟨b, h1, h2⟩ := h
  obtain ⟨d, f1, f2⟩ := f
  have e : b = d := by
    rcases h1 with ⟨h1, h3⟩ | ⟨h1, h3⟩
    · rcases f1 with ⟨f1, f3⟩ | ⟨f1, f3⟩
      · omega
      · exact absurd h1 f1
    · rcases f1 with ⟨f1, f3⟩ | ⟨f1, f3⟩
      · exact absurd f1 h1
      · exact h3.uniq f3
  subst e
  exact h2.uniq f2
theorem phs_bd {k : Clk} (ok : k.Ok) {i j : Int} : ∀ p ∈ phs k.tch i j, 0 ≤ p ∧ p < k.per := fun p hp => by
  unfold phs at hp
  obtain ⟨t, ht, rfl⟩ := List.mem_map.mp hp
  obtain ⟨q, x, y, rfl, h1, h2, _⟩ := ok.tch t (List.mem_filter.mp ht).1
  exact ⟨h1, h2⟩
theorem mem_phs {k : Clk} {i j p x y : Int} (h : [p, x, y] ∈ k.tch) (e : [x, y] = [min i j, max i j]) : p ∈ phs k.tch i j := by
  unfold phs
  exact List.mem_map.mpr ⟨[p, x, y], List.mem_filter.mpr ⟨h, decide_eq_true e⟩, rfl⟩
theorem phs_mem {k : Clk} (ok : k.Ok) {i j p : Int} (h : p ∈ phs k.tch i j) : [p, min i j, max i j] ∈ k.tch := by
  unfold phs at h
  obtain ⟨t, ht, rfl⟩ := List.mem_map.mp h
  obtain ⟨h1, h2⟩ := List.mem_filter.mp ht
  obtain ⟨q, x, y, rfl, _⟩ := ok.tch t h1
  have e : [x, y] = [min i j, max i j] := of_decide_eq_true h2
  show [q, min i j, max i j] ∈ k.tch
  rw [← e]; exact h1
theorem phs_comm (tch : List (List Int)) (i j : Int) : phs tch i j = phs tch j i := by
  unfold phs; rw [Int.min_comm, Int.max_comm]
theorem phs_self {k : Clk} (ok : k.Ok) (i : Int) : phs k.tch i i = [] := by
  cases h : phs k.tch i i with
  | nil => rfl
  | cons p ps =>
    have hp := phs_mem ok (show p ∈ phs k.tch i i by rw [h]; exact List.mem_cons_self)
    obtain ⟨q, x, y, e, _, _, _, h4, _⟩ := ok.tch _ hp
    simp only [List.cons.injEq] at e
    omega
/-! ticks and editions -/
theorem cnt_iff : ∀ {ts : List Int} {n : Nat} {x t : Int}, ts.Pairwise (· < ·) → ts[n]? = some x → (n < (ts.filter fun y => decide (y ≤ t)).length ↔ x ≤ t)
  | [], n, x, t, _, h => (nil_no h).elim
  | y :: ys, n, x, t, hp, h => by
    rw [List.pairwise_cons] at hp
    by_cases z : y ≤ t
    · rw [show (y :: ys).filter (fun y => decide (y ≤ t)) = y :: ys.filter (fun y => decide (y ≤ t)) from List.filter_cons_of_pos (decide_eq_true z), List.length_cons]
      cases n with
      | zero => cases h; exact ⟨fun _ => z, fun _ => by omega⟩
      | succ n =>
        have := cnt_iff (t := t) hp.2 (show ys[n]? = some x by simpa using h)
        omega
    · rw [show (y :: ys).filter (fun y => decide (y ≤ t)) = ys.filter (fun y => decide (y ≤ t)) from List.filter_cons_of_neg (by rw [decide_eq_false z]; exact Bool.false_ne_true)]
      have e : ys.filter (fun y => decide (y ≤ t)) = [] := List.filter_eq_nil_iff.mpr fun w hw => by
        have := hp.1 w hw
        rw [decide_eq_false (by omega)]; exact Bool.false_ne_true
      rw [e]
      refine ⟨fun w => absurd w (Nat.not_lt_zero _), fun w => ?_⟩
      cases n with
      | zero => cases h; exact absurd w z
      | succ n => have := hp.1 x (List.mem_of_getElem? (show ys[n]? = some x by simpa using h)); omega
/-- the tick of an exchange -/
def tk (pl : List (List Int)) (i a : Int) : Int := (pl[i.toNat]?.getD [])[(a - 1).toNat]?.getD 0
theorem nd_mono (bok : List (List Int)) {i a a' j : Int} (h : a ≤ a') : nd bok i a j ≤ nd bok i a' j := by
  rcases (nd_ln bok i a j).2 with e | ⟨t, ht, ho, e⟩
  · rw [e]; exact nd_pos ..
  · rw [← e]
    refine (nd_ln bok i a' j).1 t ht ?_
    unfold entOk at ho ⊢
    rw [Bool.and_eq_true] at ho ⊢
    exact ⟨ho.1, decide_eq_true (by have := of_decide_eq_true ho.2; omega)⟩
section
variable {k : Clk} {pl : List (List Int)}
theorem tk_get (po : PlOk k pl) {i a : Int} (h : 0 ≤ i ∧ i < k.eds.length) (ha : 1 ≤ a ∧ a ≤ k.eds[i.toNat]?.getD 0) :
    ∃ ts, pl[i.toNat]? = some ts ∧ ts[(a - 1).toNat]? = some (tk pl i a) ∧ ts.Pairwise (· < ·) ∧ 0 ≤ tk pl i a ∧ tk pl i a ≤ 100000 ∧ tk pl i a % k.per ∈ k.gps[i.toNat]?.getD [] := by
  have hl : i.toNat < pl.length := by rw [po.len]; omega
  obtain ⟨ts, e⟩ : ∃ z, pl[i.toNat]? = some z := ⟨_, List.getElem?_eq_getElem hl⟩
  obtain ⟨h1, h2, h3⟩ := po.row _ ts e
  have hl2 : (a - 1).toNat < ts.length := by omega
  obtain ⟨x, ex⟩ : ∃ z, ts[(a - 1).toNat]? = some z := ⟨_, List.getElem?_eq_getElem hl2⟩
  have et : tk pl i a = x := by unfold tk; rw [e]; show ts[(a - 1).toNat]?.getD 0 = x; rw [ex]; rfl
  rw [et]
  obtain ⟨g1, g2, g3⟩ := h2 x (List.mem_of_getElem? ex)
  exact ⟨ts, e, ex, h3, g1, g2, g3⟩
/-- an edition stands exactly from its exchange's tick on -/
theorem sg_iff (po : PlOk k pl) {i a t : Int} (h : 0 ≤ i ∧ i < k.eds.length) (ha : 1 ≤ a ∧ a ≤ k.eds[i.toNat]?.getD 0) : a ≤ sg (stand pl t) i ↔ tk pl i a ≤ t := by
  obtain ⟨ts, e1, e2, e3, _⟩ := tk_get po h ha
  have := cnt_iff (t := t) e3 e2
  unfold sg
  rw [stand_get e1]
  show a ≤ (((ts.filter fun x => decide (x ≤ t)).length : Nat) : Int) ↔ _
  omega
theorem sg_bd (po : PlOk k pl) {i t : Int} (h : 0 ≤ i ∧ i < k.eds.length) : 0 ≤ sg (stand pl t) i ∧ sg (stand pl t) i ≤ k.eds[i.toNat]?.getD 0 := by
  have hl : i.toNat < pl.length := by rw [po.len]; omega
  obtain ⟨ts, e⟩ : ∃ z, pl[i.toNat]? = some z := ⟨_, List.getElem?_eq_getElem hl⟩
  obtain ⟨h1, _⟩ := po.row _ ts e
  unfold sg
  rw [stand_get e]
  have := List.length_filter_le (fun x => decide (x ≤ t)) ts
  show 0 ≤ (((ts.filter fun x => decide (x ≤ t)).length : Nat) : Int) ∧ (((ts.filter fun x => decide (x ≤ t)).length : Nat) : Int) ≤ _
  omega
/-- a lean is kept -/
def okL (k : Clk) (pl : List (List Int)) (p : List Int × List Int) : Prop := ∀ r, PU k (q0 p) (q2 p) (tk pl (q2 p) (q3 p)) r → r ≤ tk pl (q0 p) (q1 p)
theorem okL_iff (po : PlOk k pl) {i a j b r : Int} (hl : IsLean k i a j b) (hr : PU k i j (tk pl j b) r) : okL k pl ([i, a], [j, b]) ↔ r ≤ tk pl i a :=
  ⟨fun h => h r hr, fun h s hs => by rw [PU.uniq (show PU k i j (tk pl j b) s from hs) hr]; exact h⟩
theorem pu_some (ok : k.Ok) {i a j b t : Int} (hl : IsLean k i a j b) : ∃ r, PU k i j t r := by
  have gm : ∀ (g : List Int) (f : Int → Int), g ≠ [] → ∃ m, m ∈ g.map f ∧ ∀ y ∈ g.map f, m ≤ y := fun g f hg => by
    induction g with
    | nil => exact absurd rfl hg
    | cons x xs ih =>
      by_cases z : xs = []
      · subst z; exact ⟨f x, by simp, fun y hy => by simp at hy; omega⟩
      · obtain ⟨m, h1, h2⟩ := ih z
        by_cases w : f x ≤ m
        · exact ⟨f x, by simp, fun y hy => by
            rw [List.map_cons] at hy
            rcases List.mem_cons.mp hy with e | e
            · omega
            · have := h2 y e; omega⟩
        · exact ⟨m, by rw [List.map_cons]; exact List.mem_cons_of_mem _ h1, fun y hy => by
            rw [List.map_cons] at hy
            rcases List.mem_cons.mp hy with e | e
            · omega
            · exact h2 y e⟩
  have p0 := ok.per.1
  have hi : i.toNat < k.eds.length := by have := hl.i0; omega
  obtain ⟨ed, ee⟩ : ∃ z, k.eds[i.toNat]? = some z := ⟨_, List.getElem?_eq_getElem hi⟩
  obtain ⟨g, eg⟩ : ∃ z, k.gps[i.toNat]? = some z := ⟨_, List.getElem?_eq_getElem (by rw [ok.gpsN]; exact hi)⟩
  obtain ⟨g1, g2, _⟩ := ok.gps _ ed g ee eg
  have hne : g ≠ [] := g1 (by have := hl.a0; rw [ee] at this; show 0 < ed; have : 1 ≤ a ∧ a ≤ ed := this; omega)
  have gf : ∀ b, ∃ r, GF k.per (k.gps[i.toNat]?.getD []) b r := fun b => by
    rw [eg]
    obtain ⟨m, m1, m2⟩ := gm g (fun p => (p - b) % k.per) hne
    exact ⟨_, gf_min p0 g2 m1 m2⟩
  rcases hl.st with ⟨h1, _⟩ | ⟨h1, h2, _⟩
  · obtain ⟨r, hr⟩ := gf (t + 1)
    exact ⟨r, t + 1, .inl ⟨h1.symm, rfl⟩, hr⟩
  · obtain ⟨m, m1, m2⟩ := gm _ (fun p => (t - 1 - p) % k.per) h2
    obtain ⟨r, hr⟩ := gf (t - 1 - m + 1)
    exact ⟨r, _, .inr ⟨fun z => h1 z.symm, bf_min p0 (phs_bd ok) m1 m2⟩, hr⟩
theorem okL_self (ok : k.Ok) (po : PlOk k pl) {i a j b : Int} (hl : IsLean k i a j b) (h : j = i) : okL k pl ([i, a], [j, b]) := by
  subst h
  have hb : b = a - 1 := by
    rcases hl.st with ⟨_, h⟩ | ⟨h, _⟩
    · exact h
    · exact absurd rfl h
  obtain ⟨r, hr⟩ := pu_some (t := tk pl j b) ok hl
  rw [okL_iff po hl hr]
  obtain ⟨d, h1, h2⟩ := hr
  rcases h1 with ⟨_, h1⟩ | ⟨h1, _⟩
  · obtain ⟨ts, e1, e2, e3, _, _, e4⟩ := tk_get po hl.i0 hl.a0
    obtain ⟨ts2, f1, f2, _⟩ := tk_get po hl.j0 hl.b0
    rw [e1] at f1; cases f1
    have h0 := hl.b0
    obtain ⟨l1, e5⟩ := List.getElem?_eq_some_iff.mp e2
    obtain ⟨l2, f5⟩ := List.getElem?_eq_some_iff.mp f2
    have := List.pairwise_iff_getElem.mp e3 _ _ l2 l1 (by omega)
    rw [e5, f5] at this
    exact h2.2.2 _ (by omega) e4
  · exact absurd rfl h1
theorem okL_other (ok : k.Ok) (po : PlOk k pl) {i a j b : Int} (hl : IsLean k i a j b) (h : j ≠ i) : okL k pl ([i, a], [j, b]) ↔ ∀ c, c < tk pl j b → c % k.per ∈ phs k.tch i j → c < tk pl i a := by
  obtain ⟨r, hr⟩ := pu_some (t := tk pl j b) ok hl
  rw [okL_iff po hl hr]
  obtain ⟨d, h1, h2⟩ := hr
  rcases h1 with ⟨h1, _⟩ | ⟨_, h1⟩
  · exact absurd h1.symm h
  · obtain ⟨ts, e1, e2, e3, _, _, e4⟩ := tk_get po hl.i0 hl.a0
    constructor
    · intro hle c hc hp
      have := h1.2.2 c hc hp
      have := h2.1
      omega
    · intro hall
      have := hall (d - 1) (by have := h1.1; omega) h1.2.1
      exact h2.2.2 _ (by omega) e4
theorem unfit_no {bok : List (List Int)} {st : List Int} {x y : Int} : unfit bok st [x, y] = false ↔ nd bok x (sg st x) y ≤ sg st y ∧ nd bok y (sg st y) x ≤ sg st x := by
  show (!(decide (nd bok x (sg st x) y ≤ sg st y) && decide (nd bok y (sg st y) x ≤ sg st x))) = false ↔ _
  rw [Bool.not_eq_false', Bool.and_eq_true, decide_eq_true_eq, decide_eq_true_eq]
theorem bad_nil {st : List Int} {t : Int} : badAt k st t = [] ↔ ∀ u ∈ k.tch, u[0]?.getD 0 = t % k.per → unfit k.bok st (u.drop 1) = false := by
  unfold badAt badOf tchAt
  rw [List.filter_eq_nil_iff]
  constructor
  · intro h u hu e
    have := h (u.drop 1) (List.mem_map.mpr ⟨u, List.mem_filter.mpr ⟨hu, decide_eq_true e⟩, rfl⟩)
    exact Bool.not_eq_true _ ▸ this
  · intro h p hp
    obtain ⟨u, hu, rfl⟩ := List.mem_map.mp hp
    obtain ⟨h1, h2⟩ := List.mem_filter.mp hu
    rw [h u h1 (of_decide_eq_true h2)]; exact Bool.false_ne_true
/-- point 4: a plan is right exactly if no push is above -/
theorem right_iff (ok : k.Ok) (po : PlOk k pl) : FB k pl none ↔ ∀ p ∈ leans k, okL k pl p := by
  have p0 := ok.per.1
  constructor
  · intro h p hp
    obtain ⟨i, a, j, b, rfl, hl⟩ := mem_leans ok hp
    by_cases z : j = i
    · exact okL_self ok po hl z
    · rw [okL_other ok po hl z]
      intro c hc hph
      obtain ⟨_, _, _, _, t0, _⟩ := tk_get po hl.i0 hl.a0
      by_cases c0 : c < 0
      · omega
      · by_cases w : c < tk pl i a
        · exact w
        · exfalso
          have hb : b = nd k.bok i a j := by
            rcases hl.st with ⟨h1, _⟩ | ⟨_, _, h1⟩
            · exact absurd h1 z
            · exact h1
          have hf := bad_nil.mp (h c (by omega)) _ (phs_mem ok hph) rfl
          have h1 := (sg_iff (t := c) po hl.i0 hl.a0).mpr (by omega)
          have h2 := nd_mono k.bok (i := i) (j := j) h1
          have h3 : nd k.bok i (sg (stand pl c) i) j ≤ sg (stand pl c) j := by
            have hf : unfit k.bok (stand pl c) [min i j, max i j] = false := hf
            rw [unfit_no] at hf
            by_cases y : i ≤ j
            · rw [Int.min_eq_left y, Int.max_eq_right y] at hf; exact hf.1
            · rw [Int.min_eq_right (by omega), Int.max_eq_left (by omega)] at hf; exact hf.2
          have h4 := (sg_iff (t := c) po hl.j0 hl.b0).mp (by omega)
          omega
  · intro h t t0
    rw [bad_nil]
    intro u hu e
    obtain ⟨p, x, y, rfl, p1, p2, x0, xy, y1⟩ := ok.tch u hu
    have e : p = t % k.per := e
    show unfit k.bok (stand pl t) [x, y] = false
    rw [unfit_no]
    have one : ∀ i j : Int, 0 ≤ i ∧ i < k.eds.length → 0 ≤ j ∧ j < k.eds.length → j ≠ i → [x, y] = [min i j, max i j] → nd k.bok i (sg (stand pl t) i) j ≤ sg (stand pl t) j := fun i j hi hj hne hxy => by
      by_cases z : 0 < nd k.bok i (sg (stand pl t) i) j
      · obtain ⟨n1, a0, n2, n3⟩ := nd_le ok.bok z
        have hsb := sg_bd (t := t) po hi
        have hp : p ∈ phs k.tch i j := mem_phs hu hxy
        have hl : IsLean k i (sg (stand pl t) i) j (nd k.bok i (sg (stand pl t) i) j) := ⟨hi, ⟨by omega, hsb.2⟩, hj, ⟨by omega, n1⟩, .inr ⟨hne, fun w => (by rw [w] at hp; exact nomatch hp), rfl⟩⟩
        have ho := (okL_other ok po hl hne).mp (h _ (leans_mem hl)) t
        have h1 := (sg_iff (t := t) po hl.i0 hl.a0).mp (Int.le_refl _)
        refine (sg_iff (t := t) po hl.j0 hl.b0).mpr ?_
        by_cases w : t < tk pl j (nd k.bok i (sg (stand pl t) i) j)
        · have := ho w (by rw [← e]; exact hp); omega
        · omega
      · have := sg_bd (t := t) po hj; omega
    exact ⟨one x y ⟨x0, by omega⟩ ⟨by omega, y1⟩ (by omega) (by rw [Int.min_eq_left (by omega), Int.max_eq_right (by omega)]), one y x ⟨by omega, y1⟩ ⟨x0, by omega⟩ (by omega) (by rw [Int.min_eq_right (by omega), Int.max_eq_left (by omega)])⟩
end
end LC
namespace LC
variable [Tbl]
open PySem PySem.Spec PyProof.Rows L2
theorem room65 {k : Nat} {A : Around} (r : Room k A) : A.units + 65 < cLine := by have := r.un; omega
theorem lean_W {k : Clk} {i a j b : Int} (h : IsLean k i a j b) : [j, b] ∈ leanW k i a k.eds.length := by
  have := leans_mem h
  unfold leans at this
  obtain ⟨u, hu, h2⟩ := List.mem_flatMap.mp this
  unfold pairsOf at h2
  obtain ⟨w, hw, e⟩ := List.mem_map.mp h2
  rw [Prod.mk.injEq] at e
  obtain ⟨rfl, rfl⟩ := e
  exact hw
theorem row_any {xss : List (List Int)} {j b : Int} (h : [j, b] ∈ xss) : ((rowsP xss).any fun z => PyData.eqv z (.tuple [.int j, .int b])) = true := by
  rw [List.any_eq_true]
  refine ⟨.tuple [.int j, .int b], List.mem_map.mpr ⟨[j, b], h, rfl⟩, ?_⟩
  show ((j == j) && ((b == b) && true)) = true
  rw [beq_self_eq_true, beq_self_eq_true]; rfl
end LC
namespace LC
variable [Tbl]
open PySem PySem.Spec PyProof.Rows L2 GenW RZ
theorem drvL {K : PySem.W.Frag} {a : Addr} {xs : List V} {H0 : Hp} {Qd : Hp → Prop} {B : (Hp → Prop) → V → Hp → Prop} (Pv : Nat → Hp → Prop) (h0 : Pv 0 H0) (hl : ∀ i H, i ≤ xs.length → Pv i H → SqL K H a xs)
    (hs : ∀ i x H, xs[i]? = some x → Pv i H → B (Pv (i + 1)) x H) (hd : ∀ H, Pv xs.length H → Qd H) :
    ∃ W : Nat → Nat → Hp → Prop, (∃ m, W 0 m H0) ∧ ∀ i m H, W i m H →
      ((Itl K a).stop i H ∧ Qd H) ∨ ((Itl K a).go i H ∧ ∃ Nx : Hp → Prop, (∀ H', Nx H' → ∃ m', m' < m ∧ W (i + 1) m' H') ∧ ∀ x H', (Itl K a).yld i H x H' → B Nx x H') := by
  refine ⟨fun i m H => m = xs.length - i ∧ i ≤ xs.length ∧ Pv i H, ⟨xs.length, by simp, Nat.zero_le _, h0⟩, ?_⟩
  rintro i m H ⟨rfl, hi, p⟩
  have q := hl i H hi p
  by_cases hlt : i < xs.length
  · refine .inr ⟨⟨xs, xs[i], q, by simp [hlt]⟩, Pv (i + 1), fun H' h' => ⟨xs.length - (i + 1), by omega, rfl, hlt, h'⟩, fun x H' y => ?_⟩
    obtain ⟨e, y⟩ := y
    subst e
    exact hs i x _ (y xs q) p
  · have e : i = xs.length := by omega
    subst e
    exact .inl ⟨⟨xs, q, Nat.le_refl _⟩, hd H p⟩
end LC
namespace LC
variable [Tbl]
open PySem PySem.Spec PyProof.Rows L2
/-- a pair of pairs is made and put at a list's end -/
theorem put_pair {H0 H : Hp} {L t1 t2 t3 : Addr} {rs : List V} {ls : List (List Int × List Int)} {i a j b : Int} (hL0 : H0 L = none) (hx : Xn H0 H) (hL : H L = some (.lst rs)) (hr : PPs H rs ls) (h1 : H t1 = none) (h2 : upd H t1 (.tup [.int i, .int a]) t2 = none) (h3 : upd (upd H t1 (.tup [.int i, .int a])) t2 (.tup [.int j, .int b]) t3 = none) :
    Xn H0 (upd (upd (upd (upd H t1 (.tup [.int i, .int a])) t2 (.tup [.int j, .int b])) t3 (.tup [.ref t1, .ref t2])) L (.lst (rs ++ [.ref t3]))) ∧ PPs (upd (upd (upd (upd H t1 (.tup [.int i, .int a])) t2 (.tup [.int j, .int b])) t3 (.tup [.ref t1, .ref t2])) L (.lst (rs ++ [.ref t3]))) (rs ++ [.ref t3]) (ls ++ [([i, a], [j, b])]) := by
  have l3 := upd_old (u := .tup [.ref t1, .ref t2]) (upd_old (u := .tup [.int j, .int b]) (upd_old (u := .tup [.int i, .int a]) hL h1) h2) h3
  have tk := (((Tk.refl.new (o := .tup [.int i, .int a]) h1).new (o := .tup [.int j, .int b]) h2).new (o := .tup [.ref t1, .ref t2]) h3).lst (o := .lst (rs ++ [.ref t3])) l3
  have n1 : L ≠ t1 := ne_none hL h1
  have n2 : L ≠ t2 := ne_none (upd_old hL h1) h2
  have n3 : L ≠ t3 := ne_none (upd_old (upd_old hL h1) h2) h3
  have e2 : upd (upd H t1 (.tup [.int i, .int a])) t2 (.tup [.int j, .int b]) t2 = some (.tup ([j, b].map V.int)) := upd_same
  have e1 : upd (upd H t1 (.tup [.int i, .int a])) t2 (.tup [.int j, .int b]) t1 = some (.tup ([i, a].map V.int)) := upd_old upd_same h2
  have tk2 := (Tk.refl.new (o := .tup [.ref t1, .ref t2]) h3).lst (o := .lst (rs ++ [.ref t3])) l3
  refine ⟨(((hx.trans (Xt.new h1)).trans (Xt.new h2)).trans (Xt.new h3)).young hL0, (hr.mono tk).snoc ?_ (tk2 _ _ e1) (tk2 _ _ e2)⟩
  rw [upd_ne (Ne.symm n3), upd_same]
end LC
theorem LC.stay {p : Prop} (h : p) : p := h
namespace LC
variable [Tbl]
open PySem PySem.Spec PyProof.Rows L2
/-- the same, the first of the two being there -/
theorem put_pair2 {H0 H : Hp} {L t1 t2 t3 : Addr} {rs : List V} {ls : List (List Int × List Int)} {i a j b : Int} (hL0 : H0 L = none) (hx : Xn H0 H) (hL : H L = some (.lst rs)) (hr : PPs H rs ls) (h1 : H t1 = some (.tup [.int i, .int a])) (h2 : H t2 = none) (h3 : upd H t2 (.tup [.int j, .int b]) t3 = none) :
    Xn H0 (upd (upd (upd H t2 (.tup [.int j, .int b])) t3 (.tup [.ref t1, .ref t2])) L (.lst (rs ++ [.ref t3]))) ∧ PPs (upd (upd (upd H t2 (.tup [.int j, .int b])) t3 (.tup [.ref t1, .ref t2])) L (.lst (rs ++ [.ref t3]))) (rs ++ [.ref t3]) (ls ++ [([i, a], [j, b])]) := by
  have l3 := upd_old (u := .tup [.ref t1, .ref t2]) (upd_old (u := .tup [.int j, .int b]) hL h2) h3
  have tk := ((Tk.refl.new (o := .tup [.int j, .int b]) h2).new (o := .tup [.ref t1, .ref t2]) h3).lst (o := .lst (rs ++ [.ref t3])) l3
  have n3 : L ≠ t3 := ne_none (upd_old hL h2) h3
  have e2 : upd H t2 (.tup [.int j, .int b]) t2 = some (.tup ([j, b].map V.int)) := upd_same
  have e1 : upd H t2 (.tup [.int j, .int b]) t1 = some (.tup ([i, a].map V.int)) := upd_old h1 h2
  have tk2 := (Tk.refl.new (o := .tup [.ref t1, .ref t2]) h3).lst (o := .lst (rs ++ [.ref t3])) l3
  refine ⟨((hx.trans (Xt.new h2)).trans (Xt.new h3)).young hL0, (hr.mono tk).snoc ?_ (tk2 _ _ e1) (tk2 _ _ e2)⟩
  rw [upd_ne (Ne.symm n3), upd_same]
end LC
namespace LC
variable [Tbl]
open PySem PySem.Spec PyProof.Rows L2
/-- while, whatever the test is -/
theorem while_dir {c : TT} {tb : TS} {D : Ends} {σ : L2.St} {H : Hp} (Pv : L2.St → Hp → Prop) (μ : L2.St → Hp → Nat) (h0 : Pv σ H)
    (hs : ∀ σ H, Pv σ H → c σ H fun b H1 => if b = true then ∃ N : L2.St → Hp → Prop, (∀ σ' H', N σ' H' → ∃ m', m' < μ σ H ∧ m' = μ σ' H' ∧ Pv σ' H') ∧ tb { D with nx := N, ct := N, bk := D.nx } σ H1 else D.nx σ H1) : tWhile c tb D σ H := by
  refine ⟨fun m σ H => m = μ σ H ∧ Pv σ H, ⟨_, rfl, h0⟩, ?_⟩
  rintro m σ H ⟨rfl, p⟩
  exact hs σ H p
/-- one turn is done -/
theorem while_nx {Pv : L2.St → Hp → Prop} {μ : L2.St → Hp → Nat} {tb : TS} {D : Ends} {σ : L2.St} {H H1 : Hp} (h : tb { D with nx := fun σ' H' => Pv σ' H' ∧ μ σ' H' < μ σ H, ct := fun σ' H' => Pv σ' H' ∧ μ σ' H' < μ σ H, bk := D.nx } σ H1) :
    ∃ N : L2.St → Hp → Prop, (∀ σ' H', N σ' H' → ∃ m', m' < μ σ H ∧ m' = μ σ' H' ∧ Pv σ' H') ∧ tb { D with nx := N, ct := N, bk := D.nx } σ H1 :=
  ⟨_, fun _ _ z => ⟨_, z.2, rfl, z.1⟩, h⟩
/-- the last touch, so far -/
def LP (per t : Int) (ph : List Int) (c m : Int) : Prop := (m = t - 2 * per ∧ ∀ x, t - per ≤ x → x < c → x % per ∉ ph) ∨ ((m - 1) % per ∈ ph ∧ t - per < m ∧ m ≤ c ∧ ∀ x, t - per ≤ x → x < c → x % per ∈ ph → x < m)
theorem LP.zero {per t : Int} {ph : List Int} : LP per t ph (t - per) (t - 2 * per) := .inl ⟨rfl, fun x _ _ => by omega⟩
theorem LP.no {per t c m : Int} {ph : List Int} (h : LP per t ph c m) (z : c % per ∉ ph) : LP per t ph (c + 1) m := by
  rcases h with ⟨h1, h2⟩ | ⟨h1, h2, h3, h4⟩
  · refine .inl ⟨h1, fun x x0 x1 => ?_⟩
    by_cases w : x = c
    · rw [w]; exact z
    · exact h2 x x0 (by omega)
  · refine .inr ⟨h1, h2, by omega, fun x x0 x1 hx => ?_⟩
    by_cases w : x = c
    · rw [w] at hx; exact absurd hx z
    · exact h4 x x0 (by omega) hx
theorem LP.yes {per t c m : Int} {ph : List Int} (p0 : 1 ≤ per) (h : LP per t ph c m) (hc : t - per ≤ c) (z : c % per ∈ ph) : LP per t ph (c + 1) (max m (c + 1)) := by
  have hm : m ≤ c + 1 := by
    rcases h with ⟨h1, _⟩ | ⟨_, _, h3, _⟩
    · omega
    · omega
  rw [Int.max_eq_right hm]
  refine .inr ⟨by rw [Int.add_sub_cancel]; exact z, by omega, by omega, fun x _ x1 _ => by omega⟩
theorem LP.bf {per t m : Int} {ph : List Int} (p0 : 1 ≤ per) (hb : ∀ p ∈ ph, 0 ≤ p ∧ p < per) (hne : ph ≠ []) (h : LP per t ph t m) : BF per ph t m := by
  rcases h with ⟨h1, h2⟩ | ⟨h1, h2, h3, h4⟩
  · exfalso
    obtain ⟨p, hp⟩ := List.exists_mem_of_ne_nil ph hne
    have hd := Int.emod_nonneg (t - 1 - p) (show per ≠ 0 by omega)
    have hd2 := Int.emod_lt_of_pos (t - 1 - p) (show 0 < per by omega)
    refine h2 (t - 1 - (t - 1 - p) % per) (by omega) (by omega) ?_
    have e : (t - 1 - (t - 1 - p) % per) % per = p % per := by
      rw [sub_mod (Int.emod_emod_of_dvd (t - 1 - p) (Int.dvd_refl per)) (t - 1)]
      congr 1; omega
    rw [e, Int.emod_eq_of_lt (hb p hp).1 (hb p hp).2]; exact hp
  · exact ⟨h3, h1, fun x x1 hx => by
      by_cases w : t - per ≤ x
      · exact h4 x w x1 hx
      · omega⟩
end LC
namespace LC
variable [Tbl]
open PySem PySem.Spec PyProof.Rows L2
theorem PPs.take {H : Hp} {rs : List V} {ls : List (List Int × List Int)} (h : PPs H rs ls) (n : Nat) : PPs H (rs.take n) (ls.take n) := ⟨by rw [List.length_take, List.length_take, h.1], fun i p e => by
  rw [List.getElem?_take] at e ⊢
  by_cases z : i < n
  · rw [if_pos z] at e ⊢; exact h.2 i p e
  · rw [if_neg z] at e; cases e⟩
theorem cut_take (xs : List V) (n : Nat) : cutV xs none (some (n : Int)) = xs.take n := by
  unfold cutV
  rw [HT.sIx_nat, HT.sIx_none, List.drop_zero, Nat.sub_zero]
  by_cases z : n ≤ xs.length
  · rw [Nat.min_eq_left z]
  · rw [Nat.min_eq_right (by omega), List.take_length, List.take_of_length_le (by omega)]
theorem dI_dep (rs : List Int) : (D.tup (rs.map D.int)).dep < 4 := by
  show D.deps (rs.map D.int) + 1 < 4
  rw [deps_ints]; decide
theorem dI_sm {rs : List Int} (h : rs.length ≤ 1000) : (D.tup (rs.map D.int)).sm = true := by
  show (decide ((rs.map D.int).length ≤ 1000) && D.sms (rs.map D.int)) = true
  rw [List.length_map, decide_eq_true h, sms_ints]; rfl
theorem leans_two {k : Clk} (ok : k.Ok) : ∀ p ∈ leans k, p.1.length ≤ 1000 ∧ p.2.length ≤ 1000 := fun p hp => by
  obtain ⟨i, a, j, b, rfl, _⟩ := mem_leans ok hp
  exact ⟨by show 2 ≤ 1000; decide, by show 2 ≤ 1000; decide⟩
end LC
-- P5
namespace LC
variable [Tbl]
/-! stairs -/
def sn (r : List Int) (t : Int) : Int := r[(t % (r.length : Int)).toNat]?.getD 0 + t / (r.length : Int) * (r.length : Int)
structure SR (r : List Int) : Prop where
  len : 1 ≤ r.length ∧ r.length ≤ 12
  mono : ∀ (i : Nat) (a b : Int), r[i]? = some a → r[i + 1]? = some b → a ≤ b
  last : ∀ a b : Int, r[0]? = some a → r[r.length - 1]? = some b → b ≤ a + (r.length : Int)
def comp (a b : List Int) : List Int := b.map (sn a)
theorem comp_len (a b : List Int) : (comp a b).length = b.length := by unfold comp; rw [List.length_map]
theorem sn_add {r : List Int} (h : 1 ≤ r.length) (t c : Int) : sn r (t + (r.length : Int) * c) = sn r t + (r.length : Int) * c := by
  unfold sn
  rw [Int.add_mul_emod_self_left, Int.add_mul_ediv_left _ _ (by omega), Int.add_mul, Int.mul_comm c, Int.add_assoc]
theorem sn_in {r : List Int} {i : Nat} {a : Int} (e : r[i]? = some a) : sn r i = a := by
  have hl := (List.getElem?_eq_some_iff.mp e).1
  unfold sn
  rw [Int.emod_eq_of_lt (by omega) (by omega), Int.ediv_eq_zero_of_lt (by omega) (by omega), Int.zero_mul, Int.add_zero, Int.toNat_natCast, e]
  rfl
theorem sn_comp {a b : List Int} (ha : 1 ≤ a.length) (h : b.length = a.length) (t : Int) : sn (comp a b) t = sn a (sn b t) := by
  have hb : 1 ≤ b.length := by omega
  have ht := Int.emod_add_mul_ediv t (b.length : Int)
  obtain ⟨x, hx⟩ : ∃ z, b[(t % (b.length : Int)).toNat]? = some z := ⟨_, List.getElem?_eq_getElem (by have := Int.emod_lt_of_pos t (show (0 : Int) < b.length by omega); have := Int.emod_nonneg t (show ((b.length : Nat) : Int) ≠ 0 by omega); omega)⟩
  have e1 : sn b t = x + (a.length : Int) * (t / (b.length : Int)) := by
    unfold sn; rw [hx, ← h, Int.mul_comm]; rfl
  rw [e1, sn_add ha]
  have l0 : sn (comp a b) t = (comp a b)[(t % ((comp a b).length : Int)).toNat]?.getD 0 + t / ((comp a b).length : Int) * ((comp a b).length : Int) := rfl
  rw [l0, comp_len]
  have e2 : (comp a b)[(t % (b.length : Int)).toNat]? = some (sn a x) := by unfold comp; rw [List.getElem?_map, hx]; rfl
  rw [e2, ← h, Int.mul_comm (t / (b.length : Int))]
  rfl
/-- done so often -/
def it (f : Int → Int) : Nat → Int → Int
  | 0, x => x
  | n + 1, x => it f n (f x)
theorem it_add (f : Int → Int) (m : Nat) : ∀ (n : Nat) (x : Int), it f (m + n) x = it f n (it f m x) := by
  induction m with
  | zero => intro n x; rw [Nat.zero_add]; rfl
  | succ m ih => intro n x; rw [Nat.succ_add]; exact ih n (f x)
theorem it_succ (f : Int → Int) (n : Nat) (x : Int) : it f (n + 1) x = f (it f n x) := it_add f n 1 x
theorem it_two (f : Int → Int) : ∀ (n : Nat) (x : Int), it (fun y => f (f y)) n x = it f (2 * n) x
  | 0, x => rfl
  | n + 1, x => by
    show it (fun y => f (f y)) n (f (f x)) = it f (2 * n + 2) x
    rw [it_two f n (f (f x))]; rfl
theorem it_congr {f g : Int → Int} (h : ∀ x, f x = g x) (n : Nat) (x : Int) : it f n x = it g n x := by
  have : f = g := funext h
  rw [this]
theorem it_shift {r : List Int} (h : 1 ≤ r.length) (c : Int) : ∀ (n : Nat) (t : Int), it (sn r) n (t + (r.length : Int) * c) = it (sn r) n t + (r.length : Int) * c
  | 0, t => rfl
  | n + 1, t => by
    show it (sn r) n (sn r (t + (r.length : Int) * c)) = it (sn r) n (sn r t) + _
    rw [sn_add h, it_shift h c n]
/-- the row of n times -/
def rowIt (r : List Int) (n : Nat) : List Int := (List.range r.length).map fun (i : Nat) => it (sn r) n (i : Int)
theorem rowIt_len (r : List Int) (n : Nat) : (rowIt r n).length = r.length := by unfold rowIt; rw [List.length_map, List.length_range]
theorem row_ext {a b : List Int} (h : a.length = b.length) (hs : ∀ t, sn a t = sn b t) : a = b := by
  refine List.ext_getElem? fun i => ?_
  by_cases z : i < a.length
  · obtain ⟨x, hx⟩ : ∃ z, a[i]? = some z := ⟨_, List.getElem?_eq_getElem z⟩
    obtain ⟨y, hy⟩ : ∃ z, b[i]? = some z := ⟨_, List.getElem?_eq_getElem (by omega)⟩
    have := hs i
    rw [sn_in hx, sn_in hy] at this
    rw [hx, hy, this]
  · rw [List.getElem?_eq_none (by omega), List.getElem?_eq_none (by omega)]
theorem sn_rowIt {r : List Int} (h : 1 ≤ r.length) (n : Nat) (t : Int) : sn (rowIt r n) t = it (sn r) n t := by
  have hb := Int.emod_nonneg t (show ((r.length : Nat) : Int) ≠ 0 by omega)
  have hb2 := Int.emod_lt_of_pos t (show (0 : Int) < r.length by omega)
  have l0 : sn (rowIt r n) t = (rowIt r n)[(t % ((rowIt r n).length : Int)).toNat]?.getD 0 + t / ((rowIt r n).length : Int) * ((rowIt r n).length : Int) := rfl
  rw [l0, rowIt_len]
  have e : (rowIt r n)[(t % (r.length : Int)).toNat]? = some (it (sn r) n (t % (r.length : Int))) := by
    unfold rowIt
    rw [List.getElem?_map, List.getElem?_range (by omega : (t % (r.length : Int)).toNat < r.length)]
    show some (it (sn r) n (((t % (r.length : Int)).toNat : Nat) : Int)) = _
    rw [Int.toNat_of_nonneg hb]
  rw [e]
  have ht := Int.emod_add_mul_ediv t (r.length : Int)
  have := it_shift h (t / (r.length : Int)) n (t % (r.length : Int))
  rw [ht] at this
  rw [this, Int.mul_comm (t / (r.length : Int))]
  rfl
/-- how far a stair leads away -/
theorem sr_between {r : List Int} (h : SR r) : ∀ (i : Nat) (x a : Int), r[0]? = some a → r[i]? = some x → a ≤ x ∧ x ≤ a + (r.length : Int) := fun i x a ea ex => by
  have hi := (List.getElem?_eq_some_iff.mp ex).1
  have up : ∀ (d j : Nat) (u w : Int), r[j]? = some u → r[j + d]? = some w → u ≤ w := fun d => by
    induction d with
    | zero => intro j u w e1 e2; rw [Nat.add_zero, e1] at e2; cases e2; exact Int.le_refl _
    | succ d ih =>
      intro j u w e1 e2
      obtain ⟨m, em⟩ : ∃ z, r[j + d]? = some z := ⟨_, List.getElem?_eq_getElem (by have := (List.getElem?_eq_some_iff.mp e2).1; omega)⟩
      exact Int.le_trans (ih j u m e1 em) (h.mono _ _ _ em e2)
  obtain ⟨l, el⟩ : ∃ z, r[r.length - 1]? = some z := ⟨_, List.getElem?_eq_getElem (by omega)⟩
  refine ⟨up i 0 a x ea (by rw [Nat.zero_add]; exact ex), Int.le_trans (up (r.length - 1 - i) i x l ex (by rw [show i + (r.length - 1 - i) = r.length - 1 by omega]; exact el)) (h.last a l ea el)⟩
theorem sn_near {r : List Int} (h : SR r) {a : Int} (ea : r[0]? = some a) (t : Int) : sn r t - t ≤ a + (r.length : Int) ∧ a - (r.length : Int) ≤ sn r t - t := by
  have hl := h.len
  have hb := Int.emod_nonneg t (show ((r.length : Nat) : Int) ≠ 0 by omega)
  have hb2 := Int.emod_lt_of_pos t (show (0 : Int) < r.length by omega)
  have ht := Int.emod_add_mul_ediv t (r.length : Int)
  obtain ⟨x, hx⟩ : ∃ z, r[(t % (r.length : Int)).toNat]? = some z := ⟨_, List.getElem?_eq_getElem (by omega)⟩
  have := sr_between h _ x a ea hx
  unfold sn
  rw [hx]
  show x + _ - t ≤ _ ∧ _ ≤ x + _ - t
  rw [Int.mul_comm (t / (r.length : Int))]
  omega
/-! the first repeat -/
def pj (r : List Int) (j : Nat) : Int := it (sn r) j 0
def fz (r : List Int) (j : Nat) : Int := pj r j % (r.length : Int)
structure FR (r : List Int) (i m : Nat) : Prop where
  lt : i < m
  eq : fz r i = fz r m
  no : ∀ x y, x < y → y < m → fz r x ≠ fz r y
theorem FR.uniq {r : List Int} {i m j n : Nat} (h : FR r i m) (g : FR r j n) : i = j ∧ m = n := by
  have e : m = n := by
    rcases Nat.lt_trichotomy m n with z | z | z
    · exact absurd h.eq (g.no i m h.lt z)
    · exact z
    · exact absurd g.eq (h.no j n g.lt z)
  subst e
  refine ⟨?_, rfl⟩
  rcases Nat.lt_trichotomy i j with z | z | z
  · exact absurd (h.eq.trans g.eq.symm) (h.no i j z g.lt)
  · exact z
  · exact absurd (g.eq.trans h.eq.symm) (h.no j i z h.lt)
theorem nodup_le {α : Type} [DecidableEq α] : ∀ {l r : List α}, l.Nodup → (∀ x ∈ l, x ∈ r) → l.length ≤ r.length
  | [], _, _, _ => Nat.zero_le _
  | x :: l, r, hn, hs => by
    rw [List.nodup_cons] at hn
    have := nodup_le (r := r.erase x) hn.2 fun y hy => by
      have hne : y ≠ x := fun z => hn.1 (z ▸ hy)
      exact (List.mem_erase_of_ne hne).mpr (hs y (List.mem_cons_of_mem _ hy))
    rw [List.length_erase_of_mem (hs x List.mem_cons_self)] at this
    have : 0 < r.length := List.length_pos_iff.mpr (List.ne_nil_of_mem (hs x List.mem_cons_self))
    rw [List.length_cons]; omega
/-- so many unlike phases there can be -/
theorem fz_le {r : List Int} (h : 1 ≤ r.length) {m : Nat} (no : ∀ x y, x < y → y < m → fz r x ≠ fz r y) : m ≤ r.length := by
  have h1 : ((List.range m).map fun j => (fz r j).toNat).Nodup := by
    rw [List.Nodup, List.pairwise_map]
    refine List.Pairwise.imp_of_mem ?_ (List.pairwise_lt_range (n := m))
    intro x y hx hy hxy z
    rw [List.mem_range] at hy
    have a := Int.emod_nonneg (pj r x) (show ((r.length : Nat) : Int) ≠ 0 by omega)
    have b := Int.emod_nonneg (pj r y) (show ((r.length : Nat) : Int) ≠ 0 by omega)
    exact no x y hxy hy (by unfold fz at *; omega)
  have := nodup_le (r := List.range r.length) h1 fun x hx => by
    obtain ⟨j, _, rfl⟩ := List.mem_map.mp hx
    have := Int.emod_lt_of_pos (pj r j) (show (0 : Int) < r.length by omega)
    have a := Int.emod_nonneg (pj r j) (show ((r.length : Nat) : Int) ≠ 0 by omega)
    rw [List.mem_range]; unfold fz; omega
  rw [List.length_map, List.length_range, List.length_range] at this
  exact this
end LC
namespace LC
variable [Tbl]
open PySem PySem.Spec PyProof.Rows L2 GenW RZ
theorem atI_end {xs : List V} {v : V} (h : xs[xs.length - 1]? = some v) : atI xs (-1) = some v := by
  have hl := (List.getElem?_eq_some_iff.mp h).1
  unfold atI ixN
  rw [if_neg (by omega), if_pos (by omega)]
  show xs[(-1 + (xs.length : Int)).toNat]? = some v
  rw [show (-1 + (xs.length : Int)).toNat = xs.length - 1 by omega]
  exact h
/-- over two tuples side by side, the second being the shorter -/
theorem lc_zipS {K : PySem.W.Frag} {a b : Addr} {xs ys : List V} {g : TG} {tt : TT} {te : TE} {vs : List Nat} {σ : L2.St} {H1 : Hp} {D : Addr} {Qd : Hp → Prop} (hn : ys.length ≤ xs.length) (Pv : Nat → Hp → Prop) (h0 : Pv 0 (upd H1 D (.lst []))) (hl : ∀ i H, i ≤ ys.length → Pv i H → SqT K H a xs ∧ SqT K H b ys)
    (hs : ∀ i x y T H, xs[i]? = some x → ys[i]? = some y → Pv i H → H T = none → g (.ref T) (wipe σ vs) (upd H T (.tup [x, y])) fun σ2 H2 => wipe σ2 vs = wipe σ vs ∧ tt σ2 H2 fun b H3 =>
      if b = true then te σ2 H3 fun y H4 => ∃ acc, H4 D = some (.lst acc) ∧ acc.length < sizeLine ∧ Pv (i + 1) (upd H4 D (.lst (acc ++ [y]))) else Pv (i + 1) H3) (hd : ∀ H, Pv ys.length H → Qd H) :
    ∃ W : Nat → Nat → Hp → Prop, (∃ m, W 0 m (upd H1 D (.lst []))) ∧ ∀ i m H, W i m H →
      ((ItzT K a b).stop i H ∧ Qd H) ∨ ((ItzT K a b).go i H ∧ ∃ Nx : Hp → Prop, (∀ H', Nx H' → ∃ m', m' < m ∧ W (i + 1) m' H') ∧ ∀ x H', (ItzT K a b).yld i H x H' → g x (wipe σ vs) H' fun σ2 H2 => wipe σ2 vs = wipe σ vs ∧ tt σ2 H2 fun b H3 =>
        if b = true then te σ2 H3 fun y H4 => ∃ acc, H4 D = some (.lst acc) ∧ acc.length < sizeLine ∧ Nx (upd H4 D (.lst (acc ++ [y]))) else Nx H3) := by
  refine ⟨fun i m H => m = ys.length - i ∧ i ≤ ys.length ∧ Pv i H, ⟨ys.length, by simp, Nat.zero_le _, h0⟩, ?_⟩
  rintro i m H ⟨rfl, hi, p⟩
  obtain ⟨q1, q2⟩ := hl i H hi p
  by_cases hlt : i < ys.length
  · refine .inr ⟨⟨xs, ys, xs[i]'(by omega), ys[i], q1, q2, List.getElem?_eq_getElem _, by simp [hlt]⟩, Pv (i + 1), fun H' h' => ⟨ys.length - (i + 1), by omega, rfl, hlt, h'⟩, fun x H' y => ?_⟩
    obtain ⟨T, u, v, rfl, hT, rfl, e1, e2⟩ := y
    exact hs i u v T H (e1 xs q1) (e2 ys q2) p hT
  · have e : i = ys.length := by omega
    subst e
    exact .inl ⟨⟨xs, ys, q1, q2, .inr (Nat.le_refl _)⟩, hd H p⟩
end LC
-- Y1
namespace LC
variable [Tbl]
open PySem PySem.Spec PyProof.Rows L2 GenW RZ
/-- over two lists side by side -/
theorem drvZ {K : PySem.W.Frag} {a b : Addr} {xs ys : List V} {H0 : Hp} {Qd : Hp → Prop} {B : (Hp → Prop) → V → Hp → Prop} (hn : xs.length = ys.length) (Pv : Nat → Hp → Prop) (h0 : Pv 0 H0) (hl : ∀ i H, i ≤ xs.length → Pv i H → SqL K H a xs ∧ SqL K H b ys)
    (hs : ∀ i x y T H, xs[i]? = some x → ys[i]? = some y → Pv i H → H T = none → B (Pv (i + 1)) (.ref T) (upd H T (.tup [x, y]))) (hd : ∀ H, Pv xs.length H → Qd H) :
    ∃ W : Nat → Nat → Hp → Prop, (∃ m, W 0 m H0) ∧ ∀ i m H, W i m H →
      ((Itz K a b).stop i H ∧ Qd H) ∨ ((Itz K a b).go i H ∧ ∃ Nx : Hp → Prop, (∀ H', Nx H' → ∃ m', m' < m ∧ W (i + 1) m' H') ∧ ∀ x H', (Itz K a b).yld i H x H' → B Nx x H') := by
  refine ⟨fun i m H => m = xs.length - i ∧ i ≤ xs.length ∧ Pv i H, ⟨xs.length, by simp, Nat.zero_le _, h0⟩, ?_⟩
  rintro i m H ⟨rfl, hi, p⟩
  obtain ⟨q1, q2⟩ := hl i H hi p
  by_cases hlt : i < xs.length
  · refine .inr ⟨⟨xs, ys, xs[i], ys[i]'(by omega), q1, q2, by simp [hlt], List.getElem?_eq_getElem _⟩, Pv (i + 1), fun H' h' => ⟨xs.length - (i + 1), by omega, rfl, hlt, h'⟩, fun x H' y => ?_⟩
    obtain ⟨T, u, v, rfl, hT, rfl, e1, e2⟩ := y
    exact hs i u v T H (e1 xs q1) (e2 ys q2) p hT
  · have e : i = xs.length := by omega
    subst e
    exact .inl ⟨⟨xs, ys, q1, q2, .inl (Nat.le_refl _)⟩, hd H p⟩
theorem cut_drop1 (xs : List V) : cutV xs (some 1) none = xs.drop 1 := by
  have e : HT.sIx xs.length 0 (some 1) = min 1 xs.length := HT.sIx_nat _ _ 1
  unfold cutV
  rw [e, HT.sIx_none]
  by_cases z : 1 ≤ xs.length
  · rw [Nat.min_eq_left z, List.take_of_length_le (by rw [List.length_drop]; exact Nat.le_refl _)]
  · have : xs = [] := List.eq_nil_of_length_eq_zero (by omega)
    subst this; rfl
theorem cut_last (xs : List V) : cutV xs (some (-1)) none = xs.drop (xs.length - 1) := by
  have e : HT.sIx xs.length 0 (some (-1)) = xs.length - 1 := by
    show (if (-1 : Int) < 0 then ((-1 : Int) + (xs.length : Int)).toNat else min (-1 : Int).toNat xs.length) = _
    rw [if_pos (by omega)]; omega
  unfold cutV
  rw [e, HT.sIx_none, List.take_of_length_le (by rw [List.length_drop]; exact Nat.le_refl _)]
end LC
-- Y2
/-! dict comprehensions whose keys are tuples -/
namespace LC
open PySem PySem.Spec PyProof.Rows L2
section
variable {X : Cx}
theorem putT {pins : List (Addr × Obj)} {σ : L2.St} {H : Hp} {s : Shared} {E : Value → Shared → Prop} {D kt : Addr} {kvs : List (List Key × V)} {k : List Key} {v : V} {u r : Value} {Q : Unit → Shared → Prop}
    (room : X.A.units < cLine) (inv : Inv X pins σ H s) (atD : H D = some (.dT kvs)) (few : kvs.length < sizeLine) (atK : H kt = some (.tup (k.map kV))) (rk : RelV (.ref kt) u) (rv : RelV v r)
    (go : ∀ t, Inv X pins σ (upd H D (.dT (putK kvs k v))) t → Q () t) : wpAny (model X.prog X.w) X.A (dictSet D u r) Q E s := by
  cases (show u = Value.ref kt from rk)
  obtain ⟨c1, c2, xs, paired, whole⟩ := dt_of inv.hok atD
  have c3 : xs.length ≤ sizeLine := by have := Paired.length paired; omega
  have c4 : (putK kvs k v).length ≤ sizeLine := Nat.le_trans (length_putK kvs k v) (by omega)
  apply wpAny_dictSet_heap (hsz := c3) (show (tupleKind (mixKind X.prog X.w)).room X.A from room) (key_of inv.hok atK) whole
  intro hp whole' same
  apply go
  obtain ⟨ob, es, ep, g1, g2, g3, g4, _, g5⟩ := whole'
  have keepT : ∀ c ys, H c = some (.tup ys) → upd H D (.dT (putK kvs k v)) c = some (.tup ys) := fun c ys ec => (upd_ne (ne_of ec atD (fun z => nomatch z))).trans ec
  exact d_write inv (by rw [atD]; exact True.intro) same ⟨ob, g1⟩ ⟨c4, c2, _, (paired.put k atK rv).keeps keepT, ob, es, ep, g1, g2, g3, g4, g5⟩

/-- {key: value for target in walked if ..}, the keys tuples -/
def tDcT (walk : TI) (tgt : TG) (tst : TT) (key val : TE) (slots : List Nat) : TE := fun σ H Q => walk σ H fun J H1 => ∀ D, H1 D = none → ∃ W : Nat → Nat → Hp → Prop, (∃ m, W 0 m (upd H1 D (.dT []))) ∧ ∀ i m H, W i m H →
  (J.stop i H ∧ Q (.ref D) H) ∨ (J.go i H ∧ ∃ Nx : Hp → Prop, (∀ H', Nx H' → ∃ m', m' < m ∧ W (i + 1) m' H') ∧ ∀ x H', J.yld i H x H' → tgt x (wipe σ slots) H' fun σ2 H2 => wipe σ2 slots = wipe σ slots ∧ tst σ2 H2 fun b H3 =>
    if b = true then key σ2 H3 fun y H4 => val σ2 H4 fun z H5 => ∃ kvs k kt, y = .ref kt ∧ H5 kt = some (.tup (k.map kV)) ∧ H5 D = some (.dT kvs) ∧ kvs.length < sizeLine ∧ Nx (upd H5 D (.dT (putK kvs k z))) else Nx H3)

theorem dcT_core {pins : List (Addr × Obj)} {s : Shared} {σ : L2.St} {H : Hp} {Q : VK} {use : Option (Value → Sem Unit)} {Qf : Value → Shared → Prop} {pos' : Pos} {kx vx tg iter : Expr} {ifs : List Expr} {scope : Scope} {own : List (Str × Nat)} {pos : Pos} {walk : TI} {tgt : TG} {tst : TT} {key val : TE} (room : X.A.units < cLine) (calm : X.calm = true) (nodup : X.N.Nodup) (pWalk : PI X tg iter walk) (blk : BlkOk X.N X.env.scope scope own)
    (pTgt : ∀ (t : Shared) (G : Hp) (C : Addr) (cl : List (Str × Addr)) (fp : List Addr), PG (X.blk t G scope (compEnvC scope cl C X.env) fp) tg tgt)
    (pTst : ∀ (t : Shared) (G : Hp) (C : Addr) (cl : List (Str × Addr)) (fp : List Addr), PTs (X.blk t G scope (compEnvC scope cl C X.env) fp) ifs tst)
    (pKey : ∀ (t : Shared) (G : Hp) (C : Addr) (cl : List (Str × Addr)) (fp : List Addr), PE (X.blk t G scope (compEnvC scope cl C X.env) fp) kx key)
    (pVal : ∀ (t : Shared) (G : Hp) (C : Addr) (cl : List (Str × Addr)) (fp : List Addr), PE (X.blk t G scope (compEnvC scope cl C X.env) fp) vx val)
    (noFold : ∀ x, foldedSetIterable iter X.env x = pure x) (inv : Inv X pins σ H s) (reading : tDcT walk tgt tst key val (own.map (·.2)) σ H Q)
    (hand : ∀ D C t m G, Inv X pins σ G t → Q (.ref D) G → t.heap.Ns C m → FpOk X pins G C → compPost (model X.prog X.w) X.A X.xe use Qf (.ref D) C (.ok .next) t) :
    wpAny (model X.prog X.w) X.A (comprehension (.DictComp kx vx [⟨tg, iter, ifs, 0⟩] scope pos) scope X.env pos' newDict false (eval iter X.env) use) Qf X.xe s := by
  have cellOf : ∀ y ∈ scope.names, y.2 = .free → ∃ c, X.env.cells.lookup y.1 = some c := by
    intro y hy hf
    cases blk.free y hy hf with
    | inl k => exact inv.ok.has _ (.inl k)
    | inr k => exact inv.ok.has _ (.inr k)
  have uniq : ∀ y ∈ scope.names, y.2 = .local → scope.names.lookup y.1 = some .local := by
    intro y hy hf
    rw [blk.uniq y hy, hf]
  refine wpAny_comprehension_free (use := use) rfl noFold (closure_ok cellOf) blk.kind uniq (thn (pWalk.run pins s σ H _ inv reading) fun walked s1 after => thn after ?_)
  rintro itv s2 ⟨it, fp, turnAt, J, G0, rfl, inv2, T, at2, fp2, rest⟩
  refine wpAny_newObj_type (newEnv_comp ?_)
  -- the new dict's place
  obtain ⟨D, hD⟩ : ∃ D, s2.heap.objs.size = D := ⟨_, rfl⟩
  have noD : G0 D = none := inv2.hok.fresh (Nat.le_of_eq hD)
  obtain ⟨W, ⟨m0, start⟩, turn⟩ := rest D noD
  rw [hD]
  generalize hs3 : ({ s2 with heap := s2.heap.push { cls := .type "dict", data := .dict #[] } } : Shared) = s3
  have heap3 : s3.heap = s2.heap.push { cls := .type "dict", data := .dict #[] } := by rw [← hs3]
  have inv3 : Inv X pins σ (upd G0 D (.dT [])) s3 := by
    subst hs3 hD
    exact inv2.laid (t' := s2.toks) (fun b o e => Heap.get?_push_of_some _ e) (Nat.le_refl _) (dt_empty s2.heap inv2.big)
  have below : ∀ c ∈ fp, c < s2.heap.objs.size := by
    intro c hc
    obtain ⟨ob, eb, _⟩ := T.obj _ _ at2 c hc
    exact Heap.lt_size eb
  have fp3 : ∀ c ∈ fp, FpOk X pins (upd G0 D (.dT [])) c ∧ c < s3.heap.objs.size := by
    intro c hc
    have lt := below c hc
    have ne : c ≠ D := by rw [← hD]; exact Nat.ne_of_lt lt
    refine ⟨⟨(upd_ne ne).trans (fp2 c hc).1, (fp2 c hc).2⟩, ?_⟩
    rw [heap3, Heap.size_push]
    exact Nat.lt_succ_of_lt lt
  have at3 : turnAt 0 s3.heap := by
    rw [heap3]
    exact T.keep _ _ _ at2 fun c _ ob eb => Heap.get?_push_of_some _ eb
  have invB := block_start inv3 blk nodup fp3
  obtain ⟨cells, hcells⟩ : ∃ cells, cellsFrom (s3.heap.objs.size + 1) scope.names (cloFrom X.env.cells scope.names []) = cells := ⟨_, rfl⟩
  obtain ⟨C, hC⟩ : ∃ C, s3.heap.objs.size = C := ⟨_, rfl⟩
  rw [hC] at hcells invB
  rw [hcells] at invB
  obtain ⟨G3, hG3⟩ : ∃ G3, upd G0 D (.dT []) = G3 := ⟨_, rfl⟩
  rw [hG3] at inv3 invB start fp3
  have gT := pTgt s3 G3 C cells fp
  have gS := pTst s3 G3 C cells fp
  have gK := pKey s3 G3 C cells fp
  have gV := pVal s3 G3 C cells fp
  obtain ⟨ce, hce⟩ : ∃ ce, compEnvC scope cells C X.env = ce := ⟨_, rfl⟩
  have locC : ce.locals = C := by rw [← hce]; rfl
  show codeAny _ _ (.compStart (.DictComp kx vx [⟨tg, iter, ifs, 0⟩] scope pos) 0 (.ref it) (.ref D) (compEnvC scope (cellsFrom (s3.heap.objs.size + 1) scope.names (cloFrom X.env.cells scope.names [])) s3.heap.objs.size X.env)) (compPost _ _ _ _ _ _ s3.heap.objs.size) { s3 with heap := pushCells (s3.heap.push { cls := .type "dict", data := .dict #[] }) scope.names }
  rw [hC, hcells, hce]
  rw [hce] at invB gT gS gK gV
  have none3 : ∀ c ∈ fp, G3 c = none := fun c hc => (fp3 c hc).1.1
  obtain ⟨s4, hs4⟩ : ∃ s4 : Shared, ({ s3 with heap := pushCells (s3.heap.push { cls := .type "dict", data := .dict #[] }) scope.names } : Shared) = s4 := ⟨_, rfl⟩
  have at4 : turnAt 0 s4.heap := by
    rw [← hs4]
    exact T.keep _ _ _ at3 fun c _ ob eb => pushCells_keeps _ _ _ _ (Heap.get?_push_of_some _ eb)
  rw [hs4] at invB ⊢
  -- the walk's own things stay out of the block's sight
  have unseen : ∀ {ρ : L2.St} {G : Hp} {t : Shared}, Inv (X.blk s3 G3 scope ce fp) [] ρ G t → (∀ c ∈ fp, G c = none) → ∀ c ∈ fp, FpOk (X.blk s3 G3 scope ce fp) [] G c := by
    intro ρ G t invt hn c hc
    refine ⟨hn c hc, (invt.ok.exf c hc).1, invt.ok.exfs c hc, .inl hc, fun y d ey => (invt.ok.exf c hc).2 y d ey, fun p hp => ?_⟩
    exact absurd (show p ∈ ([] : List (Addr × Obj)) ++ [] from hp) (by simp)
  obtain ⟨wiped, hwiped⟩ : ∃ wiped, wipe σ (own.map (·.2)) = wiped := ⟨_, rfl⟩
  rw [hwiped] at invB turn
  have whole : codeAny (model X.prog X.w) X.A (.compLoop (.DictComp kx vx [⟨tg, iter, ifs, 0⟩] scope pos) 0 (.ref it) (.ref D) ce) (compPost (model X.prog X.w) X.A X.xe use Qf (.ref D) C) s4 := by
    refine compLoop_anyD (fun n t => ∃ i G, Inv (X.blk s3 G3 scope ce fp) [] wiped G t ∧ turnAt i t.heap ∧ (∀ c ∈ fp, G c = none) ∧ W i n G) ?_ m0 ⟨0, G3, invB, at4, none3, start⟩
    rintro n t ⟨i, G, invt, att, nonet, wt⟩
    obtain ⟨stops, fin⟩ | ⟨goes, Nx, less, step⟩ := turn i n G wt
    · -- the walk's end
      apply thnF (T.done (X.blk s3 G3 scope ce fp) rfl rfl rfl calm i [] t _ G (fun _ _ => False) invt (unseen invt nonet) att stops)
      rintro _ t2 ⟨rfl, inv5⟩
      have back5 : Inv X pins σ G t2 := inv3.call' (ch := fp) inv5.os inv5.base inv5.hok inv5.bare fun c hc => ⟨(fp3 c hc).1.2.2.2.1, (fp3 c hc).1.2.1, (fp3 c hc).1.2.2.2.2.1, (fp3 c hc).1.2.2.2.2.2⟩
      have noC : G C = none := by
        rw [← locC]
        exact inv5.free
      obtain ⟨mm, nsm, _⟩ := inv5.loc
      have nsC : t2.heap.Ns C mm := by
        rw [← locC]
        exact nsm
      exact hand D C t2 mm G back5 fin nsC (inv3.fpOk (Nat.le_of_eq hC) noC)
    · -- one turn
      apply thnF (T.item (X.blk s3 G3 scope ce fp) rfl rfl rfl calm i [] t _ G (fun _ _ => False) invt (unseen invt nonet) att goes)
      rintro _ t1 ⟨u, rfl, next⟩
      apply thnF next
      rintro _ t2 ⟨x, G2, inv5, rx, yx, at5, none5⟩
      have pinned5 := inv5.pinned (unseen inv5 none5) (T.obj _ _ at5)
      apply thnF (gT.run _ t2 _ G2 x u _ pinned5 rx (step x G2 yx))
      rintro _ t3 ⟨σ3, G4, inv6, same6, test6⟩
      -- a turn that has come to its end
      have done6 : ∀ {t' : Shared} {G' : Hp}, Inv (X.blk s3 G3 scope ce fp) ([] ++ pinsAt fp t2.heap) σ3 G' t' → Nx G' → ∃ m, m < n ∧ ∃ i G, Inv (X.blk s3 G3 scope ce fp) [] wiped G t' ∧ turnAt i t'.heap ∧ (∀ c ∈ fp, G c = none) ∧ W i m G := by
        intro t' G' inv' nx
        obtain ⟨m', lt', w'⟩ := less G' nx
        have pin' : ∀ c ∈ fp, ∀ ob, t2.heap.get? c = some ob → t'.heap.get? c = some ob ∧ G' c = none := by
          intro c hc ob eb
          have z := inv'.pin (c, ob) (List.mem_append_right _ (List.mem_append_right _ (mem_pinsAt hc eb)))
          exact ⟨z.1, z.2.1⟩
        have lens : wiped.length = σ3.length := by rw [← same6, wipe_length]
        refine ⟨m', lt', i + 1, G', (inv'.unpinned (pins := [])).weak lens (fun j v ej => ?_), T.keep _ _ _ at5 fun c hc ob eb => (pin' c hc ob eb).1, fun c hc => ?_, w'⟩
        · rw [← same6] at ej
          exact (wipe_some ej).1
        · obtain ⟨ob, eb, _⟩ := T.obj _ _ at5 c hc
          exact (pin' c hc ob eb).2
      apply thnF (gS.run _ t3 σ3 G4 _ inv6 test6)
      rintro b t4 ⟨G5, inv7, q7⟩
      cases b with
      | false => exact done6 inv7 q7
      | true =>
        apply thnF (gK.run _ t4 σ3 G5 _ inv7 q7)
        rintro z t5 ⟨yk, G6, inv8, rk, q8⟩
        apply thnF (gV.run _ t5 σ3 G6 _ inv8 q8)
        rintro z2 t6 ⟨yv, G7, inv9, rv, kvs, k, kt, rfl, atK, atD, few, nx⟩
        exact putT (X := X.blk s3 G3 scope ce fp) room inv9 atD few atK rk rv fun t7 inv10 => done6 inv10 nx
  exact codeAny_compStart_dict whole (T.self X.A 0 _ _ _ at4 whole)
/-- as a value -/
theorem pe_dcT {kx vx tg iter : Expr} {ifs : List Expr} {scope : Scope} {own : List (Str × Nat)} {pos : Pos} {walk : TI} {tgt : TG} {tst : TT} {key val : TE} (room : X.A.units < cLine) (calm : X.calm = true) (nodup : X.N.Nodup) (pWalk : PI X tg iter walk) (blk : BlkOk X.N X.env.scope scope own)
    (pTgt : ∀ (t : Shared) (G : Hp) (C : Addr) (cl : List (Str × Addr)) (fp : List Addr), PG (X.blk t G scope (compEnvC scope cl C X.env) fp) tg tgt)
    (pTst : ∀ (t : Shared) (G : Hp) (C : Addr) (cl : List (Str × Addr)) (fp : List Addr), PTs (X.blk t G scope (compEnvC scope cl C X.env) fp) ifs tst)
    (pKey : ∀ (t : Shared) (G : Hp) (C : Addr) (cl : List (Str × Addr)) (fp : List Addr), PE (X.blk t G scope (compEnvC scope cl C X.env) fp) kx key)
    (pVal : ∀ (t : Shared) (G : Hp) (C : Addr) (cl : List (Str × Addr)) (fp : List Addr), PE (X.blk t G scope (compEnvC scope cl C X.env) fp) vx val)
    (noFold : ∀ x, foldedSetIterable iter X.env x = pure x := by intro _; rfl) : PE X (.DictComp kx vx [⟨tg, iter, ifs, 0⟩] scope pos) (tDcT walk tgt tst key val (own.map (·.2))) := by
  constructor
  intro pins s σ H Q inv reading
  rw [arm_eval_DictComp]
  refine dcT_core room calm nodup pWalk blk pTgt pTst pKey pVal noFold inv reading ?_
  rintro D C t m G invG q nsC ⟨f0, f1, f2, f3, f4, f5⟩
  exact ⟨m, nsC, fun hp same => ⟨.ref D, G, invG.turned (t' := t.toks) (fun c ob hb eb => (same.2 c hb).trans eb) f0 f1 f3 f4 f5, rfl, q⟩⟩
/-- straight into a name -/
theorem ps_setDcT {i : Nat} {y : Str} {py spos : Pos} {kx vx tg iter : Expr} {ifs : List Expr} {scope : Scope} {own : List (Str × Nat)} {pos : Pos} {walk : TI} {tgt : TG} {tst : TT} {key val : TE} (room : X.A.units < cLine) (calm : X.calm = true) (nodup : X.N.Nodup) (atY : X.N[i]? = some y) (locY : X.env.scope.names.lookup y = some .local)
    (used : swapsWith (.DictComp kx vx [⟨tg, iter, ifs, 0⟩] scope pos) (some (.Name y py)) spos.line X.env = pure true) (pWalk : PI X tg iter walk) (blk : BlkOk X.N X.env.scope scope own)
    (pTgt : ∀ (t : Shared) (G : Hp) (C : Addr) (cl : List (Str × Addr)) (fp : List Addr), PG (X.blk t G scope (compEnvC scope cl C X.env) fp) tg tgt)
    (pTst : ∀ (t : Shared) (G : Hp) (C : Addr) (cl : List (Str × Addr)) (fp : List Addr), PTs (X.blk t G scope (compEnvC scope cl C X.env) fp) ifs tst)
    (pKey : ∀ (t : Shared) (G : Hp) (C : Addr) (cl : List (Str × Addr)) (fp : List Addr), PE (X.blk t G scope (compEnvC scope cl C X.env) fp) kx key)
    (pVal : ∀ (t : Shared) (G : Hp) (C : Addr) (cl : List (Str × Addr)) (fp : List Addr), PE (X.blk t G scope (compEnvC scope cl C X.env) fp) vx val)
    (noFold : ∀ x, foldedSetIterable iter X.env x = pure x := by intro _; rfl) :
    PS X (.Assign [.Name y py] (.DictComp kx vx [⟨tg, iter, ifs, 0⟩] scope pos) spos) (tAsg (tDcT walk tgt tst key val (own.map (·.2))) (gName i)) := by
  constructor
  intro pins s σ H D inv reading
  rw [exec_Assign_Name_used _ _ _ _ used]
  apply wpAny_bind
  apply wpAny_standAt
  apply wpAny_bind
  show wpAny _ X.A (do let _ ← comprehension (.DictComp kx vx [⟨tg, iter, ifs, 0⟩] scope pos) scope X.env (firstIterPos [⟨tg, iter, ifs, 0⟩] pos) newDict false (eval iter X.env) (some (assign (.Name y py) X.env))) _ _ s
  have reading : tDcT walk tgt tst key val (own.map (·.2)) σ H (fun x H1 => gName i x σ H1 D.nx) := reading
  apply wpAny_bind
  refine thn (dcT_core (Qf := fun _ t => SP X pins D .next t) room calm nodup pWalk blk pTgt pTst pKey pVal noFold inv reading ?_) fun _ t q => wpAny_pure (wpAny_pure q)
  rintro T C t m G invG q nsC ⟨f0, f1, f2, f3, f4, f5⟩
  show wpAny _ _ (assign (.Name y py) X.env (.ref T)) _ _ _
  refine wpAny_assign_Name (store_ok2 (v := V.ref T) invG nodup atY (.inl locY) rfl ?_ (.inr locY))
  rintro t2 inv2 ⟨a, same, place⟩
  have apart : C ≠ a := by
    cases place with
    | inl z => rw [z]; exact f1
    | inr z => exact fun e => f4 y a z e.symm
  exact ⟨m, nsC.sameBut same apart, fun hp same3 => ⟨_, G, inv2.turned (t' := t2.toks) (fun c ob hb eb => (same3.2 c hb).trans eb) f0 f1 f3 f4 f5, q⟩⟩
theorem sw_trueD {kx vx : Expr} {gs : List Comprehension} {scope : Scope} {pos py : Pos} {y : Str} {l : Nat} {env : Env} (fn : env.scope.kind = .function) (loc : env.scope.names.lookup y = some .local) (line : (py.line == pos.line) = true)
    (other : (scope.names.any fun (n, k) => n == y && (k == .local || k == .cell)) = false) : swapsWith (.DictComp kx vx gs scope pos) (some (.Name y py)) l env = pure true := by
  have kind : env.kindOf y = some .local := loc
  have block : env.blockKind = .function := by unfold Env.blockKind; rw [fn]; rfl
  unfold swapsWith
  simp only [block, kind, other, Expr.pos, line]
  rfl
end
end LC
-- Y3
/-! list(d.values()), d with tuples as keys -/
namespace LC
open PySem PySem.Spec PyProof.Rows L2
section
variable {X : Cx}
/-- the values of a dict with tuples as keys, in a new list -/
def tValsT (td : TE) : TE := fun σ H Q => td σ H fun x H1 => ∃ a kvs, x = .ref a ∧ Rd H1 a (.dT kvs) ∧ ∀ q, H1 q = none → Q (.ref q) (upd H1 q (.lst (kvs.map (·.2))))
theorem pe_listVals {e : Expr} {td : TE} {p apos cpos pos : Pos} (calm : X.calm = true) (hg : Gl X "list") (hm : X.mg "list" = none) (he : PE X e td)
    (base : attributeBase e "values" X.env (eval e X.env) = eval e X.env := by rfl) (line : (apos.endLine == cpos.line) = true := by rfl)
    (na : starEach [.Call (.Attribute e "values" apos) [] [] cpos] X.env = (false, eval (.Call (.Attribute e "values" apos) [] [] cpos) X.env) :: starEach [] X.env := by rfl) :
    PE X (.Call (.Name "list" p) [.Call (.Attribute e "values" apos) [] [] cpos] [] pos) (tValsT td) := by
  constructor
  intro pins s σ H Q inv reading
  refine Call_ (ld_blt inv hg hm boot_list (PyProof.Rows.callWith_type1 (args_cons ?_ na) na))
  refine wpAny_Call_method (T := "dict") (id := "dict.values") base rfl line F.plainAttrs_dict F.slot_dict_values F.type_dict_values (thn (he.run pins s σ H _ inv reading) ?_)
  rintro u s1 ⟨x, H1, inv1, rx, a, kvs, rfl, atA, q⟩
  obtain rfl : u = Value.ref a := rx
  obtain ⟨few, notMods, xs, paired, o, es, ep, ho, exact', dat, ents, _, nodup⟩ := dt_rd inv1.hok atA
  have raw : s1.heap.DictRaw a es ep := ⟨o, ho, exact', dat⟩
  refine ⟨raw.typeIs, ?_, ?_⟩
  · intro c hc
    cases hc
    exact ⟨o, ho, exact'.2.1⟩
  refine method_meetsIn F.slot_dict_values F.entry_dict_values rfl (PySem.evalArgs_none ⟨rfl, raw.typeIs, F.args_dict_values_1 _, _, meets_dict_values_raw a notMods, ⟨es, ep, raw⟩, args_nil ?_⟩)
  have inv2 : Inv X pins σ H1 { s1 with heap := s1.heap.push { cls := .type "dict_values", data := .fields #[.ref a] } } := inv1.kept (t' := s1.toks) fun b ob g => Heap.get?_push_of_some _ g
  have len1 : kvs.length = xs.length := Paired.length paired
  have len2 : es.size = xs.length := size_of_entries ents
  refine PySem.W.kdl_call (PySem.KdlSrc.rawValues (r := s1.heap.objs.size) (d := a) (es := es) (ep := ep)) (inv2.ok.hd calm) ⟨⟨_, Heap.get?_push_size _ rfl, rfl, rfl⟩, raw.push _⟩ (by omega) ?_
  intro h' tk acc c' kept atL items
  refine ⟨V.ref _, _, inv2.laid (t' := tk) (o := .lst (kvs.map (·.2))) kept (Nat.le_refl _) ?_, rfl, q _ (inv2.hok.fresh (Nat.le_refl _))⟩
  refine ⟨by rw [List.length_map]; exact few, acc.toList, c', ?_, by rw [Array.toArray_toList]; exact atL⟩
  refine vals_of_at (xs := kvs.map (·.2)) (us := acc.toList) (by have e2 := items.1; have e3 : acc.toList.length = acc.size := Array.length_toList; rw [List.length_map, e3]; omega) ?_
  intro j y w h1 h2
  obtain ⟨hj, rfl⟩ := items.2 j w (by rw [← Array.getElem?_toList]; exact h2)
  have e1 := entry_at ents j
  rw [Array.getElem?_eq_getElem hj] at e1
  cases ex : xs[j]? with
  | none =>
    rw [ex] at e1
    cases e1
  | some t =>
    rw [ex] at e1
    obtain ⟨kv, ekv, _, _, rel⟩ := DX.pget paired ex
    rw [List.getElem?_map, ekv] at h1
    cases h1
    have e2 : es[j] = entryOfKey (tupleKind (mixKind X.prog X.w)) t := Option.some.inj e1
    rw [e2]
    exact rel
end
end LC
-- P6
namespace LC
variable [Tbl]
open PySem PySem.Spec PyProof.Rows L2 GenW RZ
/-! dicts whose keys are whole numbers -/
def kvF (f : Nat → Int) (g : Nat → V) (l : List Nat) : List (Key × V) := l.map fun j => (Sum.inl (f j), g j)
theorem kv_none {f : Nat → Int} {g : Nat → V} {x : Int} : ∀ {l : List Nat}, (∀ j ∈ l, f j ≠ x) → valV (kvF f g l) (Sum.inl x) = none
  | [], _ => rfl
  | j :: l, h => by
    show valV ((Sum.inl (f j), g j) :: kvF f g l) _ = none
    rw [valV_neg (fun z => h j List.mem_cons_self (Sum.inl.inj z))]
    exact kv_none fun i hi => h i (List.mem_cons_of_mem _ hi)
theorem kv_some {f : Nat → Int} {g : Nat → V} {j : Nat} : ∀ {l : List Nat}, j ∈ l → (∀ i ∈ l, f i = f j → i = j) → valV (kvF f g l) (Sum.inl (f j)) = some (g j)
  | [], h, _ => nomatch h
  | i :: l, h, hu => by
    show valV ((Sum.inl (f i), g i) :: kvF f g l) _ = _
    by_cases z : f i = f j
    · rw [valV_pos (by rw [z]), hu i List.mem_cons_self z]
    · rw [valV_neg (fun w => z (Sum.inl.inj w))]
      refine kv_some ?_ fun x hx => hu x (List.mem_cons_of_mem _ hx)
      rcases List.mem_cons.mp h with e | e
      · subst e; exact absurd rfl z
      · exact e
theorem kv_put {f : Nat → Int} {g : Nat → V} {m : Nat} (h : ∀ j, j < m → f j ≠ f m) : putK (kvF f g (List.range m)) (Sum.inl (f m)) (g m) = kvF f g (List.range (m + 1)) := by
  unfold putK
  rw [if_neg]
  · unfold kvF; rw [List.range_succ, List.map_append]; rfl
  · intro z
    rw [List.any_eq_true] at z
    obtain ⟨p, hp, e⟩ := z
    unfold kvF at hp
    obtain ⟨j, hj, rfl⟩ := List.mem_map.mp hp
    exact h j (List.mem_range.mp hj) (Sum.inl.inj (of_decide_eq_true e))
theorem rgV_row (r : List Int) : rgV 0 (r.length : Int) = (rowIt r 0).map V.int := by
  unfold rgV rowIt
  rw [List.map_map, Int.sub_zero, Int.toNat_natCast]
  refine List.map_congr_left fun i _ => ?_
  show V.int (0 + (i : Int)) = V.int (it (sn r) 0 (i : Int))
  rw [Int.zero_add]; rfl
theorem pj_succ (r : List Int) (j : Nat) : pj r (j + 1) = sn r (pj r j) := it_succ _ _ _
end LC
-- P7
namespace LC
variable [Tbl]
theorem am {x p s : Int} (h : -p ≤ x ∧ x ≤ p) (hs : 0 ≤ s) : -(p * s) ≤ x * s ∧ x * s ≤ p * s := by
  have h1 := Int.mul_le_mul_of_nonneg_right h.1 hs
  have h2 := Int.mul_le_mul_of_nonneg_right h.2 hs
  rw [Int.neg_mul] at h1
  exact ⟨h1, h2⟩
section
variable {r : List Int} {a0 A : Int}
theorem step_near (sr : SR r) (e0 : r[0]? = some a0) (hA : -A ≤ a0 ∧ a0 ≤ A) (t : Int) : -(A + (r.length : Int)) ≤ sn r t - t ∧ sn r t - t ≤ A + (r.length : Int) := by
  have := sn_near sr e0 t
  omega
theorem diff_near (sr : SR r) (e0 : r[0]? = some a0) (hA : -A ≤ a0 ∧ a0 ≤ A) (i : Nat) : ∀ S : Nat, -((A + (r.length : Int)) * (S : Int)) ≤ pj r (i + S) - pj r i ∧ pj r (i + S) - pj r i ≤ (A + (r.length : Int)) * (S : Int)
  | 0 => by rw [Nat.add_zero, Int.natCast_zero, Int.mul_zero]; omega
  | S + 1 => by
    have h1 := diff_near sr e0 hA i S
    have h2 := step_near sr e0 hA (pj r (i + S))
    have e : pj r (i + (S + 1)) = sn r (pj r (i + S)) := pj_succ r (i + S)
    rw [e, Int.natCast_add, Int.mul_add, Int.natCast_one, Int.mul_one]
    omega
theorem it_rounds (l1 : 1 ≤ r.length) {S : Nat} {x c : Int} (h : it (sn r) S x = x + (r.length : Int) * c) : ∀ q : Nat, it (sn r) (q * S) x = x + (r.length : Int) * (c * (q : Int))
  | 0 => by rw [Nat.zero_mul, Int.natCast_zero, Int.mul_zero, Int.mul_zero, Int.add_zero]; rfl
  | q + 1 => by
    rw [Nat.succ_mul, Nat.add_comm, it_add, h, it_shift l1, it_rounds l1 h q, Int.natCast_add, Int.natCast_one, Int.mul_add c, Int.mul_one, Int.mul_add]
    omega
/-- so often done, a stair is near to so often its pace -/
theorem pace_near (sr : SR r) (e0 : r[0]? = some a0) (hA : -A ≤ a0 ∧ a0 ≤ A) (h0 : 0 ≤ A) {i m : Nat} (fr : FR r i m) {N : Nat} (hN : 12 ≤ N) {g u v : Int} (hg : 0 < g) (hu : u * g = pj r m - pj r i) (hv : v * g = (m : Int) - (i : Int)) (hv0 : 0 ≤ v) :
    -(24 * (A + (r.length : Int)) * v) ≤ it (sn r) N 0 * v - u * (N : Int) ∧ it (sn r) N 0 * v - u * (N : Int) ≤ 24 * (A + (r.length : Int)) * v := by
  have l1 := sr.len.1
  have l12 := sr.len.2
  have hm := fz_le l1 fr.no
  have hlt := fr.lt
  obtain ⟨S, hS⟩ : ∃ S, m = i + S := ⟨m - i, by omega⟩
  have hS0 : 0 < S := by omega
  -- whole rounds
  obtain ⟨c, hc⟩ : ∃ c, pj r m - pj r i = (r.length : Int) * c := by
    have e := fr.eq
    unfold fz at e
    have := Int.emod_emod_of_dvd (pj r m) (Int.dvd_refl (r.length : Int))
    have d : (r.length : Int) ∣ pj r m - pj r i := Int.dvd_of_emod_eq_zero (by rw [Int.sub_emod, e, Int.sub_self]; rfl)
    exact d
  have hit : it (sn r) S (pj r i) = pj r i + (r.length : Int) * c := by
    have : pj r m = it (sn r) S (pj r i) := by unfold pj; rw [hS, it_add]
    rw [← this, ← hc]; omega
  obtain ⟨q, ρ, hq, hρ⟩ : ∃ q ρ : Nat, N - i = q * S + ρ ∧ ρ < S := ⟨(N - i) / S, (N - i) % S, by rw [Nat.mul_comm]; exact (Nat.div_add_mod _ _).symm, Nat.mod_lt _ hS0⟩
  have eN : N = i + (q * S + ρ) := by omega
  have eG : it (sn r) N 0 = pj r (i + ρ) + (r.length : Int) * (c * (q : Int)) := by
    rw [eN, it_add, it_add]
    have : it (sn r) i 0 = pj r i := rfl
    rw [this, it_rounds l1 hit q, it_shift l1]
    unfold pj
    rw [it_add]
  -- times g
  have hW : pj r m - pj r i = (r.length : Int) * c := hc
  have eNi : (N : Int) = (i : Int) + ((q : Int) * (S : Int) + (ρ : Int)) := by rw [eN]; push_cast; rfl
  have eS : v * g = (S : Int) := by rw [hv, hS]; push_cast; omega
  have eY : (it (sn r) N 0 * v - u * (N : Int)) * g = pj r (i + ρ) * (S : Int) - (pj r m - pj r i) * ((i : Int) + (ρ : Int)) := by
    have e1 : (it (sn r) N 0 * v - u * (N : Int)) * g = it (sn r) N 0 * (v * g) - (u * g) * (N : Int) := by
      rw [Int.sub_mul, Int.mul_assoc, Int.mul_assoc u, Int.mul_comm (N : Int) g, Int.mul_assoc]
    rw [e1, eS, hu, eG, eNi, hW]
    generalize (r.length : Int) = n
    generalize pj r (i + ρ) = p
    have e2 : (p + n * (c * (q : Int))) * (S : Int) = p * (S : Int) + n * c * ((q : Int) * (S : Int)) := by
      rw [Int.add_mul]
      congr 1
      rw [Int.mul_assoc n c, Int.mul_assoc n, Int.mul_assoc c]
    have e3 : n * c * ((i : Int) + ((q : Int) * (S : Int) + (ρ : Int))) = n * c * ((q : Int) * (S : Int)) + n * c * ((i : Int) + (ρ : Int)) := by
      rw [← Int.mul_add]; congr 1; omega
    rw [e2, e3]; omega
  have hB : 0 ≤ A + (r.length : Int) := by omega
  generalize hBB : A + (r.length : Int) = B at hB
  have hp : -(12 * B) ≤ pj r (i + ρ) ∧ pj r (i + ρ) ≤ 12 * B := by
    have h := diff_near sr e0 hA 0 (i + ρ)
    rw [Nat.zero_add, hBB] at h
    have e : pj r 0 = 0 := rfl
    rw [e] at h
    have hk : B * ((i + ρ : Nat) : Int) ≤ B * 12 := Int.mul_le_mul_of_nonneg_left (by omega) hB
    omega
  have h1 := am hp (show (0 : Int) ≤ (S : Int) by omega)
  have hw : -(B * (S : Int)) ≤ pj r m - pj r i ∧ pj r m - pj r i ≤ B * (S : Int) := by
    have h := diff_near sr e0 hA i S
    rw [hBB, ← hS] at h
    exact h
  have h2 := am hw (show (0 : Int) ≤ (i : Int) + (ρ : Int) by omega)
  have hBS : 0 ≤ B * (S : Int) := Int.mul_nonneg hB (by omega)
  have h3 : B * (S : Int) * ((i : Int) + (ρ : Int)) ≤ B * (S : Int) * 12 := Int.mul_le_mul_of_nonneg_left (by omega) hBS
  have e5 : 12 * B * (S : Int) = 12 * (B * (S : Int)) := by rw [Int.mul_assoc]
  rw [e5] at h1
  have e6 : 24 * B * v * g = 24 * (B * (S : Int)) := by rw [Int.mul_assoc, eS, Int.mul_assoc]
  constructor
  · refine Int.le_of_mul_le_mul_right (a := g) ?_ hg
    rw [eY, Int.neg_mul, e6]
    omega
  · refine Int.le_of_mul_le_mul_right (a := g) ?_ hg
    rw [eY, e6]
    omega
end
end LC
namespace LC
variable [Tbl]
open PySem PySem.Spec PyProof.Rows L2
theorem rowIt_succ (r : List Int) (n : Nat) : rowIt r (n + 1) = (rowIt r n).map (sn r) := by
  unfold rowIt
  rw [List.map_map]
  exact List.map_congr_left fun i _ => it_succ (sn r) n (i : Int)
theorem eqI_nil {K : PySem.W.Frag} {H : Hp} {S T : Addr} {qs : List Int} {Q : VK} (h : H S = some (.lst (qs.map V.int))) (e : H T = some (.lst [])) (q : Q (.bl qs.isEmpty) H) : rEqD K (.ref S) (.ref T) H Q := by
  refine ⟨.list (qs.map .int), .list [], .lst (SqL.of h) (dp_ints qs), .lst (SqL.of e) .nil, PySem.W.ke_shaped_ints qs, PySem.W.ke_shaped_ints [], ?_⟩
  cases qs with
  | nil => exact q
  | cons x xs => exact q
theorem kvF_congr {f : Nat → Int} {g g' : Nat → V} {l : List Nat} (h : ∀ j ∈ l, g j = g' j) : kvF f g l = kvF f g' l := List.map_congr_left fun j hj => by rw [h j hj]
end LC
namespace LC
variable [Tbl]
theorem gcd_facts {d e : Int} (he : 0 < e) {g : Int} (hg : g = ((Nat.gcd d.natAbs e.natAbs : Nat) : Int)) : 0 < g ∧ d / g * g = d ∧ e / g * g = e ∧ 1 ≤ e / g ∧ (∀ u : Int, 2 ≤ u → d / g % u = 0 → e / g % u = 0 → False) := by
  have hg0 : 0 < g := by
    have := Nat.gcd_pos_of_pos_right d.natAbs (show 0 < e.natAbs by omega)
    omega
  have d1 : g ∣ d := by rw [hg]; exact Int.ofNat_dvd_left.mpr (Nat.gcd_dvd_left _ _)
  have d2 : g ∣ e := by rw [hg]; exact Int.ofNat_dvd_left.mpr (Nat.gcd_dvd_right _ _)
  have m1 := Int.ediv_mul_cancel d1
  have m2 := Int.ediv_mul_cancel d2
  have q1 : 1 ≤ e / g := by
    by_cases z : 1 ≤ e / g
    · exact z
    · have := Int.mul_le_mul_of_nonneg_right (show e / g ≤ 0 by omega) (show 0 ≤ g by omega)
      rw [m2, Int.zero_mul] at this; omega
  refine ⟨hg0, m1, m2, q1, fun u hu h1 h2 => ?_⟩
  have c1 : u * g ∣ d := by rw [← m1]; exact Int.mul_dvd_mul_right g (Int.dvd_of_emod_eq_zero h1)
  have c2 : u * g ∣ e := by rw [← m2]; exact Int.mul_dvd_mul_right g (Int.dvd_of_emod_eq_zero h2)
  have n1 : (u * g).natAbs ∣ Nat.gcd d.natAbs e.natAbs := Nat.dvd_gcd (Int.natAbs_dvd_natAbs.mpr c1) (Int.natAbs_dvd_natAbs.mpr c2)
  have n2 := Nat.le_of_dvd (by omega) n1
  have n3 : 2 * g ≤ u * g := Int.mul_le_mul_of_nonneg_right hu (by omega)
  omega
theorem quo_le {U g d M : Int} (hg : 0 < g) (h : U * g = d) (hd : -M ≤ d ∧ d ≤ M) : -M ≤ U ∧ U ≤ M := by
  by_cases z : 0 ≤ U
  · have := Int.mul_le_mul_of_nonneg_left (show 1 ≤ g by omega) z
    rw [Int.mul_one, h] at this; omega
  · have := Int.mul_le_mul_of_nonneg_left (show 1 ≤ g by omega) (show 0 ≤ -U by omega)
    rw [Int.mul_one, Int.neg_mul, h] at this; omega
end LC
-- Y4
namespace LC
variable [Tbl]
open PySem PySem.Spec PyProof.Rows L2 GenW RZ
/-- a locked dict is let go: what is behind it has only grown -/
theorem xn_unlock {H H1 : Hp} {d : Addr} {o : Obj} {kvs : List (List Key × V)} (hd : H d = some (.dT kvs)) (x : Xn (upd H d (.frz o (.dT kvs))) H1) : Xn H (upd H1 d (.dT kvs)) := by
  have ne : ∀ {a : Addr} {u : HO}, H a = some u → u ≠ .dT kvs → a ≠ d := fun e n z => n (by rw [z, hd] at e; cases e; rfl)
  refine ⟨fun a xs e => ?_, fun a u n1 n2 e => ?_, fun P e => ?_, fun a ps e => ?_, fun P ps n1 n2 e => ?_⟩
  · have z := ne e (fun q => by cases q)
    rw [upd_ne z]; exact x.tups a xs (by rw [upd_ne z]; exact e)
  · by_cases z : a = d
    · subst z; rw [hd] at e; cases e; exact upd_same
    · rw [upd_ne z]; exact x.keep a u (fun q => q) n2 (by rw [upd_ne z]; exact e)
  · obtain ⟨qs, e1, e2⟩ := e
    have z := ne e1 (fun q => by cases q)
    obtain ⟨rs, g1, g2⟩ := x.tabs P ⟨qs, by rw [upd_ne z]; exact e1, e2⟩
    exact ⟨rs, by rw [upd_ne z]; exact g1, g2⟩
  · have z := ne e (fun q => by cases q)
    obtain ⟨qs, g⟩ := x.tbls a ps (by rw [upd_ne z]; exact e)
    exact ⟨qs, by rw [upd_ne z]; exact g⟩
  · have z := ne e (fun q => by cases q)
    rw [upd_ne z]; exact x.tbk P ps n1 n2 (by rw [upd_ne z]; exact e)
section
variable {K : PySem.W.Frag} {d : Addr} {o : Obj} {H0 : Hp} {Qd : Hp → Prop} {B : (Hp → Prop) → V → Hp → Prop} {ps : List (List Int × V)}
/-- over the keys of a locked dict -/
theorem drvK (Pv : Nat → Hp → Prop) (h0 : Pv 0 H0) (hl : ∀ i H, i ≤ ps.length → Pv i H → H d = some (.frz o (.dT (dOf ps))))
    (hs : ∀ i k v q H, ps[i]? = some (k, v) → Pv i H → H q = some (.tup (k.map V.int)) → B (Pv (i + 1)) (.ref q) H) (hd : ∀ H, Pv ps.length H → Qd H) :
    ∃ W : Nat → Nat → Hp → Prop, (∃ m, W 0 m H0) ∧ ∀ i m H, W i m H →
      ((Itkt d o (dOf ps)).stop i H ∧ Qd H) ∨ ((Itkt d o (dOf ps)).go i H ∧ ∃ Nx : Hp → Prop, (∀ H', Nx H' → ∃ m', m' < m ∧ W (i + 1) m' H') ∧ ∀ x H', (Itkt d o (dOf ps)).yld i H x H' → B Nx x H') := by
  have el : (dOf ps).length = ps.length := by unfold dOf; rw [List.length_map]
  refine ⟨fun i m H => m = ps.length - i ∧ i ≤ ps.length ∧ Pv i H, ⟨ps.length, by simp, Nat.zero_le _, h0⟩, ?_⟩
  rintro i m H ⟨rfl, hi, p⟩
  have q := hl i H hi p
  by_cases hlt : i < ps.length
  · refine .inr ⟨⟨q, by rw [el]; exact hlt⟩, Pv (i + 1), fun H' h' => ⟨ps.length - (i + 1), by omega, rfl, hlt, h'⟩, fun x H' y => ?_⟩
    obtain ⟨rfl, k, v, b, e1, rfl, e2⟩ := y
    obtain ⟨⟨k', v'⟩, ek⟩ : ∃ z, ps[i]? = some z := ⟨_, List.getElem?_eq_getElem hlt⟩
    have e3 : (dOf ps)[i]? = some (kI k', v') := by unfold dOf; rw [List.getElem?_map, ek]; rfl
    rw [e3] at e1
    cases e1
    rw [kI_kV] at e2
    exact hs i k' _ b H' ek p e2
  · have e : i = ps.length := by omega
    subst e
    exact .inl ⟨⟨q, by rw [el]; exact Nat.le_refl _⟩, hd H p⟩
end
/-! putting and getting, where the keys are known -/
theorem put_new {ps : List (List Int × V)} {k : List Int} {v : V} (h : k ∉ ps.map (·.1)) : putK (dOf ps) (kI k) v = dOf (ps ++ [(k, v)]) := by
  unfold putK
  rw [if_neg (fun z => ?_)]
  · unfold dOf; rw [List.map_append]; rfl
  · rw [List.any_eq_true] at z
    obtain ⟨p, hp, e⟩ := z
    unfold dOf at hp
    obtain ⟨q, hq, rfl⟩ := List.mem_map.mp hp
    exact h (List.mem_map.mpr ⟨q, hq, kI_inj (of_decide_eq_true e)⟩)
theorem put_old {ps : List (List Int × V)} {k : List Int} {v : V} (h : k ∈ ps.map (·.1)) : putK (dOf ps) (kI k) v = dOf (ps.map fun p => if p.1 = k then (p.1, v) else p) := by
  unfold putK
  rw [if_pos]
  · unfold dOf
    rw [List.map_map, List.map_map]
    refine List.map_congr_left fun p _ => ?_
    show (if kI p.1 = kI k then (kI p.1, v) else (kI p.1, p.2)) = (kI (if p.1 = k then (p.1, v) else p).1, (if p.1 = k then (p.1, v) else p).2)
    by_cases e : p.1 = k
    · rw [if_pos (by rw [e]), if_pos e]
    · rw [if_neg (fun q => e (kI_inj q)), if_neg e]
  · rw [List.any_eq_true]
    obtain ⟨p, hp, e⟩ := List.mem_map.mp h
    exact ⟨(kI p.1, p.2), by unfold dOf; exact List.mem_map.mpr ⟨p, hp, rfl⟩, decide_eq_true (by show kI p.1 = kI k; rw [e])⟩
theorem val_none : ∀ {ps : List (List Int × V)} {k : List Int}, k ∉ ps.map (·.1) → valV (dOf ps) (kI k) = none
  | [], _, _ => rfl
  | p :: ps, k, h => by
    rw [List.map_cons, List.mem_cons, not_or] at h
    show valV ((kI p.1, p.2) :: dOf ps) (kI k) = none
    rw [valV_neg (fun z => h.1 (kI_inj z).symm)]
    exact val_none h.2
theorem dOf_len (ps : List (List Int × V)) : (dOf ps).length = ps.length := by unfold dOf; rw [List.length_map]
/-- numbers under keys -/
def nmb (ks : List (List Int)) (N : List Int → Int) : List (List Int × V) := ks.map fun x => (x, V.int (N x))
theorem nmb_keys (ks : List (List Int)) (N : List Int → Int) : (nmb ks N).map (·.1) = ks := by unfold nmb; rw [List.map_map]; exact List.map_id _
theorem nmb_len (ks : List (List Int)) (N : List Int → Int) : (nmb ks N).length = ks.length := by unfold nmb; rw [List.length_map]
theorem nmb_val {ks : List (List Int)} {N : List Int → Int} {x : List Int} (nd : ks.Nodup) (h : x ∈ ks) : valV (dOf (nmb ks N)) (kI x) = some (V.int (N x)) :=
  val_ps (by rw [nmb_keys]; exact nd) (List.mem_map.mpr ⟨x, h, rfl⟩)
theorem nmb_put {ks : List (List Int)} {N : List Int → Int} {x : List Int} {n : Int} (h : x ∈ ks) : putK (dOf (nmb ks N)) (kI x) (V.int n) = dOf (nmb ks fun y => if y = x then n else N y) := by
  rw [put_old (by rw [nmb_keys]; exact h)]
  congr 1
  unfold nmb
  rw [List.map_map]
  refine List.map_congr_left fun y _ => ?_
  show (if y = x then (y, V.int n) else (y, V.int (N y))) = (y, V.int (if y = x then n else N y))
  by_cases e : y = x
  · rw [if_pos e, if_pos e]
  · rw [if_neg e, if_neg e]
theorem nmb_get {H : Hp} {D b : Addr} {ks : List (List Int)} {N : List Int → Int} {x : List Int} (nd : ks.Nodup) (h : x ∈ ks) (e : H D = some (.dT (dOf (nmb ks N)))) (eb : H b = some (.tup (x.map V.int))) : DGet H D (.ref b) (some (V.int (N x))) := by
  rw [← nmb_val nd h]
  exact DGet.t e (by rw [kI_kV]; exact eb)
theorem nmb_in {H : Hp} {D b : Addr} {ks : List (List Int)} {N : List Int → Int} {x : List Int} (nd : ks.Nodup) (e : H D = some (.dT (dOf (nmb ks N)))) (eb : H b = some (.tup (x.map V.int))) : ∃ o, DGet H D (.ref b) o ∧ o.isSome = decide (x ∈ ks) := by
  refine ⟨_, DGet.t e (by rw [kI_kV]; exact eb), ?_⟩
  by_cases h : x ∈ ks
  · rw [nmb_val nd h, decide_eq_true h]; rfl
  · rw [val_none (by rw [nmb_keys]; exact h), decide_eq_false h]; rfl
/-! what a push does -/
open Classical in
noncomputable def puC (k : Clk) (i j t : Int) : Int := if h : ∃ r, PU k i j t r then h.choose else 0
theorem puC_of {k : Clk} {i j t r : Int} (h : PU k i j t r) : puC k i j t = r := by
  unfold puC
  rw [dif_pos ⟨r, h⟩]
  exact (Classical.choose_spec (⟨r, h⟩ : ∃ r, PU k i j t r)).uniq h
noncomputable def rowC (k : Clk) (i j : Int) : List Int := (List.range k.per.toNat).map fun (t : Nat) => puC k i j t
theorem rowC_of {k : Clk} {i j : Int} {rs : List Int} (hl : rs.length = k.per.toNat) (h : ∀ (t : Nat) r, rs[t]? = some r → PU k i j t r) : rs = rowC k i j := by
  refine List.ext_getElem? fun t => ?_
  unfold rowC
  rw [List.getElem?_map]
  by_cases z : t < rs.length
  · rw [List.getElem?_range (by omega), List.getElem?_eq_getElem z]
    exact congrArg some (puC_of (h t _ (List.getElem?_eq_getElem z))).symm
  · rw [List.getElem?_eq_none (by omega), List.getElem?_eq_none (by rw [List.length_range]; omega)]; rfl
/-- whom an exchange pushes, and by which row -/
noncomputable def tabC (k : Clk) (ls : List (List Int × List Int)) (x : List Int) : List (List Int × List Int) := (ls.filter fun p => decide (p.2 = x)).map fun p => (p.1, rowC k (p.1[0]?.getD 0) (p.2[0]?.getD 0))
theorem tabC_snoc {k : Clk} {ls : List (List Int × List Int)} {u w x : List Int} : tabC k (ls ++ [(u, w)]) x = tabC k ls x ++ if w = x then [(u, rowC k (u[0]?.getD 0) (w[0]?.getD 0))] else [] := by
  unfold tabC
  rw [List.filter_append, List.map_append]
  by_cases e : w = x
  · rw [if_pos e, List.filter_cons_of_pos (p := fun p : List Int × List Int => decide (p.2 = x)) (show decide (w = x) = true from decide_eq_true e)]; rfl
  · rw [if_neg e, List.filter_cons_of_neg (p := fun p : List Int × List Int => decide (p.2 = x)) (show ¬ decide (w = x) = true by rw [decide_eq_true_eq]; exact e)]; rfl
/-- the table of pushes: made of lists that nothing changes any more -/
structure TbAt (H : Hp) (T : Addr) (k : Clk) : Prop where
  ex : ∃ ps : List (List Int × V), H T = some (.dT (dOf ps)) ∧ ps.map (·.1) = due k.eds k.eds.length ∧ ∀ p ∈ ps, ∃ l rs, p.2 = V.ref l ∧ H l = some (.lst rs) ∧ PPs H rs (tabC k (leans k) p.1)
theorem TbAt.x {H H1 : Hp} {T : Addr} {k : Clk} (h : TbAt H T k) (x : Xn H H1) : TbAt H1 T k := by
  obtain ⟨ps, e1, e2, e3⟩ := h.ex
  refine ⟨ps, x.keep T _ (fun z => z) (fun _ z => by cases z) e1, e2, fun p hp => ?_⟩
  obtain ⟨l, rs, h1, h2, h3⟩ := e3 p hp
  exact ⟨l, rs, h1, x.keep l _ (fun z => z) (fun _ z => by cases z) h2, h3.x x⟩
end LC
-- Y5
namespace LC
variable [Tbl]
open PySem PySem.Spec PyProof.Rows L2
/-! numbers that pushes lift -/
/-- what an exchange at its number pushes is no further -/
def ClAt (k : Clk) (ks : List (List Int)) (N : List Int → Int) (x : List Int) : Prop := ∀ p ∈ tabC k (leans k) x, p.1 ∈ ks → sn p.2 (N x) ≤ N p.1
def Closed (k : Clk) (ks : List (List Int)) (N : List Int → Int) : Prop := ∀ x ∈ ks, ClAt k ks N x
def Above (ks : List (List Int)) (f N : List Int → Int) : Prop := ∀ x ∈ ks, f x ≤ N x
/-- where a number comes from -/
def Src (k : Clk) (f N : List Int → Int) (x : List Int) : Prop := N x = f x ∨ ∃ (z : List Int) (t : Int), ∃ p ∈ tabC k (leans k) z, p.1 = x ∧ N x = sn p.2 t
/-- the least numbers from the first ones on -/
structure LeastN (k : Clk) (ks : List (List Int)) (f N : List Int → Int) : Prop where
  ge : Above ks f N
  cl : Closed k ks N
  lo : ∀ h, Closed k ks h → Above ks f h → Above ks N h
  sr : ∀ x ∈ ks, Src k f N x
/-- no such numbers below the limit -/
def NoneLow (k : Clk) (ks : List (List Int)) (f : List Int → Int) (lim : Int) : Prop := ∀ h, Closed k ks h → Above ks f h → ∃ x ∈ ks, lim ≤ h x
def put1 (N : List Int → Int) (x : List Int) (n : Int) : List Int → Int := fun y => if y = x then n else N y
theorem put1_same {N : List Int → Int} {x : List Int} {n : Int} : put1 N x n x = n := if_pos rfl
theorem put1_ne {N : List Int → Int} {x y : List Int} {n : Int} (h : y ≠ x) : put1 N x n y = N y := if_neg h
theorem put1_ge {N : List Int → Int} {x : List Int} {n : Int} (h : N x < n) (y : List Int) : N y ≤ put1 N x n y := by
  by_cases e : y = x
  · rw [e, put1_same]; omega
  · rw [put1_ne e]; exact Int.le_refl _
def mu (ks : List (List Int)) (lim : Int) (N : List Int → Int) : Nat := (ks.map fun x => (lim - N x).toNat).sum
theorem sum_lt {g h : List Int → Nat} (hle : ∀ x, g x ≤ h x) : ∀ {ks : List (List Int)}, (ks.map g).sum ≤ (ks.map h).sum ∧ ∀ y ∈ ks, g y < h y → (ks.map g).sum < (ks.map h).sum
  | [] => ⟨Nat.le_refl _, fun y hy => nomatch hy⟩
  | x :: ks => by
    obtain ⟨h1, h2⟩ := sum_lt hle (ks := ks)
    rw [List.map_cons, List.map_cons, List.sum_cons, List.sum_cons]
    have := hle x
    refine ⟨by omega, fun y hy hlt => ?_⟩
    rcases List.mem_cons.mp hy with e | hy
    · subst e; omega
    · have := h2 y hy hlt; omega
theorem mu_put {ks : List (List Int)} {lim n : Int} {N : List Int → Int} {x : List Int} (hx : x ∈ ks) (h1 : N x < n) (h2 : n < lim) : mu ks lim (put1 N x n) + 1 ≤ mu ks lim N := by
  unfold mu
  refine (sum_lt (g := fun y => (lim - put1 N x n y).toNat) (h := fun y => (lim - N y).toNat) (fun y => ?_)).2 x hx ?_
  · have := put1_ge h1 y; omega
  · show (lim - put1 N x n x).toNat < (lim - N x).toNat
    rw [put1_same]; omega
/-- between the rounds: what is not pending is closed -/
structure LSt (k : Clk) (ks : List (List Int)) (f N : List Int → Int) (pend : List (List Int)) : Prop where
  ge : Above ks f N
  lo : ∀ h, Closed k ks h → Above ks f h → Above ks N h
  cl : ∀ x ∈ ks, x ∈ pend ∨ ClAt k ks N x
  sr : ∀ x ∈ ks, Src k f N x
theorem LSt.start {k : Clk} {ks : List (List Int)} {f : List Int → Int} : LSt k ks f f ks := ⟨fun x _ => Int.le_refl _, fun h _ ha => ha, fun x hx => .inl hx, fun x _ => .inl rfl⟩
theorem LSt.fin {k : Clk} {ks : List (List Int)} {f N : List Int → Int} (h : LSt k ks f N []) : LeastN k ks f N := ⟨h.ge, fun x hx => (h.cl x hx).elim (fun z => nomatch z) fun z => z, h.lo, h.sr⟩
/-- within a turn: x at the number t, j of its pushes done -/
structure LIn (k : Clk) (ks : List (List Int)) (f N : List Int → Int) (x : List Int) (t : Int) (j : Nat) (rest lifted : List (List Int)) : Prop where
  ge : Above ks f N
  lo : ∀ h, Closed k ks h → Above ks f h → Above ks N h
  cl : ∀ z ∈ ks, z = x ∨ z ∈ rest ++ lifted ∨ ClAt k ks N z
  dn : ∀ i p, i < j → (tabC k (leans k) x)[i]? = some p → p.1 ∈ ks → sn p.2 t ≤ N p.1
  kp : N x = t ∨ x ∈ lifted
  le : t ≤ N x
  sr : ∀ x ∈ ks, Src k f N x
section
variable {k : Clk} {ks : List (List Int)} {f N : List Int → Int} {x : List Int} {t : Int} {j : Nat} {rest lifted : List (List Int)}
theorem LIn.start (h : LSt k ks f N (x :: rest ++ lifted)) : LIn k ks f N x (N x) 0 rest lifted := ⟨h.ge, h.lo, fun z hz => by
  rcases h.cl z hz with h | h
  · rw [List.cons_append, List.mem_cons] at h
    exact h.elim .inl fun z => .inr (.inl z)
  · exact .inr (.inr h), fun i p hi => absurd hi (by omega), .inl rfl, Int.le_refl _, h.sr⟩
theorem LIn.stop (h : LIn k ks f N x t (tabC k (leans k) x).length rest lifted) : LSt k ks f N (rest ++ lifted) := ⟨h.ge, h.lo, fun z hz => by
  rcases h.cl z hz with e | e | e
  · subst e
    rcases h.kp with e | e
    · refine .inr fun p hp hk => ?_
      obtain ⟨i, hi⟩ := List.mem_iff_getElem?.mp hp
      rw [e]
      exact h.dn i p (List.getElem?_eq_some_iff.mp hi).1 hi hk
    · exact .inl (List.mem_append_right _ e)
  · exact .inl e
  · exact .inr e, h.sr⟩
/-- nothing to lift -/
theorem LIn.skip {p : List Int × List Int} (h : LIn k ks f N x t j rest lifted) (e : (tabC k (leans k) x)[j]? = some p) (hn : p.1 ∈ ks → sn p.2 t ≤ N p.1) : LIn k ks f N x t (j + 1) rest lifted := ⟨h.ge, h.lo, h.cl, fun i q hi ei hk => by
  by_cases z : i = j
  · subst z; rw [e] at ei; cases ei; exact hn hk
  · exact h.dn i q (by omega) ei hk, h.kp, h.le, h.sr⟩
/-- an exchange is lifted -/
theorem LIn.lift {p : List Int × List Int} (mono : ∀ p ∈ tabC k (leans k) x, ∀ s u : Int, s ≤ u → sn p.2 s ≤ sn p.2 u) (hx : x ∈ ks) (h : LIn k ks f N x t j rest lifted) (e : (tabC k (leans k) x)[j]? = some p) (hk : p.1 ∈ ks) (hlt : N p.1 < sn p.2 t) : LIn k ks f (put1 N p.1 (sn p.2 t)) x t (j + 1) rest (lifted ++ [p.1]) := by
  have hp := List.mem_of_getElem? e
  have up := put1_ge hlt
  refine ⟨fun z hz => Int.le_trans (h.ge z hz) (up z), fun g hc ha z hz => ?_, fun z hz => ?_, fun i q hi ei hq => ?_, ?_, Int.le_trans h.le (up x), fun z hz => ?_⟩
  · by_cases ez : z = p.1
    · rw [ez, put1_same]
      have h1 := h.lo g hc ha x hx
      have h2 := hc x hx p hp hk
      exact Int.le_trans (mono p hp t (g x) (Int.le_trans h.le h1)) h2
    · rw [put1_ne ez]; exact h.lo g hc ha z hz
  · by_cases ez : z = p.1
    · exact .inr (.inl (List.mem_append_right _ (List.mem_append_right _ (List.mem_singleton.mpr ez))))
    · rcases h.cl z hz with e1 | e1 | e1
      · exact .inl e1
      · rw [← List.append_assoc]; exact .inr (.inl (List.mem_append_left _ e1))
      · refine .inr (.inr fun q hq hqk => ?_)
        rw [put1_ne ez]
        exact Int.le_trans (e1 q hq hqk) (up q.1)
  · by_cases z : i = j
    · subst z; rw [e] at ei; cases ei; rw [put1_same]; exact Int.le_refl _
    · exact Int.le_trans (h.dn i q (by omega) ei hq) (up q.1)
  · by_cases ez : x = p.1
    · exact .inr (List.mem_append_right _ (List.mem_singleton.mpr ez))
    · rw [put1_ne ez]
      exact h.kp.elim .inl fun z => .inr (List.mem_append_left _ z)
  · by_cases ez : z = p.1
    · refine .inr ⟨x, t, p, hp, ez.symm, ?_⟩
      rw [ez, put1_same]
    · unfold Src
      rw [put1_ne ez]
      exact h.sr z hz
theorem LIn.none {p : List Int × List Int} {lim : Int} (mono : ∀ p ∈ tabC k (leans k) x, ∀ s u : Int, s ≤ u → sn p.2 s ≤ sn p.2 u) (hx : x ∈ ks) (h : LIn k ks f N x t j rest lifted) (e : (tabC k (leans k) x)[j]? = some p) (hk : p.1 ∈ ks) (hlt : lim ≤ sn p.2 t) : NoneLow k ks f lim := fun g hc ha => by
  have hp := List.mem_of_getElem? e
  have h1 := h.lo g hc ha x hx
  have h2 := hc x hx p hp hk
  have := mono p hp t (g x) (Int.le_trans h.le h1)
  exact ⟨p.1, hk, by omega⟩
end
/-- turns of a while walk, counted down -/
theorem while_cnt {c : TT} {tb : TS} {D : Ends} {σ : L2.St} {H : Hp} (Pv : Nat → L2.St → Hp → Prop) (h0 : ∃ m, Pv m σ H)
    (hs : ∀ m σ H, Pv m σ H → c σ H fun b H1 => if b = true then ∃ N : L2.St → Hp → Prop, (∀ σ' H', N σ' H' → ∃ m', m' < m ∧ Pv m' σ' H') ∧ tb { D with nx := N, ct := N, bk := D.nx } σ H1 else D.nx σ H1) : tWhile c tb D σ H := ⟨Pv, h0, hs⟩
/-- pairs of an exchange and a number -/
def Nps (H : Hp) (rs : List V) (ls : List (List Int × Int)) : Prop := rs.length = ls.length ∧ ∀ (i : Nat) (p : List Int × Int), ls[i]? = some p → ∃ b c : Addr, rs[i]? = some (V.ref b) ∧ H b = some (.tup [.ref c, .int p.2]) ∧ H c = some (.tup (p.1.map V.int))
theorem Nps.mono {H H1 : Hp} {rs : List V} {ls : List (List Int × Int)} (h : Nps H rs ls) (x : Tk H H1) : Nps H1 rs ls := ⟨h.1, fun i p e => by
  obtain ⟨b, c, e1, e2, e3⟩ := h.2 i p e
  exact ⟨b, c, e1, x _ _ e2, x _ _ e3⟩⟩
theorem Nps.x {S : Addr → Prop} {H H1 : Hp} {rs : List V} {ls : List (List Int × Int)} (h : Nps H rs ls) (x : Xt S H H1) : Nps H1 rs ls := h.mono x.tups
theorem Nps.get {H : Hp} {rs : List V} {ls : List (List Int × Int)} (h : Nps H rs ls) {i : Nat} {v : V} (e : rs[i]? = some v) : ∃ (b c : Addr) (y : List Int) (n : Int), v = .ref b ∧ ls[i]? = some (y, n) ∧ H b = some (.tup [.ref c, .int n]) ∧ H c = some (.tup (y.map V.int)) := by
  have hi : i < ls.length := by rw [← h.1]; exact (List.getElem?_eq_some_iff.mp e).1
  obtain ⟨⟨y, n⟩, ep⟩ : ∃ p, ls[i]? = some p := ⟨_, List.getElem?_eq_getElem hi⟩
  obtain ⟨b, c, e1, e2, e3⟩ := h.2 i _ ep
  rw [e] at e1; cases e1
  exact ⟨b, c, y, n, rfl, ep, e2, e3⟩
theorem Nps.snoc {H : Hp} {rs : List V} {ls : List (List Int × Int)} {b c : Addr} {y : List Int} {n : Int} (h : Nps H rs ls) (e2 : H b = some (.tup [.ref c, .int n])) (e3 : H c = some (.tup (y.map V.int))) : Nps H (rs ++ [.ref b]) (ls ++ [(y, n)]) := ⟨by rw [List.length_append, List.length_append, h.1]; rfl, fun i q e1 => by
  by_cases hi : i < ls.length
  · rw [List.getElem?_append_left hi] at e1
    rw [List.getElem?_append_left (by rw [h.1]; exact hi)]
    exact h.2 i q e1
  · rw [List.getElem?_append_right (by omega)] at e1
    have hz : i = ls.length := by
      have := (List.getElem?_eq_some_iff.mp e1).1
      simp at this; omega
    subst hz
    rw [Nat.sub_self] at e1
    cases e1
    rw [List.getElem?_append_right (by rw [h.1]; exact Nat.le_refl _), h.1, Nat.sub_self]
    exact ⟨b, c, rfl, e2, e3⟩⟩
theorem Nps.nil {H : Hp} : Nps H [] [] := ⟨rfl, fun i p e => by cases e⟩
open Classical in
noncomputable def gfC (per : Int) (g : List Int) (low : Int) : Int := if h : ∃ r, GF per g low r then h.choose else 0
theorem gfC_of {per low r : Int} {g : List Int} (h : GF per g low r) : gfC per g low = r := by
  unfold gfC
  rw [dif_pos ⟨r, h⟩]
  exact (Classical.choose_spec (⟨r, h⟩ : ∃ r, GF per g low r)).uniq h
noncomputable def gapOf (k : Clk) (low : Int) (x : List Int) : Int := gfC k.per (k.gps[(x[0]?.getD 0).toNat]?.getD []) low
end LC
-- Y6
namespace LC
variable [Tbl]
open PySem PySem.Spec PyProof.Rows L2
/-! what pushes do: they rise, they go round with the period, they are at most a round above -/
section
variable {k : Clk} {i j s t r u : Int}
theorem gf_near {per low r : Int} {g : List Int} (p0 : 1 ≤ per) (h : GF per g low r) : r < low + per := by
  by_cases z : r < low + per
  · exact z
  · have := h.2.2 (r - per) (by omega) (by rw [Int.sub_emod_right]; exact h.2.1)
    omega
theorem gf_shift {per low r : Int} {g : List Int} (c : Int) (h : GF per g low r) : GF per g (low + per * c) (r + per * c) := by
  refine ⟨by have := h.1; omega, by rw [Int.add_mul_emod_self_left]; exact h.2.1, fun x hx hm => ?_⟩
  have := h.2.2 (x - per * c) (by omega) (by
    have : (x - per * c) % per = x % per := by
      rw [show x - per * c = x + per * (-c) by rw [Int.mul_neg]; omega, Int.add_mul_emod_self_left]
    rw [this]; exact hm)
  omega
theorem bf_shift {per t b : Int} {ph : List Int} (c : Int) (h : BF per ph t b) : BF per ph (t + per * c) (b + per * c) := by
  refine ⟨by have := h.1; omega, ?_, fun x hx hm => ?_⟩
  · rw [show b + per * c - 1 = b - 1 + per * c by omega, Int.add_mul_emod_self_left]; exact h.2.1
  · have := h.2.2 (x - per * c) (by omega) (by
      have : (x - per * c) % per = x % per := by
        rw [show x - per * c = x + per * (-c) by rw [Int.mul_neg]; omega, Int.add_mul_emod_self_left]
      rw [this]; exact hm)
    omega
theorem pu_shift (c : Int) (h : PU k i j t r) : PU k i j (t + k.per * c) (r + k.per * c) := by
  obtain ⟨b, h1, h2⟩ := h
  refine ⟨b + k.per * c, ?_, gf_shift c h2⟩
  rcases h1 with ⟨e, h1⟩ | ⟨e, h1⟩
  · exact .inl ⟨e, by omega⟩
  · exact .inr ⟨e, bf_shift c h1⟩
theorem pu_up (p0 : 1 ≤ k.per) (h : PU k i j t r) : r ≤ t + k.per := by
  obtain ⟨b, h1, h2⟩ := h
  have := gf_near p0 h2
  rcases h1 with ⟨_, h1⟩ | ⟨_, h1⟩
  · omega
  · have := h1.1; omega
theorem pu_mono (h : PU k i j s r) (g : PU k i j t u) (hst : s ≤ t) : r ≤ u := by
  obtain ⟨b, h1, h2⟩ := h
  obtain ⟨d, g1, g2⟩ := g
  have hb : b ≤ d := by
    rcases h1 with ⟨e, h1⟩ | ⟨e, h1⟩
    · rcases g1 with ⟨_, g1⟩ | ⟨e2, _⟩
      · omega
      · exact absurd e e2
    · rcases g1 with ⟨e2, _⟩ | ⟨_, g1⟩
      · exact absurd e2 e
      · have := g1.2.2 (b - 1) (by have := h1.1; omega) h1.2.1
        omega
  exact h2.2.2 u (by have := g2.1; omega) g2.2.1
theorem rowC_len (k : Clk) (i j : Int) (p0 : 1 ≤ k.per) : ((rowC k i j).length : Int) = k.per := by
  unfold rowC; rw [List.length_map, List.length_range]; omega
theorem sn_row {a b : Int} (ok : k.Ok) (hl : IsLean k i a j b) (t : Int) : PU k i j t (sn (rowC k i j) t) := by
  have p0 := ok.per.1
  have hlen := rowC_len k i j p0
  have hb := Int.emod_nonneg t (show k.per ≠ 0 by omega)
  have hb2 := Int.emod_lt_of_pos t (show 0 < k.per by omega)
  have ht := Int.emod_add_mul_ediv t k.per
  obtain ⟨r, hr⟩ := pu_some (t := t % k.per) ok hl
  have e1 : (rowC k i j)[(t % k.per).toNat]? = some r := by
    unfold rowC
    rw [List.getElem?_map, List.getElem?_range (by omega)]
    show some (puC k i j (((t % k.per).toNat : Nat) : Int)) = some r
    rw [Int.toNat_of_nonneg hb, puC_of hr]
  have e2 : sn (rowC k i j) t = r + k.per * (t / k.per) := by
    unfold sn
    rw [hlen, e1, Int.mul_comm (t / k.per)]; rfl
  rw [e2]
  have := pu_shift (t / k.per) hr
  rw [ht] at this
  exact this
end
section
variable {k : Clk}
theorem tab_mem (ok : k.Ok) {x : List Int} {p : List Int × List Int} (h : p ∈ tabC k (leans k) x) : ∃ i a j b : Int, p = ([i, a], rowC k i j) ∧ x = [j, b] ∧ IsLean k i a j b := by
  unfold tabC at h
  obtain ⟨q, hq, rfl⟩ := List.mem_map.mp h
  obtain ⟨h1, h2⟩ := List.mem_filter.mp hq
  obtain ⟨i, a, j, b, rfl, hl⟩ := mem_leans ok h1
  exact ⟨i, a, j, b, rfl, (of_decide_eq_true h2).symm, hl⟩
theorem mem_tab {i a j b : Int} (h : ([i, a], [j, b]) ∈ leans k) : ([i, a], rowC k i j) ∈ tabC k (leans k) [j, b] := by
  unfold tabC
  exact List.mem_map.mpr ⟨([i, a], [j, b]), List.mem_filter.mpr ⟨h, decide_eq_true rfl⟩, rfl⟩
theorem tab_mono (ok : k.Ok) : ∀ x, ∀ p ∈ tabC k (leans k) x, ∀ s u : Int, s ≤ u → sn p.2 s ≤ sn p.2 u := fun x p hp s u hsu => by
  obtain ⟨i, a, j, b, rfl, _, hl⟩ := tab_mem ok hp
  exact pu_mono (sn_row ok hl s) (sn_row ok hl u) hsu
theorem tab_down (ok : k.Ok) : ∀ x, ∀ p ∈ tabC k (leans k) x, ∀ t : Int, sn p.2 (t - k.per) = sn p.2 t - k.per := fun x p hp t => by
  obtain ⟨i, a, j, b, rfl, _, hl⟩ := tab_mem ok hp
  have h := pu_shift (-1) (sn_row ok hl t)
  rw [show t + k.per * (-1) = t - k.per by omega, show sn (rowC k i j) t + k.per * (-1) = sn (rowC k i j) t - k.per by omega] at h
  exact (sn_row ok hl (t - k.per)).uniq h
theorem tab_up (ok : k.Ok) : ∀ x, ∀ p ∈ tabC k (leans k) x, ∀ t : Int, sn p.2 t ≤ t + k.per := fun x p hp t => by
  obtain ⟨i, a, j, b, rfl, _, hl⟩ := tab_mem ok hp
  exact pu_up ok.per.1 (sn_row ok hl t)
/-! a hole of two rounds: what is above it comes down a round -/
theorem hole {ks : List (List Int)} (h : List Int → Int) (a w : Int) (w0 : 0 < w) {y : List Int} (hy : y ∈ ks) (hb : a + w * (ks.length : Int) ≤ h y) : ∃ j : Nat, j < ks.length ∧ ∀ x ∈ ks, ¬ (a + w * (j : Int) ≤ h x ∧ h x < a + w * ((j : Int) + 1)) := by
  apply Classical.byContradiction
  intro no
  have all : ∀ j : Nat, ∃ x, j < ks.length → x ∈ ks ∧ a + w * (j : Int) ≤ h x ∧ h x < a + w * ((j : Int) + 1) := fun j => by
    by_cases z : j < ks.length
    · apply Classical.byContradiction
      intro n2
      exact no ⟨j, z, fun x hx hh => n2 ⟨x, fun _ => ⟨hx, hh⟩⟩⟩
    · exact ⟨[], fun q => absurd q z⟩
  let f : Nat → List Int := fun j => Classical.choose (all j)
  have hf : ∀ j, j < ks.length → f j ∈ ks ∧ a + w * (j : Int) ≤ h (f j) ∧ h (f j) < a + w * ((j : Int) + 1) := fun j hj => Classical.choose_spec (all j) hj
  have nd : ((List.range ks.length).map f ++ [y]).Nodup := by
    rw [List.nodup_append]
    refine ⟨?_, by simp, fun x hx z hz e => ?_⟩
    · rw [List.Nodup, List.pairwise_map]
      refine List.Pairwise.imp_of_mem ?_ (List.pairwise_lt_range (n := ks.length))
      intro m n hm hn hmn e
      rw [List.mem_range] at hm hn
      have h1 := hf m hm
      have h2 := hf n hn
      rw [e] at h1
      have : w * ((m : Int) + 1) ≤ w * (n : Int) := Int.mul_le_mul_of_nonneg_left (by omega) (by omega)
      omega
    · obtain ⟨m, hm, rfl⟩ := List.mem_map.mp hx
      rw [List.mem_range] at hm
      rw [List.mem_singleton] at hz
      have h1 := hf m hm
      rw [e, hz] at h1
      have : w * ((m : Int) + 1) ≤ w * (ks.length : Int) := Int.mul_le_mul_of_nonneg_left (by omega) (by omega)
      omega
  have := nodup_le (r := ks) nd fun x hx => by
    rcases List.mem_append.mp hx with hx | hx
    · obtain ⟨m, hm, rfl⟩ := List.mem_map.mp hx
      rw [List.mem_range] at hm
      exact (hf m hm).1
    · rw [List.mem_singleton] at hx; rw [hx]; exact hy
  rw [List.length_append, List.length_map, List.length_range] at this
  exact absurd this (by show ¬ (ks.length + 1 ≤ ks.length); omega)
/-- all that stands at a bound or above comes down a round -/
def down (per b : Int) (h : List Int → Int) : List Int → Int := fun x => if b ≤ h x then h x - per else h x
theorem down_closed (ok : k.Ok) {ks : List (List Int)} {h : List Int → Int} (b : Int) (hc : Closed k ks h) (hole : ∀ x ∈ ks, ¬ (b - 2 * k.per ≤ h x ∧ h x < b)) : Closed k ks (down k.per b h) := fun x hx p hp hk => by
  have p0 := ok.per.1
  have h1 := hc x hx p hp hk
  have hx1 := hole x hx
  have hy1 := hole p.1 hk
  show sn p.2 (if b ≤ h x then h x - k.per else h x) ≤ (if b ≤ h p.1 then h p.1 - k.per else h p.1)
  by_cases c1 : b ≤ h x
  · rw [if_pos c1, tab_down ok x p hp]
    by_cases c2 : b ≤ h p.1
    · rw [if_pos c2]; omega
    · rw [if_neg c2]; omega
  · rw [if_neg c1]
    by_cases c2 : b ≤ h p.1
    · rw [if_pos c2]
      have := tab_up ok x p hp (h x)
      omega
    · rw [if_neg c2]; exact h1
theorem low_closed (ok : k.Ok) {ks : List (List Int)} {g : List Int → Int} {mx : Int} (hmx : ∀ x ∈ ks, g x ≤ mx + k.per) : ∀ (s : Nat) (h : List Int → Int), Closed k ks h → Above ks g h → (ks.map fun x => (h x - g x).toNat).sum = s → ∃ h', Closed k ks h' ∧ Above ks g h' ∧ ∀ x ∈ ks, h' x < mx + 2 * k.per * (ks.length : Int) := fun s => by
  induction s using Nat.strongRecOn with
  | ind s ih =>
    intro h hc ha hs
    have p0 := ok.per.1
    by_cases z : ∀ x ∈ ks, h x < mx + 2 * k.per * (ks.length : Int)
    · exact ⟨h, hc, ha, z⟩
    · obtain ⟨y, hy⟩ : ∃ y, y ∈ ks ∧ mx + 2 * k.per * (ks.length : Int) ≤ h y := by
        apply Classical.byContradiction
        intro n
        exact z fun x hx => Int.not_le.mp fun q => n ⟨x, hx, q⟩
      obtain ⟨j, hj, hh⟩ := hole h mx (2 * k.per) (by omega) hy.1 hy.2
      have hjl : 2 * k.per * ((j : Int) + 1) ≤ 2 * k.per * (ks.length : Int) := Int.mul_le_mul_of_nonneg_left (by omega) (by omega)
      have hj0 : 0 ≤ 2 * k.per * (j : Int) := Int.mul_nonneg (by omega) (by omega)
      have ej : 2 * k.per * ((j : Int) + 1) = 2 * k.per * (j : Int) + 2 * k.per := by rw [Int.mul_add, Int.mul_one]
      refine ih _ ?_ (down k.per (mx + 2 * k.per * ((j : Int) + 1)) h) (down_closed ok _ hc fun x hx q => hh x hx ⟨by omega, q.2⟩) (fun x hx => ?_) rfl
      · rw [← hs]
        refine (sum_lt (g := fun x => (down k.per (mx + 2 * k.per * ((j : Int) + 1)) h x - g x).toNat) (h := fun x => (h x - g x).toNat) (fun x => ?_)).2 y hy.1 ?_
        · show ((if _ then _ else _) - g x).toNat ≤ _
          by_cases c1 : mx + 2 * k.per * ((j : Int) + 1) ≤ h x
          · rw [if_pos c1]; omega
          · rw [if_neg c1]; exact Nat.le_refl _
        · show ((if _ then _ else _) - g y).toNat < _
          have := hmx y hy.1
          rw [if_pos (by omega)]; omega
      · show g x ≤ (if _ then _ else _)
        have h1 := ha x hx
        have h2 := hmx x hx
        by_cases c1 : mx + 2 * k.per * ((j : Int) + 1) ≤ h x
        · rw [if_pos c1]; omega
        · rw [if_neg c1]; exact h1
/-- none below the limit: none at all -/
theorem none_at_all (ok : k.Ok) {ks : List (List Int)} {g : List Int → Int} {mx : Int} (hmx : ∀ x ∈ ks, g x ≤ mx) (h : NoneLow k ks g (mx + 2 * k.per * (ks.length : Int))) : ∀ h, Closed k ks h → ¬ Above ks g h := fun h0 hc ha => by
  obtain ⟨h', h1, h2, h3⟩ := low_closed (mx := mx) ok (fun x hx => by have := hmx x hx; have := ok.per.1; omega) _ h0 hc ha rfl
  obtain ⟨x, hx, h4⟩ := h h' h1 h2
  have := h3 x hx
  omega
/-- the least numbers are below the limit -/
theorem least_low (ok : k.Ok) {ks : List (List Int)} {g N : List Int → Int} {mx : Int} (hmx : ∀ x ∈ ks, g x ≤ mx + k.per) (h : LeastN k ks g N) : ∀ x ∈ ks, N x < mx + 2 * k.per * (ks.length : Int) := fun x hx => by
  obtain ⟨h', h1, h2, h3⟩ := low_closed ok hmx _ N h.cl h.ge rfl
  have := h.lo h' h1 h2 x hx
  have := h3 x hx
  omega
theorem LeastN.uniq {ks : List (List Int)} {g N M : List Int → Int} (h : LeastN k ks g N) (f : LeastN k ks g M) : ∀ x ∈ ks, N x = M x := fun x hx => by
  have h1 := h.lo M f.cl f.ge x hx
  have h2 := f.lo N h.cl h.ge x hx
  omega
end
end LC
-- Y7
namespace LC
variable [Tbl]
open PySem PySem.Spec PyProof.Rows L2 GenW RZ
/-- tuple(.. for x in a list): turns, the list staying -/
theorem tupG_lst {K : PySem.W.Frag} {a : Addr} {xs : List V} {H4 : Hp} {Qd : List V → Hp → Prop} {B : (List V → Hp → Prop) → List V → V → Hp → Prop} (Pv : Nat → List V → Hp → Prop) (h0 : Pv 0 [] H4) (hl : ∀ i zs H, i ≤ xs.length → Pv i zs H → SqL K H a xs)
    (hs : ∀ i x zs H, xs[i]? = some x → Pv i zs H → B (Pv (i + 1)) zs x H) (hd : ∀ zs H, Pv xs.length zs H → Qd zs H) :
    ∃ W : List V → Nat → Nat → Hp → Prop, (∃ m, W [] 0 m H4) ∧ ∀ ys i m H, W ys i m H →
      ((Itl K a).stop i H ∧ Qd ys H) ∨ ((Itl K a).go i H ∧ ∃ Nx : List V → Hp → Prop, (∀ zs H', Nx zs H' → ∃ m', m' < m ∧ W zs (i + 1) m' H') ∧ ∀ x H', (Itl K a).yld i H x H' → B Nx ys x H') := by
  refine ⟨fun ys i m H => m = xs.length - i ∧ i ≤ xs.length ∧ Pv i ys H, ⟨xs.length, by simp, Nat.zero_le _, h0⟩, ?_⟩
  rintro ys i m H ⟨rfl, hi, p⟩
  have q := hl i ys H hi p
  by_cases hlt : i < xs.length
  · refine .inr ⟨⟨xs, xs[i], q, by simp [hlt]⟩, Pv (i + 1), fun zs H' h' => ⟨xs.length - (i + 1), by omega, rfl, hlt, h'⟩, fun x H' y => ?_⟩
    obtain ⟨e, y⟩ := y
    subst e
    exact hs i x ys _ (y xs q) p
  · have e : i = xs.length := by omega
    subst e
    exact .inl ⟨⟨xs, q, Nat.le_refl _⟩, hd ys H p⟩
theorem least_of : ∀ {g : List Int}, g ≠ [] → ∃ m, m ∈ g ∧ ∀ y ∈ g, m ≤ y
  | [], h => absurd rfl h
  | [x], _ => ⟨x, List.mem_singleton.mpr rfl, fun y hy => by rw [List.mem_singleton] at hy; rw [hy]; exact Int.le_refl _⟩
  | x :: y :: g, _ => by
    obtain ⟨m, h1, h2⟩ := least_of (g := y :: g) (List.cons_ne_nil _ _)
    by_cases z : x ≤ m
    · exact ⟨x, List.mem_cons_self, fun u hu => by
        rcases List.mem_cons.mp hu with e | hu
        · rw [e]; exact Int.le_refl _
        · have := h2 u hu; omega⟩
    · exact ⟨m, List.mem_cons_of_mem _ h1, fun u hu => by
        rcases List.mem_cons.mp hu with e | hu
        · omega
        · exact h2 u hu⟩
theorem gf_some {per : Int} {g : List Int} (low : Int) (p0 : 1 ≤ per) (hg : ∀ p ∈ g, 0 ≤ p ∧ p < per) (hne : g ≠ []) : ∃ r, GF per g low r := by
  obtain ⟨m, h1, h2⟩ := least_of (g := g.map fun p => (p - low) % per) (fun z => hne (List.map_eq_nil_iff.mp z))
  exact ⟨_, gf_min p0 hg h1 h2⟩
theorem due_gap {k : Clk} (ok : k.Ok) {u : List Int} (h : u ∈ due k.eds k.eds.length) : ∃ (i : Nat) (a : Int) (gp : List Int), u = [(i : Int), a] ∧ i < k.eds.length ∧ 1 ≤ a ∧ a ≤ k.eds[i]?.getD 0 ∧ k.gps[i]? = some gp ∧ gp ≠ [] ∧ ∀ p ∈ gp, 0 ≤ p ∧ p < k.per := by
  obtain ⟨i, a, rfl, hi, ha⟩ := mem_due h
  obtain ⟨gp, eg⟩ : ∃ z, k.gps[i]? = some z := ⟨_, List.getElem?_eq_getElem (by rw [ok.gpsN]; exact hi)⟩
  obtain ⟨g1, g2, _⟩ := ok.gps i _ gp (List.getElem?_eq_getElem hi) eg
  refine ⟨i, _, gp, rfl, hi, by omega, by omega, eg, g1 ?_, g2⟩
  rw [List.getElem?_eq_getElem hi] at ha
  have : a < (k.eds[i]).toNat := ha
  omega
theorem gapOf_gf {k : Clk} (ok : k.Ok) (low : Int) {u : List Int} (h : u ∈ due k.eds k.eds.length) : GF k.per (k.gps[(u[0]?.getD 0).toNat]?.getD []) low (gapOf k low u) := by
  obtain ⟨i, a, gp, rfl, _, _, _, eg, hne, hb⟩ := due_gap ok h
  obtain ⟨r, hr⟩ := gf_some low ok.per.1 hb hne
  unfold gapOf
  show GF k.per (k.gps[((i : Nat) : Int).toNat]?.getD []) low (gfC k.per (k.gps[((i : Nat) : Int).toNat]?.getD []) low)
  rw [Int.toNat_natCast, eg]
  show GF k.per gp low (gfC k.per gp low)
  rw [gfC_of hr]; exact hr
theorem gapOf_bd {k : Clk} (ok : k.Ok) (low : Int) {u : List Int} (h : u ∈ due k.eds k.eds.length) : low ≤ gapOf k low u ∧ gapOf k low u < low + k.per :=
  ⟨(gapOf_gf ok low h).1, gf_near ok.per.1 (gapOf_gf ok low h)⟩
end LC
-- Y8
namespace LC
variable [Tbl]
open PySem PySem.Spec PyProof.Rows L2
/-! plans and numbers -/
def numOf (pl : List (List Int)) (x : List Int) : Int := tk pl (x[0]?.getD 0) (x[1]?.getD 0)
section
variable {k : Clk} {pl : List (List Int)}
abbrev dueA (k : Clk) : List (List Int) := due k.eds k.eds.length
theorem due_of {i a : Int} (i0 : 0 ≤ i ∧ i < k.eds.length) (a0 : 1 ≤ a ∧ a ≤ k.eds[i.toNat]?.getD 0) : [i, a] ∈ dueA k := by
  have := due_mem (eds := k.eds) (n := k.eds.length) (i := i.toNat) (a := (a - 1).toNat) (by omega) (by omega)
  rw [Int.toNat_of_nonneg (by omega), Int.toNat_of_nonneg (by omega), show 1 + (a - 1) = a by omega] at this
  exact this
theorem due_is {x : List Int} (h : x ∈ dueA k) : ∃ i a : Int, x = [i, a] ∧ (0 ≤ i ∧ i < k.eds.length) ∧ (1 ≤ a ∧ a ≤ k.eds[i.toNat]?.getD 0) := by
  obtain ⟨i, a, rfl, hi, ha⟩ := mem_due h
  exact ⟨i, 1 + a, rfl, by omega, by rw [Int.toNat_natCast]; omega⟩
/-- a plan is right exactly if its numbers are closed -/
theorem right_closed (ok : k.Ok) (po : PlOk k pl) : FB k pl none ↔ Closed k (dueA k) (numOf pl) := by
  rw [right_iff ok po]
  constructor
  · intro h x hx p hp hk
    obtain ⟨i, a, j, b, rfl, rfl, hl⟩ := tab_mem ok hp
    have h1 := sn_row ok hl (tk pl j b)
    have := (okL_iff po hl h1).mp (h _ (leans_mem hl))
    exact this
  · intro h p hp
    obtain ⟨i, a, j, b, rfl, hl⟩ := mem_leans ok hp
    have h1 := sn_row ok hl (tk pl j b)
    rw [okL_iff po hl h1]
    exact h [j, b] (due_of hl.j0 hl.b0) _ (mem_tab hp) (due_of hl.i0 hl.a0)
theorem plan_above (ok : k.Ok) (po : PlOk k pl) : Above (dueA k) (gapOf k 0) (numOf pl) := fun x hx => by
  obtain ⟨i, a, rfl, i0, a0⟩ := due_is hx
  obtain ⟨ts, _, _, _, t0, _, tg⟩ := tk_get po i0 a0
  exact (gapOf_gf ok 0 hx).2.2 (tk pl i a) t0 tg
theorem none_right (ok : k.Ok) (h : ∀ h, Closed k (dueA k) h → ¬ Above (dueA k) (gapOf k 0) h) (po : PlOk k pl) : ¬ FB k pl none := fun z => h _ ((right_closed ok po).mp z) (plan_above ok po)
/-! the plan of the least numbers -/
theorem dueW_filter (i n e : Nat) : (dueW n e).filter (fun x => decide (x[0]?.getD 0 = (i : Int))) = if i = n then dueW n e else [] := by
  by_cases z : i = n
  · rw [if_pos z, List.filter_eq_self]
    intro x hx
    unfold dueW at hx
    obtain ⟨a, _, rfl⟩ := List.mem_map.mp hx
    exact decide_eq_true (by show (n : Int) = (i : Int); omega)
  · rw [if_neg z, List.filter_eq_nil_iff]
    intro x hx
    unfold dueW at hx
    obtain ⟨a, _, rfl⟩ := List.mem_map.mp hx
    rw [decide_eq_true_eq]
    show ¬ (n : Int) = (i : Int)
    omega
theorem due_filter (eds : List Int) (i : Nat) : ∀ n, (due eds n).filter (fun x => decide (x[0]?.getD 0 = (i : Int))) = if i < n then dueW i (eds[i]?.getD 0).toNat else []
  | 0 => rfl
  | n + 1 => by
    rw [due_succ, List.filter_append, due_filter eds i n, dueW_filter]
    by_cases z : i < n
    · rw [if_pos z, if_neg (by omega), if_pos (by omega), List.append_nil]
    · rw [if_neg z, List.nil_append]
      by_cases y : i = n
      · rw [if_pos y, if_pos (by omega), y]
      · rw [if_neg y, if_neg (by omega)]
end
/-- the numbers of one wheel's exchanges -/
def rowN (k : Clk) (ks : List (List Int)) (N : List Int → Int) (ds : List (List Int)) (i : Nat) : List Int := (ds.filter fun x => decide (x[0]?.getD 0 = (i : Int)) && decide (x ∈ ks)).map N
theorem rowN_snoc {k : Clk} {ks : List (List Int)} {N : List Int → Int} {ds : List (List Int)} {x : List Int} {i : Nat} : rowN k ks N (ds ++ [x]) i = rowN k ks N ds i ++ if x[0]?.getD 0 = (i : Int) ∧ x ∈ ks then [N x] else [] := by
  unfold rowN
  rw [List.filter_append, List.map_append]
  by_cases e : x[0]?.getD 0 = (i : Int) ∧ x ∈ ks
  · rw [if_pos e, List.filter_cons_of_pos (p := fun x : List Int => decide (x[0]?.getD 0 = (i : Int)) && decide (x ∈ ks)) (show (decide (x[0]?.getD 0 = (i : Int)) && decide (x ∈ ks)) = true by rw [decide_eq_true e.1, decide_eq_true e.2]; rfl)]; rfl
  · rw [if_neg e, List.filter_cons_of_neg (p := fun x : List Int => decide (x[0]?.getD 0 = (i : Int)) && decide (x ∈ ks)) (show ¬ (decide (x[0]?.getD 0 = (i : Int)) && decide (x ∈ ks)) = true by rw [Bool.and_eq_true, decide_eq_true_eq, decide_eq_true_eq]; exact e)]; rfl
theorem rowN_len {k : Clk} {ks : List (List Int)} {N : List Int → Int} {ds : List (List Int)} {i : Nat} : (rowN k ks N ds i).length ≤ ds.length := by
  unfold rowN; rw [List.length_map]; exact List.length_filter_le _ _
def rowsN (k : Clk) (ks : List (List Int)) (N : List Int → Int) : List (List Int) := (List.range k.eds.length).map (rowN k ks N (due k.eds k.eds.length))
section
variable {k : Clk} {N : List Int → Int}
theorem rowN_due {i : Nat} (hi : i < k.eds.length) : rowN k (dueA k) N (dueA k) i = (dueW i (k.eds[i]?.getD 0).toNat).map N := by
  unfold rowN
  have e : (dueA k).filter (fun x => decide (x[0]?.getD 0 = (i : Int)) && decide (x ∈ dueA k)) = (dueA k).filter (fun x => decide (x[0]?.getD 0 = (i : Int))) := List.filter_congr fun x hx => by rw [decide_eq_true hx, Bool.and_true]
  rw [e, due_filter, if_pos hi]
theorem rowsN_get {i : Nat} (hi : i < k.eds.length) : (rowsN k (dueA k) N)[i]? = some ((dueW i (k.eds[i]?.getD 0).toNat).map N) := by
  unfold rowsN
  rw [List.getElem?_map, List.getElem?_range hi]
  show some (rowN k (dueA k) N (dueA k) i) = _
  rw [rowN_due hi]
theorem rowsN_len : (rowsN k (dueA k) N).length = k.eds.length := by unfold rowsN; rw [List.length_map, List.length_range]
theorem dueW_get {i n m : Nat} (h : m < n) : (dueW i n)[m]? = some [(i : Int), 1 + (m : Int)] := by
  unfold dueW
  rw [List.getElem?_map, List.getElem?_range h]; rfl
theorem dueA_len (ok : k.Ok) : (dueA k).length ≤ 48 := by
  show (due k.eds k.eds.length).length ≤ 48
  have := due_len k.eds ok.eds k.eds.length
  have := ok.len.2
  omega
/-- editions of one wheel, one behind the other -/
theorem cl_next (ok : k.Ok) (h : Closed k (dueA k) N) {i a : Int} (i0 : 0 ≤ i ∧ i < k.eds.length) (a1 : 1 ≤ a) (a2 : a + 1 ≤ k.eds[i.toNat]?.getD 0) : N [i, a] + 1 ≤ N [i, a + 1] := by
  have hl : IsLean k i (a + 1) i a := ⟨i0, by omega, i0, by omega, .inl ⟨rfl, by omega⟩⟩
  have h1 := h [i, a] (due_of i0 (by omega)) _ (mem_tab (leans_mem hl)) (due_of i0 (by omega))
  obtain ⟨b, h2, h3⟩ := sn_row ok hl (N [i, a])
  have h1 : sn (rowC k i i) (N [i, a]) ≤ N [i, a + 1] := h1
  rcases h2 with ⟨_, h2⟩ | ⟨h2, _⟩
  · have := h3.1; omega
  · exact absurd rfl h2
theorem cl_rise (ok : k.Ok) (h : Closed k (dueA k) N) {i : Nat} (hi : i < k.eds.length) : ∀ (d m : Nat), m + d < (k.eds[i]?.getD 0).toNat → N [(i : Int), 1 + (m : Int)] + (d : Int) ≤ N [(i : Int), 1 + ((m + d : Nat) : Int)]
  | 0, m, _ => by rw [Nat.add_zero]; show _ + 0 ≤ _; omega
  | d + 1, m, hd => by
    have h1 := cl_rise ok h hi d m (by omega)
    have h2 := cl_next ok h (i := i) (a := 1 + ((m + d : Nat) : Int)) (by omega) (by omega) (by rw [Int.toNat_natCast]; omega)
    rw [show 1 + ((m + (d + 1) : Nat) : Int) = 1 + ((m + d : Nat) : Int) + 1 by omega]
    omega
theorem src_gap (ok : k.Ok) {x : List Int} (hx : x ∈ dueA k) (low : Int) (h : Src k (gapOf k low) N x) : N x % k.per ∈ k.gps[(x[0]?.getD 0).toNat]?.getD [] := by
  rcases h with e | ⟨z, t, p, hp, rfl, e⟩
  · rw [e]; exact (gapOf_gf ok low hx).2.1
  · obtain ⟨i, a, j, b, rfl, rfl, hl⟩ := tab_mem ok hp
    rw [e]
    obtain ⟨b', _, h3⟩ := sn_row ok hl t
    exact h3.2.1
theorem least_bd (ok : k.Ok) (h : LeastN k (dueA k) (gapOf k 0) N) : ∀ x ∈ dueA k, 0 ≤ N x ∧ N x < 2 * k.per * ((dueA k).length : Int) := fun x hx => by
  have h1 := least_low (mx := 0) ok (fun y hy => by have := gapOf_bd ok 0 hy; omega) h x hx
  have h2 := h.ge x hx
  have h3 := gapOf_bd ok 0 hx
  omega
theorem least_plOk (ok : k.Ok) (h : LeastN k (dueA k) (gapOf k 0) N) : PlOk k (rowsN k (dueA k) N) where
  len := rowsN_len
  row := fun i ts e => by
    have hi : i < k.eds.length := by have := (List.getElem?_eq_some_iff.mp e).1; rw [rowsN_len] at this; exact this
    rw [rowsN_get hi] at e
    cases e
    obtain ⟨last, el⟩ : ∃ z, k.eds[i]? = some z := ⟨_, List.getElem?_eq_getElem hi⟩
    have l0 := ok.eds last (List.mem_of_getElem? el)
    have mem : ∀ m, m < (k.eds[i]?.getD 0).toNat → [(i : Int), 1 + (m : Int)] ∈ dueA k := fun m hm => due_mem hi hm
    refine ⟨by rw [List.length_map, dueW_len, el]; show (last.toNat : Int) = last; omega, fun x hx => ?_, ?_⟩
    · obtain ⟨u, hu, rfl⟩ := List.mem_map.mp hx
      unfold dueW at hu
      obtain ⟨m, hm, rfl⟩ := List.mem_map.mp hu
      have hd := mem m (List.mem_range.mp hm)
      have h1 := least_bd ok h _ hd
      have h2 := dueA_len ok
      have h3 := ok.per
      have h4 : 2 * k.per * ((dueA k).length : Int) ≤ 2 * 12 * ((dueA k).length : Int) := Int.mul_le_mul_of_nonneg_right (by omega) (by omega)
      refine ⟨h1.1, by omega, ?_⟩
      have := src_gap ok hd 0 (h.sr _ hd)
      have e0 : (([(i : Int), 1 + (m : Int)] : List Int)[0]?.getD 0).toNat = i := by show ((i : Nat) : Int).toNat = i; rw [Int.toNat_natCast]
      rw [e0] at this
      exact this
    · rw [List.pairwise_iff_getElem]
      intro m n hm hn hmn
      rw [List.length_map, dueW_len] at hm hn
      have e1 : ((dueW i (k.eds[i]?.getD 0).toNat).map N)[m]? = some (N [(i : Int), 1 + (m : Int)]) := by rw [List.getElem?_map, dueW_get hm]; rfl
      have e2 : ((dueW i (k.eds[i]?.getD 0).toNat).map N)[n]? = some (N [(i : Int), 1 + (n : Int)]) := by rw [List.getElem?_map, dueW_get hn]; rfl
      rw [(List.getElem?_eq_some_iff.mp e1).2, (List.getElem?_eq_some_iff.mp e2).2]
      have := cl_rise ok h.cl hi (n - m) m (by omega)
      rw [show m + (n - m) = n by omega] at this
      omega
theorem numOf_rows {x : List Int} (hx : x ∈ dueA k) : numOf (rowsN k (dueA k) N) x = N x := by
  obtain ⟨i, a, rfl, hi, ha⟩ := mem_due hx
  unfold numOf tk
  show ((rowsN k (dueA k) N)[((i : Nat) : Int).toNat]?.getD [])[((1 + (a : Int)) - 1).toNat]?.getD 0 = _
  rw [Int.toNat_natCast, rowsN_get hi]
  show ((dueW i (k.eds[i]?.getD 0).toNat).map N)[((1 + (a : Int)) - 1).toNat]?.getD 0 = _
  rw [show ((1 + (a : Int)) - 1).toNat = a by omega, List.getElem?_map, dueW_get ha]; rfl
theorem closed_congr {ks : List (List Int)} {M : List Int → Int} (e : ∀ x ∈ ks, M x = N x) (h : Closed k ks N) : Closed k ks M := fun x hx p hp hk => by
  rw [e x hx, e p.1 hk]; exact h x hx p hp hk
theorem least_right (ok : k.Ok) (h : LeastN k (dueA k) (gapOf k 0) N) : FB k (rowsN k (dueA k) N) none :=
  (right_closed ok (least_plOk ok h)).mpr (closed_congr (fun x hx => numOf_rows hx) h.cl)
theorem least_le (ok : k.Ok) (h : LeastN k (dueA k) (gapOf k 0) N) {pl : List (List Int)} (po : PlOk k pl) (hr : FB k pl none) : ∀ x ∈ dueA k, N x ≤ numOf pl x :=
  h.lo _ ((right_closed ok po).mp hr) (plan_above ok po)
end
end LC
-- Y9
namespace LC
variable [Tbl]
open PySem PySem.Spec PyProof.Rows L2
/-! rising lists, and parts of them -/
theorem lex_trans : ∀ {a b c : List Int}, HT.lexLt a b = true → HT.lexLt b c = true → HT.lexLt a c = true
  | [], [], _, h, _ => by simp [HT.lexLt] at h
  | [], _ :: _, [], _, h => by simp [HT.lexLt] at h
  | [], _ :: _, _ :: _, _, _ => by simp [HT.lexLt]
  | _ :: _, [], _, h, _ => by simp [HT.lexLt] at h
  | _ :: _, _ :: _, [], _, h => by simp [HT.lexLt] at h
  | x :: a, y :: b, z :: c, h1, h2 => by
    rw [HT.lexLt_cons] at h1 h2 ⊢
    by_cases e : x = y
    · rw [if_pos e] at h1
      by_cases e2 : y = z
      · rw [if_pos e2] at h2
        rw [if_pos (e.trans e2)]; exact lex_trans h1 h2
      · rw [if_neg e2] at h2
        rw [if_neg (fun w => e2 (e.symm.trans w)), e]; exact h2
    · rw [if_neg e, decide_eq_true_eq] at h1
      by_cases e2 : y = z
      · rw [if_neg (by omega)]; exact decide_eq_true (by omega)
      · rw [if_neg e2, decide_eq_true_eq] at h2
        rw [if_neg (by omega)]; exact decide_eq_true (by omega)
theorem rising_pw : ∀ {ks : List (List Int)}, rising ks = true → ks.Pairwise (fun a b => HT.lexLt a b = true) := fun {ks} h => by
  have adj : ∀ (i : Nat) (a b : List Int), ks[i]? = some a → ks[i + 1]? = some b → HT.lexLt a b = true := fun i a b ea eb => by
    unfold rising at h
    rw [List.all_eq_true] at h
    have hi := (List.getElem?_eq_some_iff.mp eb).1
    have := h i (by rw [List.mem_range]; omega)
    rw [ea, eb] at this
    exact this
  rw [List.pairwise_iff_getElem]
  have step : ∀ (d i : Nat) (a b : List Int), ks[i]? = some a → ks[i + d + 1]? = some b → HT.lexLt a b = true := fun d => by
    induction d with
    | zero => intro i a b ea eb; exact adj i a b ea (by rw [Nat.add_zero] at eb; exact eb)
    | succ d ih =>
      intro i a b ea eb
      obtain ⟨m, em⟩ : ∃ m, ks[i + d + 1]? = some m := ⟨_, List.getElem?_eq_getElem (by have := (List.getElem?_eq_some_iff.mp eb).1; omega)⟩
      exact lex_trans (ih i a m ea em) (adj _ m b em (by rw [show i + (d + 1) + 1 = i + d + 1 + 1 by omega] at eb; exact eb))
  intro i j hi hj hij
  exact step (j - i - 1) i _ _ (List.getElem?_eq_getElem hi) (by rw [show i + (j - i - 1) + 1 = j by omega]; exact List.getElem?_eq_getElem hj)
theorem pw_rising {ks : List (List Int)} (h : ks.Pairwise (fun a b => HT.lexLt a b = true)) : rising ks = true := rising_of fun i a b ha hb => pair_next (R := fun a b => HT.lexLt a b = true) h ha hb
theorem rising_filter {bs : List (List Int)} {p : List Int → Bool} (h : rising (bs.map (·.take 3)) = true) : rising ((bs.filter p).map (·.take 3)) = true :=
  pw_rising (List.Pairwise.sublist (List.filter_sublist.map _) (rising_pw h))
theorem nil_or_snoc {α : Type} (l : List α) : l = [] ∨ ∃ (L : List α) (b : α), l = L ++ [b] := by
  rcases List.eq_nil_or_concat l with h | ⟨L, b, h⟩
  · exact .inl h
  · exact .inr ⟨L, b, by rw [h, List.concat_eq_append]⟩
/-! ticks, rows of ticks, plans: all of them -/
def goods (per : Int) (g : List Int) (lo hi : Int) : List Int := ((List.range (hi - lo).toNat).map fun (n : Nat) => lo + (n : Int)).filter fun t => decide (t % per ∈ g)
theorem mem_goods {per lo hi t : Int} {g : List Int} : t ∈ goods per g lo hi ↔ lo ≤ t ∧ t < hi ∧ t % per ∈ g := by
  unfold goods
  rw [List.mem_filter, decide_eq_true_eq, List.mem_map]
  constructor
  · rintro ⟨⟨n, hn, rfl⟩, h⟩
    rw [List.mem_range] at hn
    exact ⟨by omega, by omega, h⟩
  · rintro ⟨h1, h2, h3⟩
    exact ⟨⟨(t - lo).toNat, by rw [List.mem_range]; omega, by omega⟩, h3⟩
theorem goods_len {per lo hi : Int} {g : List Int} : (goods per g lo hi).length ≤ (hi - lo).toNat := by
  unfold goods
  refine Nat.le_trans (List.length_filter_le _ _) ?_
  rw [List.length_map, List.length_range]; exact Nat.le_refl _
def lastOr (one : List Int) (start : Int) : Int := match one.getLast? with
  | some x => x + 1
  | none => start
def lr (per : Int) (g : List Int) (start hi : Int) : Nat → List (List Int)
  | 0 => [[]]
  | m + 1 => (lr per g start hi m).flatMap fun one => (goods per g (lastOr one start) hi).map fun t => one ++ [t]
theorem lastOr_snoc {l : List Int} {y s : Int} : lastOr (l ++ [y]) s = y + 1 := by unfold lastOr; rw [List.getLast?_concat]
theorem lastOr_gt {one : List Int} {s : Int} (h : one.Pairwise (· < ·)) : ∀ x ∈ one, x < lastOr one s := fun x hx => by
  rcases nil_or_snoc one with e | ⟨l, y, e⟩
  · rw [e] at hx; cases hx
  · rw [e] at h hx ⊢
    rw [lastOr_snoc]
    rw [List.pairwise_append] at h
    rcases List.mem_append.mp hx with hx | hx
    · have := h.2.2 x hx y List.mem_cons_self; omega
    · rw [List.mem_singleton] at hx; omega
theorem lastOr_ge {one : List Int} {s : Int} (h : ∀ x ∈ one, s ≤ x) : s ≤ lastOr one s := by
  rcases nil_or_snoc one with e | ⟨l, y, e⟩
  · rw [e]; exact Int.le_refl _
  · rw [e] at h ⊢
    rw [lastOr_snoc]
    have := h y (List.mem_append_right _ List.mem_cons_self); omega
theorem mem_lr {per start hi : Int} {g : List Int} : ∀ {m : Nat} {ts : List Int}, ts ∈ lr per g start hi m ↔ ts.length = m ∧ ts.Pairwise (· < ·) ∧ ∀ x ∈ ts, start ≤ x ∧ x < hi ∧ x % per ∈ g
  | 0, ts => by
    show ts ∈ [[]] ↔ _
    rw [List.mem_singleton]
    constructor
    · rintro rfl; exact ⟨rfl, List.Pairwise.nil, fun x h => nomatch h⟩
    · rintro ⟨h, _⟩; exact List.eq_nil_of_length_eq_zero h
  | m + 1, ts => by
    show ts ∈ (lr per g start hi m).flatMap _ ↔ _
    rw [List.mem_flatMap]
    constructor
    · rintro ⟨one, h1, h2⟩
      obtain ⟨t, ht, rfl⟩ := List.mem_map.mp h2
      obtain ⟨g1, g2, g3⟩ := mem_lr.mp h1
      obtain ⟨t1, t2, t3⟩ := mem_goods.mp ht
      have hge := lastOr_ge (s := start) fun x hx => (g3 x hx).1
      refine ⟨by rw [List.length_append, g1]; rfl, ?_, fun x hx => ?_⟩
      · rw [List.pairwise_append]
        refine ⟨g2, List.pairwise_singleton _ _, fun x hx y hy => ?_⟩
        rw [List.mem_singleton] at hy
        have := lastOr_gt (s := start) g2 x hx
        omega
      · rcases List.mem_append.mp hx with hx | hx
        · exact g3 x hx
        · rw [List.mem_singleton] at hx; rw [hx]; exact ⟨by omega, t2, t3⟩
    · rintro ⟨h1, h2, h3⟩
      rcases nil_or_snoc ts with e | ⟨l, y, e⟩
      · rw [e] at h1; cases h1
      · rw [e] at h1 h2 h3 ⊢
        rw [List.pairwise_append] at h2
        refine ⟨l, mem_lr.mpr ⟨by rw [List.length_append] at h1; exact Nat.succ.inj h1, h2.1, fun x hx => h3 x (List.mem_append_left _ hx)⟩, List.mem_map.mpr ⟨y, mem_goods.mpr ⟨?_, h3 y (List.mem_append_right _ List.mem_cons_self) |>.2⟩, rfl⟩⟩
        rcases nil_or_snoc l with e2 | ⟨l2, z, e2⟩
        · rw [e2]; exact (h3 y (List.mem_append_right _ List.mem_cons_self)).1
        · rw [e2, lastOr_snoc]
          have := h2.2.2 z (by rw [e2]; exact List.mem_append_right _ List.mem_cons_self) y List.mem_cons_self
          omega
theorem flat_le {α β : Type} {f : α → List β} {B : Nat} : ∀ {l : List α}, (∀ x ∈ l, (f x).length ≤ B) → (l.flatMap f).length ≤ l.length * B
  | [], _ => by simp
  | x :: l, h => by
    rw [List.flatMap_cons, List.length_append, List.length_cons, Nat.succ_mul]
    have := flat_le (l := l) fun y hy => h y (List.mem_cons_of_mem _ hy)
    have := h x List.mem_cons_self
    omega
theorem lr_len {per start hi : Int} {g : List Int} {B : Nat} (hB : (hi - start).toNat ≤ B) : ∀ m, (lr per g start hi m).length ≤ B ^ m
  | 0 => Nat.le_refl _
  | m + 1 => by
    show ((lr per g start hi m).flatMap _).length ≤ _
    rw [Nat.pow_succ]
    refine Nat.le_trans (flat_le (B := B) fun one h => ?_) (Nat.mul_le_mul_right _ (lr_len hB m))
    rw [List.length_map]
    have := lastOr_ge (s := start) fun x hx => ((mem_lr.mp h).2.2 x hx).1
    exact Nat.le_trans goods_len (by omega)
/-- all plans of the first wheels -/
def lp (k : Clk) (start hi : Int) : Nat → List (List (List Int))
  | 0 => [[]]
  | n + 1 => (lp k start hi n).flatMap fun pl => (lr k.per (k.gps[n]?.getD []) start hi (k.eds[n]?.getD 0).toNat).map fun one => pl ++ [one]
theorem mem_lp {k : Clk} {start hi : Int} : ∀ {n : Nat} {pl : List (List Int)}, pl ∈ lp k start hi n ↔ pl.length = n ∧ ∀ (i : Nat) (ts : List Int), pl[i]? = some ts → ts ∈ lr k.per (k.gps[i]?.getD []) start hi (k.eds[i]?.getD 0).toNat
  | 0, pl => by
    show pl ∈ [[]] ↔ _
    rw [List.mem_singleton]
    constructor
    · rintro rfl; exact ⟨rfl, fun i ts e => by cases e⟩
    · rintro ⟨h, _⟩; exact List.eq_nil_of_length_eq_zero h
  | n + 1, pl => by
    show pl ∈ (lp k start hi n).flatMap _ ↔ _
    rw [List.mem_flatMap]
    constructor
    · rintro ⟨p, h1, h2⟩
      obtain ⟨one, ho, rfl⟩ := List.mem_map.mp h2
      obtain ⟨g1, g2⟩ := mem_lp.mp h1
      refine ⟨by rw [List.length_append, g1]; rfl, fun i ts e => ?_⟩
      by_cases z : i < p.length
      · rw [List.getElem?_append_left z] at e; exact g2 i ts e
      · have hi : i = n := by have := (List.getElem?_eq_some_iff.mp e).1; rw [List.length_append] at this; have : i < p.length + 1 := this; omega
        subst hi
        rw [List.getElem?_append_right (by omega), g1, Nat.sub_self] at e
        cases e; exact ho
    · rintro ⟨h1, h2⟩
      rcases nil_or_snoc pl with e | ⟨l, y, e⟩
      · rw [e] at h1; cases h1
      · rw [e] at h1 h2 ⊢
        have hl : l.length = n := by rw [List.length_append] at h1; exact Nat.succ.inj h1
        refine ⟨l, mem_lp.mpr ⟨hl, fun i ts ei => h2 i ts (by rw [List.getElem?_append_left (List.getElem?_eq_some_iff.mp ei).1]; exact ei)⟩, List.mem_map.mpr ⟨y, ?_, rfl⟩⟩
        have := h2 n y (by rw [List.getElem?_append_right (by omega), hl, Nat.sub_self]; rfl)
        exact this
end LC
-- YA
namespace LC
variable [Tbl]
open PySem PySem.Spec PyProof.Rows L2
/-! the least of several plans, place by place -/
def leR (a b : List Int) : Prop := a.length = b.length ∧ ∀ (m : Nat) (x y : Int), a[m]? = some x → b[m]? = some y → x ≤ y
def leP (f g : List (List Int)) : Prop := f.length = g.length ∧ ∀ (i : Nat) (a b : List Int), f[i]? = some a → g[i]? = some b → leR a b
def minR (a b : List Int) : List Int := List.zipWith min a b
def minP (f g : List (List Int)) : List (List Int) := List.zipWith minR f g
theorem minR_left {a b : List Int} (h : leR a b) : minR a b = a := by
  refine List.ext_getElem? fun i => ?_
  unfold minR
  rw [List.getElem?_zipWith]
  cases ea : a[i]? with
  | none => rfl
  | some x =>
    obtain ⟨y, ey⟩ : ∃ y, b[i]? = some y := ⟨_, List.getElem?_eq_getElem (by rw [← h.1]; exact (List.getElem?_eq_some_iff.mp ea).1)⟩
    rw [ey]
    have := h.2 i x y ea ey
    show some (min x y) = some x
    rw [Int.min_eq_left this]
theorem minR_right {a b : List Int} (h : leR a b) : minR b a = a := by
  refine List.ext_getElem? fun i => ?_
  unfold minR
  rw [List.getElem?_zipWith]
  cases ea : a[i]? with
  | none => rw [List.getElem?_eq_none (by rw [← h.1]; exact List.getElem?_eq_none_iff.mp ea)]
  | some x =>
    obtain ⟨y, ey⟩ : ∃ y, b[i]? = some y := ⟨_, List.getElem?_eq_getElem (by rw [← h.1]; exact (List.getElem?_eq_some_iff.mp ea).1)⟩
    rw [ey]
    have := h.2 i x y ea ey
    show some (min y x) = some x
    rw [Int.min_eq_right this]
theorem leR_min {a b c : List Int} (h : leR a b) (g : leR a c) : leR a (minR b c) := by
  refine ⟨by unfold minR; rw [List.length_zipWith, ← h.1, ← g.1, Nat.min_self], fun m x y ex ey => ?_⟩
  unfold minR at ey
  rw [List.getElem?_zipWith] at ey
  obtain ⟨u, eu⟩ : ∃ y, b[m]? = some y := ⟨_, List.getElem?_eq_getElem (by rw [← h.1]; exact (List.getElem?_eq_some_iff.mp ex).1)⟩
  obtain ⟨w, ew⟩ : ∃ y, c[m]? = some y := ⟨_, List.getElem?_eq_getElem (by rw [← g.1]; exact (List.getElem?_eq_some_iff.mp ex).1)⟩
  rw [eu, ew] at ey
  cases ey
  have := h.2 m x u ex eu
  have := g.2 m x w ex ew
  omega
theorem minP_left {f g : List (List Int)} (h : leP f g) : minP f g = f := by
  refine List.ext_getElem? fun i => ?_
  unfold minP
  rw [List.getElem?_zipWith]
  cases ea : f[i]? with
  | none => rfl
  | some a =>
    obtain ⟨b, eb⟩ : ∃ y, g[i]? = some y := ⟨_, List.getElem?_eq_getElem (by rw [← h.1]; exact (List.getElem?_eq_some_iff.mp ea).1)⟩
    rw [eb]
    show some (minR a b) = some a
    rw [minR_left (h.2 i a b ea eb)]
theorem minP_right {f g : List (List Int)} (h : leP f g) : minP g f = f := by
  refine List.ext_getElem? fun i => ?_
  unfold minP
  rw [List.getElem?_zipWith]
  cases ea : f[i]? with
  | none => rw [List.getElem?_eq_none (by rw [← h.1]; exact List.getElem?_eq_none_iff.mp ea)]
  | some a =>
    obtain ⟨b, eb⟩ : ∃ y, g[i]? = some y := ⟨_, List.getElem?_eq_getElem (by rw [← h.1]; exact (List.getElem?_eq_some_iff.mp ea).1)⟩
    rw [eb]
    show some (minR b a) = some a
    rw [minR_right (h.2 i a b ea eb)]
theorem leP_min {f g p : List (List Int)} (h : leP f g) (k : leP f p) : leP f (minP g p) := by
  refine ⟨by unfold minP; rw [List.length_zipWith, ← h.1, ← k.1, Nat.min_self], fun m x y ex ey => ?_⟩
  unfold minP at ey
  rw [List.getElem?_zipWith] at ey
  obtain ⟨u, eu⟩ : ∃ y, g[m]? = some y := ⟨_, List.getElem?_eq_getElem (by rw [← h.1]; exact (List.getElem?_eq_some_iff.mp ex).1)⟩
  obtain ⟨w, ew⟩ : ∃ y, p[m]? = some y := ⟨_, List.getElem?_eq_getElem (by rw [← k.1]; exact (List.getElem?_eq_some_iff.mp ex).1)⟩
  rw [eu, ew] at ey
  cases ey
  exact leR_min (h.2 m x u ex eu) (k.2 m x w ex ew)
theorem leR_refl (a : List Int) : leR a a := ⟨rfl, fun m x y h g => by rw [h] at g; cases g; exact Int.le_refl _⟩
theorem leP_refl (f : List (List Int)) : leP f f := ⟨rfl, fun m x y h g => by rw [h] at g; cases g; exact leR_refl _⟩
/-- the fold of all finds the one that is below all -/
theorem fold_least {M : List (List Int)} : ∀ {R : List (List (List Int))} {f : List (List Int)}, leP M f → (∀ p ∈ R, leP M p) → (f = M ∨ M ∈ R) → R.foldl minP f = M
  | [], f, _, _, h => h.elim (fun z => z) (fun z => nomatch z)
  | p :: R, f, hf, hR, h => by
    have hp := hR p List.mem_cons_self
    refine fold_least (R := R) (leP_min hf hp) (fun q hq => hR q (List.mem_cons_of_mem _ hq)) ?_
    rcases h with h | h
    · subst h; exact .inl (minP_left hp)
    · rcases List.mem_cons.mp h with e | h
      · subst e; exact .inl (minP_right hf)
      · exact .inr h
theorem leP_plans {k : Clk} (ok : k.Ok) {pl ql : List (List Int)} (po : PlOk k pl) (qo : PlOk k ql) (h : ∀ x ∈ dueA k, numOf pl x ≤ numOf ql x) : leP pl ql := by
  refine ⟨po.len.trans qo.len.symm, fun i a b ea eb => ?_⟩
  obtain ⟨h1, _⟩ := po.row i a ea
  obtain ⟨h2, _⟩ := qo.row i b eb
  refine ⟨by omega, fun m x y ex ey => ?_⟩
  have hi : i < k.eds.length := by have := (List.getElem?_eq_some_iff.mp ea).1; rw [po.len] at this; exact this
  have hm := (List.getElem?_eq_some_iff.mp ex).1
  have := h [(i : Int), 1 + (m : Int)] (due_mem hi (by omega))
  unfold numOf tk at this
  have e1 : (([(i : Int), 1 + (m : Int)] : List Int)[0]?.getD 0).toNat = i := by show ((i : Nat) : Int).toNat = i; rw [Int.toNat_natCast]
  have e2 : (([(i : Int), 1 + (m : Int)] : List Int)[1]?.getD 0 - 1).toNat = m := by show (1 + (m : Int) - 1).toNat = m; omega
  rw [e1, e2, ea, eb] at this
  have this : (a[m]?.getD 0) ≤ (b[m]?.getD 0) := this
  rw [ex, ey] at this
  exact this
/-- plans with ticks below a number are among all plans below it -/
theorem mem_all {k : Clk} (ok : k.Ok) {hi : Int} {pl : List (List Int)} : (PlOk k pl ∧ ∀ ts ∈ pl, ∀ x ∈ ts, x < hi) → pl ∈ lp k 0 hi k.eds.length := by
  rintro ⟨po, hb⟩
  refine mem_lp.mpr ⟨po.len, fun i ts e => ?_⟩
  obtain ⟨h1, h2, h3⟩ := po.row i ts e
  refine mem_lr.mpr ⟨by omega, h3, fun x hx => ?_⟩
  obtain ⟨g1, _, g3⟩ := h2 x hx
  exact ⟨g1, hb ts (List.mem_of_getElem? e) x hx, g3⟩
theorem all_ok {k : Clk} (ok : k.Ok) {hi : Int} (h5 : hi ≤ 100000) {pl : List (List Int)} (h : pl ∈ lp k 0 hi k.eds.length) : PlOk k pl := by
  obtain ⟨h1, h2⟩ := mem_lp.mp h
  refine ⟨h1, fun i ts e => ?_⟩
  obtain ⟨g1, g2, g3⟩ := mem_lr.mp (h2 i ts e)
  have hi' : i < k.eds.length := by have := (List.getElem?_eq_some_iff.mp e).1; omega
  have l0 := ok.eds _ (List.getElem_mem hi')
  have el : k.eds[i]? = some k.eds[i] := List.getElem?_eq_getElem hi'
  refine ⟨by rw [el] at g1 ⊢; show (ts.length : Int) = k.eds[i]; have g1 : ts.length = (k.eds[i]).toNat := g1; omega, fun x hx => ?_, g2⟩
  obtain ⟨q1, q2, q3⟩ := g3 x hx
  exact ⟨q1, by omega, q3⟩
end LC
-- K17_w1
namespace K17
open PySem PySem.Spec PyProof.Rows L2 LC
variable [Tbl]
variable {P : Program} {w : World} {K : PySem.W.Frag} {mg : Str → Option Value} {base : Heap} {f c : Addr} {fd : FuncData} {Ts : List Addr} {TP : Addr}

theorem sum_nat : ∀ {es : List Int}, (∀ e ∈ es, 0 ≤ e) → ((es.map Int.toNat).sum : Int) = es.sum
  | [], _ => rfl
  | e :: es, h => by
    have := sum_nat (es := es) fun x hx => h x (List.mem_cons_of_mem _ hx)
    have := h e List.mem_cons_self
    rw [List.map_cons, List.sum_cons, List.sum_cons]; omega
theorem set_sum1 : ∀ {es : List Int} {j : Nat} {m : Int}, es[j]? = some m → 1 ≤ m → ((es.set j (m - 1)).map Int.toNat).sum + 1 = (es.map Int.toNat).sum
  | [], _, _, h, _ => by simp at h
  | e :: es, 0, m, h, hm => by
    simp at h; subst h
    rw [List.set_cons_zero, List.map_cons, List.map_cons, List.sum_cons, List.sum_cons]; omega
  | e :: es, j + 1, m, h, hm => by
    have := set_sum1 (es := es) (j := j) (by simpa using h) hm
    rw [List.set_cons_succ, List.map_cons, List.map_cons, List.sum_cons, List.sum_cons]; omega
/-- fewer editions: the same clock otherwise, its book cut -/
def Less (es eds : List Int) : Prop := es.length = eds.length ∧ ∀ (i : Nat) (x y : Int), es[i]? = some x → eds[i]? = some y → 0 ≤ x ∧ x ≤ y
def cutBok (es : List Int) (bok : List (List Int)) : List (List Int) := bok.filter fun t => decide (t[1]?.getD 0 ≤ es[(t[0]?.getD 0).toNat]?.getD 0) && decide (t[3]?.getD 0 ≤ es[(t[2]?.getD 0).toNat]?.getD 0)
def lessC (k : Clk) (es : List Int) : Clk := ⟨k.per, es, k.tch, k.gps, cutBok es k.bok⟩
theorem less_ok {k : Clk} (ok : k.Ok) {es : List Int} (h : Less es k.eds) : (lessC k es).Ok := by
  have get : ∀ e ∈ es, ∃ (i : Nat) (y : Int), es[i]? = some e ∧ k.eds[i]? = some y ∧ 0 ≤ e ∧ e ≤ y := fun e he => by
    obtain ⟨i, hi⟩ := List.mem_iff_getElem?.mp he
    obtain ⟨y, hy⟩ : ∃ y, k.eds[i]? = some y := ⟨_, List.getElem?_eq_getElem (by rw [← h.1]; exact (List.getElem?_eq_some_iff.mp hi).1)⟩
    exact ⟨i, y, hi, hy, h.2 i e y hi hy⟩
  have hsum : ∀ {a b : List Int}, Less a b → a.sum ≤ b.sum := fun {a b} => by
    induction a generalizing b with
    | nil =>
      rintro ⟨h1, _⟩
      cases b with
      | nil => exact Int.le_refl _
      | cons _ _ => cases h1
    | cons x a ih =>
      rintro ⟨h1, h2⟩
      cases b with
      | nil => cases h1
      | cons y b =>
        have := ih (b := b) ⟨by simpa using h1, fun i u v hu hv => h2 (i + 1) u v (by simpa using hu) (by simpa using hv)⟩
        have := (h2 0 x y rfl rfl).2
        rw [List.sum_cons, List.sum_cons]; omega
  refine ⟨ok.per, by show 1 ≤ es.length ∧ es.length ≤ 12; rw [h.1]; exact ok.len, fun e he => ?_, Int.le_trans (hsum h) ok.sum, fun t ht => ?_, ok.tchR, ok.tchL, by show k.gps.length = es.length; rw [h.1]; exact ok.gpsN, fun i e g he hg => ?_, fun t ht => ?_, rising_filter ok.bokR, Nat.le_trans (List.length_filter_le _ _) ok.bokL⟩
  · obtain ⟨i, y, _, hy, e0, e1⟩ := get e he
    have := ok.eds y (List.mem_of_getElem? hy)
    omega
  · obtain ⟨p, i, j, e1, e2, e3, e4, e5, e6⟩ := ok.tch t ht
    exact ⟨p, i, j, e1, e2, e3, e4, e5, by show j < es.length; rw [h.1]; exact e6⟩
  · have he : es[i]? = some e := he
    obtain ⟨y, hy⟩ : ∃ y, k.eds[i]? = some y := ⟨_, List.getElem?_eq_getElem (by rw [← h.1]; exact (List.getElem?_eq_some_iff.mp he).1)⟩
    obtain ⟨g1, g2⟩ := ok.gps i y g hy hg
    have := h.2 i e y he hy
    exact ⟨fun z => g1 (by omega), g2⟩
  · have ht : t ∈ cutBok es k.bok := ht
    unfold cutBok at ht
    obtain ⟨h1, h2⟩ := List.mem_filter.mp ht
    obtain ⟨i, a, j, b, rfl, e1, e2, e3, e4, e5, e6, e7, e8, e9⟩ := ok.bok t h1
    rw [Bool.and_eq_true, decide_eq_true_eq, decide_eq_true_eq] at h2
    exact ⟨i, a, j, b, rfl, e1, by show i < es.length; rw [h.1]; exact e2, e3, by show j < es.length; rw [h.1]; exact e4, e5, e6, h2.1, e8, h2.2⟩

def sp_law_tiny (K : PySem.W.Frag) : Sp := fun vs H Q _ => ∃ (row scr : Addr) (ns : List Int), vs = [.ref row] ∧ RowAt K H row scr ns ∧ ∀ H' v k, Xt (At1 row) H H' → RowAt K H' row scr ns → ClkAt H' v k → k.Ok → k.eds.sum ≤ 3 → k.per ≤ 3 → k.eds.length ≤ 3 → 2 ≤ k.eds.length → Q v H'
theorem ok_law_tiny (T : Txt mg) (C_law_taken : Callee P w K mg base "_law_taken" 1 ["row", "many"] (sb_taken K)) (C_law_low_clock : Callee P w K mg base "_law_low_clock" 2 ["row", "period", "wheels", "most", "entries"] (sp_low_clockX K)) (F : FunC K "_law_tiny" s_law_tiny f fd c) : FnOk P w K mg base CX0 3 f fd ["row"] (sp_law_tiny K) := by
  refine F.ok sc_law_tiny (fun vs H Q E h => ?_) (fun A outer s H vs Q E hr h => ⟨_, (pss_cons (ps_set (i := 1) sc_law_tiny.nd rfl (Or.inl rfl) (pe_callC C_law_low_clock hr (by rfl) (pa_cons (pv 0) (pa_cons (pe_op op_add pe_int (pe_callC C_law_taken hr (by rfl) (pa_cons (pv 0) (pa_cons pe_int pa_nil)))) (pa_cons (pe_op op_add pe_int (pe_callC C_law_taken hr (by rfl) (pa_cons (pv 0) (pa_cons pe_int pa_nil)))) (pa_cons pe_int (pa_cons pe_int pa_nil)))))))
    (pss_cons (ps_set (i := 2) sc_law_tiny.nd rfl (Or.inr rfl) (pe_callTy call_list_of (by rfl) T.g_list (by decide +kernel) (pa_cons (pe_ix (ixK (K := K) rIxT ix_tup rfl) (pv 1) pe_int (fun _ _ => rfl)) pa_nil)))
    (pss_cons (ps_while PassesOwn.never (pt_cmpR op_gt (pe_callB (crK (K := K) rSumT (cr_sumT rfl) rfl) (by rfl) T.g_sum (by decide +kernel) (pa_cons (pv 2) pa_nil)) pe_int (nomark _)) (pss_one (ps_asg (pe_op op_sub (pe_callB (cr_max rfl) (by rfl) T.g_max (by decide +kernel) (pa_cons (pv 2) pa_nil)) pe_int) (pg_sub (pv 2) (pe_bm PySem.F.plainAttrs_list PySem.F.slot_list_index PySem.F.type_list_index mt_index (pv 2) (pa_cons (pe_callB (cr_max rfl) (by rfl) T.g_max (by decide +kernel) (pa_cons (pv 2) pa_nil)) pa_nil)) set_list))))
    (pss_cons (ps_set (i := 3) sc_law_tiny.nd rfl (Or.inl rfl) (pe_callTy (crK (K := K) rTupQ cr_tuple rfl) (by rfl) T.g_tuple (by decide +kernel) (pa_cons (pe_lc (own := [("one", 4)]) rfl sc_law_tiny.nd (piK (K := K) iTup (pi_tup (pe_ix (ixK (K := K) rIxT ix_tup rfl) (pv 1) pe_int (fun _ _ => rfl))) rfl) (blkOk_by (N := N_law_tiny) (sc := defScope s_law_tiny) (own := [("one", 4)]) (by decide +kernel)) (fun _ _ _ _ _ => (pg_name (i := 4) sc_law_tiny.nd rfl (Or.inl rfl))) (fun _ _ _ _ _ => (pts_one (PW.pt (pw_and (pt_cmpR op_le (pe_ix (ixK (K := K) rIxT ix_tup rfl) (pv 4) pe_int (fun _ _ => rfl)) (pe_ix (ixK (K := K) rIxL ix_list rfl) (pv 2) (pe_ix (ixK (K := K) rIxT ix_tup rfl) (pv 4) pe_int (fun _ _ => rfl)) (fun _ _ => rfl)) (nomark _)) (pw_and1 (pt_cmpR op_le (pe_ix (ixK (K := K) rIxT ix_tup rfl) (pv 4) pe_int (fun _ _ => rfl)) (pe_ix (ixK (K := K) rIxL ix_list rfl) (pv 2) (pe_ix (ixK (K := K) rIxT ix_tup rfl) (pv 4) pe_int (fun _ _ => rfl)) (fun _ _ => rfl)) (nomark _))))))) (fun _ _ _ _ _ => (pv 4))) pa_nil)))
    (pss_one (ps_ret (pe_tup (pa_cons (pe_ix (ixK (K := K) rIxT ix_tup rfl) (pv 1) pe_int (fun _ _ => rfl)) (pa_cons (pe_callTy (crK (K := K) rTupQ cr_tuple rfl) (by rfl) T.g_tuple (by decide +kernel) (pa_cons (pv 2) pa_nil)) (pa_cons (pe_ix (ixK (K := K) rIxT ix_tup rfl) (pv 1) pe_int (fun _ _ => rfl)) (pa_cons (pe_ix (ixK (K := K) rIxT ix_tup rfl) (pv 1) pe_int (fun _ _ => rfl)) (pa_cons (pv 3) pa_nil)))))))))))), ?_⟩)
  · obtain ⟨row, scr, ns, rfl, _⟩ := h; rfl
  · obtain ⟨row, scr, ns, rfl, hR, q⟩ := h
    refine ⟨_, rfl, _, rfl, row, scr, ns, 3, rfl, hR, by decide, by decide, fun H1 t t0 t1 x1 hR1 => ⟨_, _, rfl, rfl, ?_⟩⟩
    refine ⟨_, rfl, row, scr, ns, 2, rfl, hR1, by decide, by decide, fun H2 u u0 u1 x2 hR2 => ⟨_, _, rfl, rfl, ?_⟩⟩
    refine ⟨row, scr, ns, 1 + t, 2 + u, 2, 7, rfl, hR2, by omega, by omega, by omega, by omega, by decide, by decide, by decide, by decide, fun H3 cv k x3 hR3 hC ok hper hwh => ?_⟩
    have x13 := (x1.trans x2).trans x3
    clear x1 x2 x3 hR1 hR2
    obtain ⟨⟨ca, e, tt, g, b, rt, rg, rb, rfl, h1, h2, h3, h4, h5, h6, h7, h8⟩⟩ := id hC
    have hl12 := ok.len
    refine ⟨_, rfl, rixV 1 h1 rfl rfl ⟨e, _, rfl, .inr (SqT.of h2), fun E hE => ?_⟩⟩
    have hE3 : H3 E = none := hE
    have nerow : E ≠ row := hR3.nn hE
    have xE : Xn H3 (upd H3 E (.lst (k.eds.map V.int))) := Xt.new hE
    have hEe : upd H3 E (.lst (k.eds.map V.int)) E = some (.lst (k.eds.map V.int)) := upd_same
    generalize upd H3 E (.lst (k.eds.map V.int)) = H4 at xE hEe ⊢
    refine while_cnt (fun m σ G => ∃ es, σ = [some (.ref row), some (.ref ca), some (.ref E), none, none] ∧ Xn H3 G ∧ G E = some (.lst (es.map V.int)) ∧ Less es k.eds ∧ m = (es.map Int.toNat).sum) ⟨_, k.eds, rfl, xE, hEe, ⟨rfl, fun i x y h1 h2 => by rw [h1] at h2; cases h2; have := ok.eds x (List.mem_of_getElem? h1); omega⟩, rfl⟩ ?_
    rintro m σ G ⟨es, rfl, hx, hEs, hless, rfl⟩
    have pos : ∀ x ∈ es, 0 ≤ x := fun x hxm => by
      obtain ⟨i, hi⟩ := List.mem_iff_getElem?.mp hxm
      obtain ⟨y, hy⟩ : ∃ y, k.eds[i]? = some y := ⟨_, List.getElem?_eq_getElem (by rw [← hless.1]; exact (List.getElem?_eq_some_iff.mp hi).1)⟩
      exact (hless.2 i x y hi hy).1
    have hel := hless.1
    refine ⟨_, rfl, E, es, rfl, .inr (SqL.of hEs), _, _, rfl, rfl, _, rfl, ?_⟩
    by_cases c1 : es.sum > (3 : Int)
    · rw [decide_eq_true c1]
      refine iteT ⟨fun σ' G' => ∃ m', m' < (es.map Int.toNat).sum ∧ ∃ es, σ' = [some (.ref row), some (.ref ca), some (.ref E), none, none] ∧ Xn H3 G' ∧ G' E = some (.lst (es.map V.int)) ∧ Less es k.eds ∧ m' = (es.map Int.toNat).sum, fun σ' G' z => z, ?_⟩
      refine ⟨_, rfl, E, es, rfl, SqL.of hEs, by omega, fun m0 hm0 hmax0 => ⟨_, _, rfl, rfl, ?_⟩⟩
      refine ⟨_, rfl, _, rfl, .inl ⟨rfl, _, SqL.of hEs⟩, _, rfl, E, es, rfl, SqL.of hEs, by omega, fun m hm hmax => ?_⟩
      have emm : m0 = m := by have := hmax m0 hm0; have := hmax0 m hm; omega
      subst emm
      obtain ⟨j, hj, hj2⟩ := first_ix hm
      have hjl : j < es.length := (List.getElem?_eq_some_iff.mp hj).1
      have m1 : 0 < m0 := by
        by_cases z : 0 < m0
        · exact z
        · have := sum_pos_max hmax (by omega); omega
      refine ⟨E, es.map V.int, .int m0, j, .int m0, rfl, rfl, SqL.of hEs, rfl, ?_, by rw [List.getElem?_map, hj]; rfl, by show (m0 == m0) = true; exact beq_self_eq_true m0, fun i z hi hz => ?_, ?_⟩
      · rw [List.all_map, List.all_eq_true]; exact fun _ _ => rfl
      · rw [List.getElem?_map] at hz
        cases ez : es[i]? with
        | none => rw [ez] at hz; cases hz
        | some y =>
          rw [ez] at hz; cases hz
          show (y == m0) = false
          exact beq_eq_false_iff_ne.mpr (hj2 i y hi ez)
      refine ⟨E, _, _, j, rfl, rfl, hEs, ?_, ?_⟩
      · rw [List.length_map]; unfold ixN; rw [if_pos (by omega), if_pos (by omega), Int.toNat_natCast]
      have := set_sum1 hj (by omega)
      refine ⟨_, ?_, es.set j (m0 - 1), rfl, hx.young hE3, by rw [upd_same, List.map_set], ⟨by rw [List.length_set]; exact hel, fun i x y hxi hyi => ?_⟩, rfl⟩
      · omega
      · rw [List.getElem?_set] at hxi
        by_cases z : j = i
        · rw [if_pos z, if_pos hjl] at hxi
          cases hxi
          subst z
          have := (hless.2 j m0 y hj hyi).2
          omega
        · rw [if_neg z] at hxi
          exact hless.2 i x y hxi hyi
    · rw [decide_eq_false c1]
      refine iteF ?_
      have h13 := h1
      have h1 := hx.tups _ _ h1
      refine ⟨_, rfl, rixV 4 h1 rfl rfl ⟨b, rfl, ⟨_, SqT.of (hx.tups _ _ h7)⟩, fun B hB => ?_⟩⟩
      have h8 := h8.x hx
      have h7 := hx.tups _ _ h7
      refine drvT (xs := rb) (fun n H' => Xn G H' ∧ ∃ acc, H' B = some (.lst acc) ∧ Rows H' acc (cutBok es (k.bok.take n))) ⟨Xt.new hB, [], upd_same, Rows.nil⟩ (fun n H' _ hp => SqT.of (hp.1.tups _ _ h7)) (fun n x H' ex hp => ?_) (fun H' hp => ?_)
      · obtain ⟨hxx, acc, hB', hacc⟩ := hp
        obtain ⟨r, t', rfl, e1, e2⟩ := h8.get ex
        obtain ⟨i, a, j, b', rfl, i0, i1, j0, j1, _⟩ := ok.bok t' (List.mem_of_getElem? e1)
        have e2 := hxx.tups _ _ e2
        have hE' := hxx.keep E _ (fun z => z) (fun _ z => by cases z) hEs
        have ei : (es.map V.int)[i.toNat]? = some (.int (es[i.toNat]?.getD 0)) := by
          rw [List.getElem?_map, List.getElem?_eq_getElem (by omega : i.toNat < es.length)]; rfl
        have ej : (es.map V.int)[j.toNat]? = some (.int (es[j.toNat]?.getD 0)) := by
          rw [List.getElem?_map, List.getElem?_eq_getElem (by omega : j.toNat < es.length)]; rfl
        have hn : n < k.bok.length := (List.getElem?_eq_some_iff.mp e1).1
        have hbl := ok.bokL
        refine ⟨rfl, ⟨_, rfl, rixV 1 e2 rfl rfl ⟨_, rfl, _, rfl, rixV 0 e2 rfl rfl (rixL i.toNat (SqL.of hE') (by omega) ei ⟨_, _, rfl, rfl, _, rfl, ?_⟩)⟩⟩⟩
        by_cases c2 : a ≤ es[i.toNat]?.getD 0
        · rw [decide_eq_true c2]
          refine iteT ⟨_, rfl, rixV 3 e2 rfl rfl ⟨_, rfl, _, rfl, rixV 2 e2 rfl rfl (rixL j.toNat (SqL.of hE') (by omega) ej ⟨_, _, rfl, rfl, _, rfl, ?_⟩)⟩⟩
          by_cases c3 : b' ≤ es[j.toNat]?.getD 0
          · rw [decide_eq_true c3]
            refine iteT ⟨_, rfl, acc, hB', sz_lt ?_, hxx.young hB, acc ++ [V.ref r], upd_same, ?_⟩
            · rw [hacc.1]
              unfold cutBok
              have := List.length_filter_le (fun t : List Int => decide (t[1]?.getD 0 ≤ es[(t[0]?.getD 0).toNat]?.getD 0) && decide (t[3]?.getD 0 ≤ es[(t[2]?.getD 0).toNat]?.getD 0)) (k.bok.take n)
              rw [List.length_take] at this
              omega
            · unfold cutBok
              rw [filt_yes e1 (by show (decide (a ≤ es[i.toNat]?.getD 0) && decide (b' ≤ es[j.toNat]?.getD 0)) = true; rw [decide_eq_true c2, decide_eq_true c3]; rfl)]
              have own : Xt (At1 B) H' (upd H' B (.lst (acc ++ [V.ref r]))) := Xt.own rfl hB'
              exact (hacc.x own).snoc (own.tups _ _ e2)
          · rw [decide_eq_false c3]
            refine iteF ⟨hxx, acc, hB', ?_⟩
            unfold cutBok
            rw [filt_no e1 (by show (decide (a ≤ es[i.toNat]?.getD 0) && decide (b' ≤ es[j.toNat]?.getD 0)) = false; rw [decide_eq_false c3, Bool.and_false])]
            exact hacc
        · rw [decide_eq_false c2]
          refine iteF (iteF ⟨hxx, acc, hB', ?_⟩)
          unfold cutBok
          rw [filt_no e1 (by show (decide (a ≤ es[i.toNat]?.getD 0) && decide (b' ≤ es[j.toNat]?.getD 0)) = false; rw [decide_eq_false c2, Bool.false_and])]
          exact hacc
      obtain ⟨hxx, acc, hB', hacc⟩ := hp
      rw [h8.1, List.take_length] at hacc
      refine ⟨B, acc, rfl, .inl ⟨SqL.of hB', fun bp hbp => ?_⟩⟩
      have x5 : Xn H' (upd H' bp (.tup acc)) := Xt.new hbp
      have hbpe : upd H' bp (.tup acc) bp = some (.tup acc) := upd_same
      generalize upd H' bp (.tup acc) = H5 at x5 hbpe ⊢
      have hE5 := (hxx.trans x5).keep E _ (fun z => z) (fun _ z => by cases z) hEs
      have x35 : Xn H3 H5 := hx.trans (hxx.trans x5)
      refine ⟨_, rfl, rixV 0 (x35.tups _ _ h13) rfl rfl ⟨_, rfl, E, _, rfl, .inl ⟨SqL.of hE5, fun p2 hp2 => ?_⟩⟩⟩
      have x6 : Xn H5 (upd H5 p2 (.tup (es.map V.int))) := Xt.new hp2
      have hp2e : upd H5 p2 (.tup (es.map V.int)) p2 = some (.tup (es.map V.int)) := upd_same
      generalize upd H5 p2 (.tup (es.map V.int)) = H6 at x6 hp2e ⊢
      have x36 := x35.trans x6
      refine ⟨_, rfl, rixV 2 (x36.tups _ _ h13) rfl rfl ⟨_, rfl, rixV 3 (x36.tups _ _ h13) rfl rfl ⟨_, rfl, by show 5 ≤ sizeLine; decide, fun ct hct => ?_⟩⟩⟩
      have x7 : Xn H6 (upd H6 ct (.tup [.int k.per, .ref p2, .ref tt, .ref g, .ref bp])) := Xt.new hct
      have x37 := x36.trans x7
      have hc13 := (h4.x x36).x x7
      refine q _ _ (lessC k es) (x13.trans x37.any) (hR3.x x37) ⟨⟨ct, p2, tt, g, bp, rt, rg, acc, rfl, upd_same, x7.tups _ _ hp2e, x37.tups _ _ h3, h4.x x37, x37.tups _ _ h5, h6.x x37, (x6.trans x7).tups _ _ hbpe, hacc.x (x5.trans (x6.trans x7))⟩⟩ (less_ok ok hless) (by show es.sum ≤ 3; omega) (by show k.per ≤ 3; omega) (by show es.length ≤ 3; omega) (by show 2 ≤ es.length; omega)

end K17
-- X1
/-! functions without parameters that outlive their maker: what they captured stands in the heap -/
namespace LX
open PySem PySem.Spec PyProof.Rows L2 LamX NdefX

/-- at f: a function without parameters whose body is e -/
def LamO (f : Addr) (F : NF) (e : Expr) : HO := .ext fun hp => ∃ pm ctv : Value, hp.get? f = some (PySem.W.kla_obj "<lambda>" F.qual F.params e F.scope F.cl pm F.c ctv)
/-- at c: a cell that holds v -/
def CelO (c : Addr) (v : V) : HO := .ext fun hp => ∃ z, RelV v z ∧ hp.IsCell c (some z)
theorem lamO_ok {P : Program} {w : World} {H : Hp} {hp : Heap} {f : Addr} {F : NF} {e : Expr} {pm ctv : Value} (g : hp.get? f = some (PySem.W.kla_obj "<lambda>" F.qual F.params e F.scope F.cl pm F.c ctv)) : ObjOk P w H hp f (LamO f F e) :=
  ⟨⟨pm, ctv, g⟩, ⟨_, g⟩, fun _ _ ⟨p1, c1, g1⟩ kk => ⟨p1, c1, kk _ g1⟩⟩
theorem lamO_at {P : Program} {w : World} {H : Hp} {hp : Heap} {f : Addr} {F : NF} {e : Expr} (ok : HOk P w H hp) (g : H f = some (LamO f F e)) : ∃ pm ctv : Value, hp.get? f = some (PySem.W.kla_obj "<lambda>" F.qual F.params e F.scope F.cl pm F.c ctv) := (ok f _ g).1
theorem celO_ok {P : Program} {w : World} {H : Hp} {hp : Heap} {c : Addr} {v : V} {z : Value} (r : RelV v z) (g : hp.IsCell c (some z)) : ObjOk P w H hp c (CelO c v) := by
  obtain ⟨ob, g1, g2⟩ := g
  exact ⟨⟨z, r, ob, g1, g2⟩, ⟨_, g1⟩, fun _ _ ⟨z1, r1, o1, a1, b1⟩ kk => ⟨z1, r1, o1, kk _ a1, b1⟩⟩
theorem celO_at {P : Program} {w : World} {H : Hp} {hp : Heap} {c : Addr} {v : V} (ok : HOk P w H hp) (g : H c = some (CelO c v)) : ∃ z, RelV v z ∧ hp.IsCell c (some z) := (ok c _ g).1
theorem celO_own {c x : Addr} {v : V} : CelO c v ≠ .own x := fun z => by
  have z' : HO.ext _ = HO.own x := z
  cases z'
theorem celO_tup {c : Addr} {v : V} {xs : List V} : CelO c v ≠ .tup xs := fun z => by
  have z' : HO.ext _ = HO.tup xs := z
  cases z'
theorem celO_frz {c : Addr} {v : V} {o : Obj} {u : HO} : CelO c v ≠ .frz o u := fun z => by
  have z' : HO.ext _ = HO.frz o u := z
  cases z'
theorem celO_tbl {c : Addr} {v : V} {ps : Array Value} : CelO c v ≠ .tbl ps := fun z => by
  have z' : HO.ext _ = HO.tbl ps := z
  cases z'

/-! ### the heap without some cells -/
open Classical in
noncomputable def strip (H : Hp) (C : Addr → Prop) : Hp := fun b => if C b then none else H b
open Classical in
noncomputable def back (H H' : Hp) (C : Addr → Prop) : Hp := fun b => if C b then H b else H' b
section
variable {P : Program} {w : World} {H H' : Hp} {C : Addr → Prop} {b : Addr} {hp hq : Heap} {fs : List Addr}
theorem strip_in (z : C b) : strip H C b = none := by unfold strip; rw [if_pos z]
theorem strip_out (z : ¬ C b) : strip H C b = H b := by unfold strip; rw [if_neg z]
theorem back_in (z : C b) : back H H' C b = H b := by unfold back; rw [if_pos z]
theorem back_out (z : ¬ C b) : back H H' C b = H' b := by unfold back; rw [if_neg z]
/-- all that C tells are cells -/
def CellsOf (H : Hp) (C : Addr → Prop) : Prop := ∀ c, C c → ∃ v, H c = some (CelO c v)
theorem CellsOf.out (hC : CellsOf H C) {o : HO} (e : H b = some o) (n : ∀ c v, o ≠ CelO c v) : ¬ C b := fun z => by
  obtain ⟨v, g⟩ := hC b z
  rw [e] at g
  exact n b v (Option.some.inj g)
theorem CellsOf.outN (hC : CellsOf H C) (e : H b = none) : ¬ C b := fun z => by
  obtain ⟨v, g⟩ := hC b z
  rw [e] at g; cases g
theorem strip_none (e : H b = none) : strip H C b = none := by
  by_cases z : C b
  · exact strip_in z
  · rw [strip_out z]; exact e
theorem strip_some (hC : CellsOf H C) {o : HO} (e : H b = some o) (n : ∀ c v, o ≠ CelO c v) : strip H C b = some o := by rw [strip_out (hC.out e n)]; exact e
theorem strip_ok (ok : HOk P w H hp) (hC : CellsOf H C) : HOk P w (strip H C) hp := fun a o e => by
  have nz : ¬ C a := fun z => by rw [strip_in z] at e; cases e
  rw [strip_out nz] at e
  exact (ok a o e).stay (fun _ _ _ q => q) (fun d q => strip_some hC q fun c v z => celO_own z.symm) fun d xs q => strip_some hC q fun c v z => celO_tup z.symm
theorem strip_env {K : PySem.W.Frag} {mg : Str → Option Value} {base : Heap} {A : Around} {outer : List Env} {s : Shared} (e0 : Env0 P w K mg base A outer s H) (hC : CellsOf H C) : Env0 P w K mg base A outer s (strip H C) :=
  ⟨e0.frames, e0.mod, fun a o q => ⟨(e0.bs a o q).1, strip_none (e0.bs a o q).2⟩, e0.bsz, e0.funs, fun a q => strip_none (e0.frf a q), strip_ok e0.hok hC, e0.bare⟩
/-- behind what left the cells alone: they hold what they held -/
theorem back_ok (hC : CellsOf H C) (ok : HOk P w H hp) (ok' : HOk P w H' hq) (kp : ∀ c o, C c → hp.get? c = some o → hq.get? c = some o) (fr : ∀ c, C c → H' c = none) : HOk P w (back H H' C) hq := fun a o e => by
  have inn : ∀ {d : Addr} {u : HO}, H' d = some u → back H H' C d = some u := fun {d u} q => by
    rw [back_out fun z => by rw [fr d z] at q; cases q]; exact q
  by_cases z : C a
  · rw [back_in z] at e
    obtain ⟨v, g⟩ := hC a z
    rw [g] at e; cases e
    obtain ⟨y, r, ob, g1, g2⟩ := celO_at ok g
    exact celO_ok r ⟨ob, kp a ob z g1, g2⟩
  · rw [back_out z] at e
    exact (ok' a o e).stay (fun _ _ _ q => q) (fun d q => inn q) fun d xs q => inn q
theorem cells_there (hC : CellsOf H C) (ok : HOk P w H hp) {c : Addr} (z : C c) : ∃ o, hp.get? c = some o := by
  obtain ⟨v, g⟩ := hC c z
  obtain ⟨_, _, ob, g1, _⟩ := celO_at ok g
  exact ⟨ob, g1⟩
theorem back_un (hC : CellsOf H C) (u : Un fs [] (strip H C) H' hp hq) : Un fs [] H (back H H' C) hp hq where
  keep := fun a o q n hf hx => u.keep a o q (strip_none n) hf hx
  slot := fun a o q n hf hx => u.slot a o q (strip_none n) hf hx
  free := fun a o q n hx => by rw [back_out (hC.outN n)]; exact u.free a o q (strip_none n) hx
  there := u.there
  tups := fun a xs q => by
    have nz := hC.out q fun c v z => celO_tup z.symm
    rw [back_out nz]; exact u.tups a xs (by rw [strip_out nz]; exact q)
  frzs := fun a o v q => by
    have nz := hC.out q fun c v z => celO_frz z.symm
    rw [back_out nz]; exact u.frzs a o v (by rw [strip_out nz]; exact q)
  tbls := fun a ps q => by
    have nz := hC.out q fun c v z => celO_tbl z.symm
    obtain ⟨m, e⟩ := u.tbls a ps (by rw [strip_out nz]; exact q)
    exact ⟨m, by rw [back_out nz]; exact e⟩
theorem back_ub (hC : CellsOf H C) {B : Heap} (u : UB fs (strip H C) H' hp B hq) : UB fs H (back H H' C) hp B hq where
  keep := fun a o q n hf => u.keep a o q (strip_none n) hf
  slot := u.slot
  free := fun a o q n => by rw [back_out (hC.outN n)]; exact u.free a o q (strip_none n)
  there := u.there
  tups := fun a xs q => by
    have nz := hC.out q fun c v z => celO_tup z.symm
    rw [back_out nz]; exact u.tups a xs (by rw [strip_out nz]; exact q)
  frzs := fun a o v q => by
    have nz := hC.out q fun c v z => celO_frz z.symm
    rw [back_out nz]; exact u.frzs a o v (by rw [strip_out nz]; exact q)
  tbls := fun a ps q => by
    have nz := hC.out q fun c v z => celO_tbl z.symm
    obtain ⟨m, e⟩ := u.tbls a ps (by rw [strip_out nz]; exact q)
    exact ⟨m, by rw [back_out nz]; exact e⟩
/-- an exception that left the cells alone -/
theorem back_cx {outer : List Env} {s s' : Shared} {E : XK} {u : Value} (hC : CellsOf H C) (ok : HOk P w H s.heap) (frf : ∀ b ∈ frs outer, H b = none) (x : CX P w outer (strip H C) s (fun cls d H0 => (∀ c, C c → H0 c = none) → E cls d (back H H0 C)) u s') : CX P w outer H s E u s' := by
  obtain ⟨a, B, H1, cls, d, rfl, fl, okB, ub, na, os, ag, q⟩ := x
  have nfr : ∀ c, C c → c ∉ frs outer := fun c z m => by
    obtain ⟨v, g⟩ := hC c z
    rw [frf c m] at g; cases g
  have kB : ∀ c o, C c → s.heap.get? c = some o → B.get? c = some o := fun c o z g => ub.keep c o g (strip_in z) (nfr c z)
  have fB : ∀ c, C c → H1 c = none := fun c z => by
    obtain ⟨o, g⟩ := cells_there hC ok z
    exact ub.free c o g (strip_in z)
  refine ⟨a, B, back H H1 C, cls, d, rfl, fl, back_ok hC ok okB kB fB, back_ub hC ub, ?_, os, ag, q fB⟩
  rw [back_out fun z => ?_]
  · exact na
  · obtain ⟨o, g⟩ := cells_there hC ok z
    have g2 := kB a o z g
    rw [fl.2.1] at g2; cases g2
theorem back_ce {outer : List Env} {s s' : Shared} {Q : VK} {u : Value} (hC : CellsOf H C) (ok : HOk P w H s.heap) (frf : ∀ b ∈ frs outer, H b = none) (x : CE outer P w (strip H C) s (fun v H0 => (∀ c, C c → H0 c = none) → Q v (back H H0 C)) u s') : CE outer P w H s Q u s' := by
  obtain ⟨v, H1, os, ag, un, ok1, r, q⟩ := x
  have nfr : ∀ c, C c → c ∉ frs outer := fun c z m => by
    obtain ⟨v, g⟩ := hC c z
    rw [frf c m] at g; cases g
  have kB : ∀ c o, C c → s.heap.get? c = some o → s'.heap.get? c = some o := fun c o z g => un.keep c o g (strip_in z) (nfr c z) (by simp)
  have fB : ∀ c, C c → H1 c = none := fun c z => by
    obtain ⟨o, g⟩ := cells_there hC ok z
    exact un.free c o g (strip_in z) (by simp)
  exact ⟨v, back H H1 C, os, ag, back_un hC un, back_ok hC ok ok1 kB fB, r, q fB⟩
end

/-! ### a function with what it captured -/
structure LamAt (H : Hp) (f : Addr) (F : NF) (e : Expr) (fr : List Str) (ws : List V) : Prop where
  fn : H f = some (LamO f F e)
  cd : H F.c = some (CodeO F.c F.qual)
  len : ws.length = fr.length
  inj : ∀ x y c, F.cl.lookup x = some c → F.cl.lookup y = some c → x = y
  all : ∀ y c, F.cl.lookup y = some c → ∃ v, H c = some (CelO c v)
  has : ∀ (i : Nat) (y : Str), fr[i]? = some y → ∃ c, F.cl.lookup y = some c ∧ ∀ v, ws[i]? = some v → H c = some (CelO c v)
def ClP (F : NF) : Addr → Prop := fun c => ∃ y, F.cl.lookup y = some c
section
variable {P : Program} {w : World} {K : PySem.W.Frag} {mg : Str → Option Value} {base : Heap} {N fr : List Str} {F : NF} {f : Addr} {e : Expr} {ws : List V} {k : Nat} {H : Hp} {t : TE}
theorem LamAt.cells (L : LamAt H f F e fr ws) : CellsOf H (ClP F) := fun c ⟨y, z⟩ => L.all y c z
theorem LamAt.run (S : NScope N [] fr F.scope) (hb : ∀ pm ctv : Value, bindArgs (PySem.W.kla_fn "<lambda>" F.qual F.params e F.scope F.cl pm (.ref F.c) ctv) ⟨[], []⟩ = pure []) (L : LamAt H f F e fr ws) {A : Around} {outer : List Env} {s : Shared} {Q : VK} {E : XK}
    (hr : Room (k + 1) A) (e0 : Env0 P w K mg base A outer s H)
    (body : Room k (A.deeper (envF F f s.heap.objs.size)) → PE (ncx (L2.CX P w) P w K mg base N F f A outer s (strip H (ClP F)) fun cls d H0 => (∀ c, ClP F c → H0 c = none) → E cls d (back H H0 (ClP F))) e t)
    (q : t (startF N [] (ws.map some)) (strip H (ClP F)) fun v H0 => (∀ c, ClP F c → H0 c = none) → Q v (back H H0 (ClP F))) : codeAny (model P w) A (.call (.ref f) ⟨[], []⟩) (CR (L2.CX P w) outer P w H s Q E) s := by
  have hC := L.cells
  have e1 := strip_env e0 hC
  have lim : s.heap.NoLimit := e0.mod.nolimit.keeps fun a o g => (e0.bs a o g).1
  obtain ⟨pm, ctv, g⟩ := lamO_at e0.hok L.fn
  have cells : CellsAt F.cl fr (ws.map some) s.heap (strip H (ClP F)) := by
    refine ⟨by rw [List.length_map]; exact L.len, fun y c z => ?_, L.inj, fun i y z => ?_⟩
    · obtain ⟨v, g1⟩ := L.all y c z
      obtain ⟨u, _, g2⟩ := celO_at e0.hok g1
      exact ⟨strip_in ⟨y, z⟩, _, g2⟩
    · obtain ⟨c, g1, g2⟩ := L.has i y z
      refine ⟨c, g1, fun v ev => ?_⟩
      rw [List.getElem?_map] at ev
      cases ew : ws[i]? with
      | none => rw [ew] at ev; cases ev
      | some v' =>
        rw [ew] at ev
        cases ev
        exact celO_at e0.hok (g2 _ ew)
  refine PySem.W.kla_callFunE hr.depth g rfl S.co S.gen rfl (codeO_at e0.hok L.cd) ?_
  rw [hb pm ctv]
  refine wpAny_pure (wpAny_newFunctionEnv S.nocell (fun y hy => absurd hy (by simp)) (fun h1 hns hsb => ⟨lim.fresh _ hsb, ?_⟩) S.kind)
  show codeAny _ _ (.expr e (envF F f s.heap.objs.size)) _ _
  have kp : ∀ a o, s.heap.get? a = some o → h1.get? a = some o := fun a o z => hsb.extBut a o (Nat.ne_of_lt (Heap.lt_size z)) (Heap.get?_push_of_some _ z)
  have J : Inv (ncx (L2.CX P w) P w K mg base N F f A outer s (strip H (ClP F)) fun cls d H0 => (∀ c, ClP F c → H0 c = none) → E cls d (back H H0 (ClP F))) [] (startF N [] (ws.map some)) (strip H (ClP F)) { s with heap := h1, toks := s.toks + ([] : List (Str × Value)).length } :=
    inv_startN S hr.hd e1 rfl .nil cells hns kp
  refine PySem.W.kla_codeExpr (wpAny_mono ((body (hr.deeper _)).run [] _ _ _ _ J q) (fun v s' z => ?_) fun er s' z => wpAny_mono z (fun _ s2 z2 => ?_) fun e2 s2 z2 => ?_)
  · obtain ⟨x, H1, J1, rv, q1⟩ := z
    exact back_ce hC e0.hok e0.frf ⟨x, H1, J1.os, J1.bare, J1.base, J1.hok, rv, q1⟩
  · exact back_cx hC e0.hok e0.frf z2
  · exact back_cx hC e0.hok e0.frf z2
end

/-! ### a thing that can be called -/
structure Thunk (P : Program) (w : World) (K : PySem.W.Frag) (mg : Str → Option Value) (base : Heap) (k : Nat) (f : Addr) (H : Hp) (sp : VK → XK → Prop) : Prop where
  fn : ∀ hp, HOk P w H hp → PySem.W.FnAt f hp
  run : ∀ (A : Around) (outer : List Env) (s : Shared) (Q : VK) (E : XK), Room k A → Env0 P w K mg base A outer s H → sp Q E → codeAny (model P w) A (.call (.ref f) ⟨[], []⟩) (CR (L2.CX P w) outer P w H s Q E) s
theorem LamAt.thunk {P : Program} {w : World} {K : PySem.W.Frag} {mg : Str → Option Value} {base : Heap} {N fr : List Str} {F : NF} {f : Addr} {e : Expr} {ws : List V} {k : Nat} {H : Hp} {sp : VK → XK → Prop}
    (S : NScope N [] fr F.scope) (hb : ∀ pm ctv : Value, bindArgs (PySem.W.kla_fn "<lambda>" F.qual F.params e F.scope F.cl pm (.ref F.c) ctv) ⟨[], []⟩ = pure []) (L : LamAt H f F e fr ws)
    (body : ∀ (A : Around) (outer : List Env) (s : Shared) (Q : VK) (E : XK), Room k (A.deeper (envF F f s.heap.objs.size)) → sp Q E → ∃ t : TE,
      PE (ncx (L2.CX P w) P w K mg base N F f A outer s (strip H (ClP F)) fun cls d H0 => (∀ c, ClP F c → H0 c = none) → E cls d (back H H0 (ClP F))) e t ∧ t (startF N [] (ws.map some)) (strip H (ClP F)) fun v H0 => (∀ c, ClP F c → H0 c = none) → Q v (back H H0 (ClP F))) :
    Thunk P w K mg base (k + 1) f H sp := by
  refine ⟨fun hp ok => ?_, fun A outer s Q E hr e0 hs => ?_⟩
  · obtain ⟨pm, ctv, g⟩ := lamO_at ok L.fn
    exact ⟨_, _, _, _, g⟩
  · obtain ⟨t, ht, hq⟩ := body A outer s Q E (hr.deeper _) hs
    exact L.run (t := t) S hb hr e0 (fun _ => ht) hq
/-- x(), where the name x holds such a thing -/
theorem pe_thunk {X : Cx} {P : Program} {w : World} {K : PySem.W.Frag} {mg : Str → Option Value} {base : Heap} {W : WX} {k i : Nat} {x : Str} {p1 p2 : Pos} (q1 : X.prog = P) (q2 : X.w = w) (q3 : X.K = K) (q4 : X.mg = mg) (q5 : X.base = base) (hr : Room k X.A) (hN : X.N[i]? = some x) (hv : Vis X.env.scope x) (tk : Takes X W)
    (hd : (x == ("__debug__" : Str)) = false := by decide) (hcd : (x == ("__classdict__" : Str)) = false := by decide) :
    PE X (.Call (.Name x p1) [] [] p2) (fun σ H Q => ∃ f sp, σ[i]? = some (some (.ref f)) ∧ Thunk P w K mg base k f H sp ∧ sp Q fun cls d H' => W cls d σ H') := by
  subst q1 q2 q3 q4 q5
  refine ⟨fun pins s σ H Q I h => ?_⟩
  obtain ⟨f, sp, hs, th, hq⟩ := h
  refine wpAny_Call_Name_kw (thn ((pe_var (pos := p1) (i := i) hN hv hd hcd).run pins s σ H (fun v H1 => v = .ref f ∧ H1 = H) I ⟨.ref f, hs, rfl, rfl⟩) fun u s1 ⟨v, H1, I1, r1, q1⟩ => ?_)
  obtain ⟨ev, eH⟩ := q1
  subst ev
  rw [eH] at I1
  obtain rfl : u = Value.ref f := r1
  refine PySem.W.callWith_F0 (th.fn _ I1.hok) ?_
  show wpAny _ _ (call (.ref f) []) _ _ _
  refine wpAny_call (codeAny_mono (th.run X.A X.stack s1 Q _ hr I1.env0 hq) fun r s' z => ?_)
  cases r with
  | error er => exact tk er s' (XE.of_call I1 (fun _ _ _ y => y) z)
  | ok fl =>
    cases fl with
    | ret u => exact I1.after z
    | next => exact False.elim z
    | brk => exact False.elim z
    | cont => exact False.elim z
end LX
-- X2
namespace LX
open PySem PySem.Spec PyProof.Rows L2 LamX NdefX
section
variable {X : Cx} {pins : List (Addr × Obj)} {σ : L2.St} {H : Hp} {s : Shared}
/-- how the captured cells of a function lie to those of its maker -/
structure ClOk (cells : List (Str × Addr)) (F : NF) (fr : List Str) : Prop where
  inj : ∀ x y c, F.cl.lookup x = some c → F.cl.lookup y = some c → x = y
  sub : ∀ y c, F.cl.lookup y = some c → y ∈ fr ∧ cells.lookup y = some c
  has : ∀ y ∈ fr, ∃ c, F.cl.lookup y = some c ∧ cells.lookup y = some c
theorem clOk_of {scope : Scope} {fr : List Str} {nm ql : Str} {params : Arguments} {body : List Stmt} {c' : Addr} (ok : X.Ok) (hfree : ∀ y ∈ scope.names, y.2 = .free → X.env.scope.names.lookup y.1 = some .cell ∨ X.env.scope.names.lookup y.1 = some .free)
    (h1 : ∀ y ∈ scope.names, y.2 = .free → y.1 ∈ fr) (h2 : ∀ y ∈ fr, (y, NameKind.free) ∈ scope.names) : ClOk X.env.cells ⟨nm, ql, params, body, scope, cloFrom X.env.cells scope.names [], c'⟩ fr := by
  have hf : ∀ y ∈ scope.names, y.2 = .free → ∃ c, X.env.cells.lookup y.1 = some c := fun y hy z => (hfree y hy z).elim (fun q => ok.has _ (.inl q)) fun q => ok.has _ (.inr q)
  refine ⟨fun x y c a b => ok.inj x y c (clo_cm hf a) (clo_cm hf b), fun y c a => ⟨?_, clo_cm hf a⟩, fun y hy => ?_⟩
  · rcases cloFrom_mem (PySem.mem_of_lookup a) with m | ⟨m, _⟩
    · cases m
    · exact h1 _ m rfl
  · obtain ⟨c, hc⟩ := hf _ (h2 y hy) rfl
    exact ⟨c, clo_has hf (h2 y hy) hc, hc⟩
/-- the reading of a function without parameters, made here -/
def tMkLam (cells : List (Str × Addr)) (P : Addr) (q : Str) (fr : List Str) (e : Expr) (mk : Addr → NF) : TE := fun _ H Q => TabS H P q ∧ ∀ (f c' : Addr) (H1 : Hp), ExtN H H1 → (∀ b, H1 b = none → H b = none) → TabS H1 P q → H f = none →
  H1 f = some (LamO f (mk c') e) → H1 c' = some (CodeO c' q) → ClOk cells (mk c') fr → (∀ a ps, a ≠ P → H a = some (.tbl ps) → H1 a = some (.tbl ps)) → Q (.ref f) H1
def lamB (sc scope : Scope) (fr : List Str) : Bool := (scope.names.all fun y => !decide (y.2 = .free) || (decide (y.1 ∈ fr) && (decide (sc.names.lookup y.1 = some .cell) || decide (sc.names.lookup y.1 = some .free)))) && fr.all fun y => decide ((y, NameKind.free) ∈ scope.names)
theorem pe_mklam {sc : Scope} {fr : List Str} {c P : Addr} {params : Arguments} {body : Expr} {scope : Scope} {pos : Pos} (hsc : X.env.scope = sc) (TB : TabB X.base X.mg c P) (hcode : X.env.code = .ref c) (hB : lamB sc scope fr = true) (hdef : defaultsOf params X.env = ([], [])) :
    PE X (.Lambda params body scope pos) (tMkLam X.env.cells P (X.env.qual ++ "<lambda>") fr body fun c' => ⟨"<lambda>", X.env.qual ++ "<lambda>", params, [], scope, cloFrom X.env.cells scope.names [], c'⟩) := by
  unfold lamB at hB
  simp only [Bool.and_eq_true, Bool.or_eq_true, Bool.not_eq_true', decide_eq_true_eq, decide_eq_false_iff_not, List.all_eq_true] at hB
  have hfree : ∀ y ∈ scope.names, y.2 = .free → X.env.scope.names.lookup y.1 = some .cell ∨ X.env.scope.names.lookup y.1 = some .free := fun y hy z => by
    rw [hsc]; exact ((hB.1 y hy).resolve_left fun q => q z).2
  have h1 : ∀ y ∈ scope.names, y.2 = .free → y.1 ∈ fr := fun y hy z => ((hB.1 y hy).resolve_left fun q => q z).1
  have h2 : ∀ y ∈ fr, (y, NameKind.free) ∈ scope.names := hB.2
  refine ⟨fun pins s σ H Q I hw => ?_⟩
  obtain ⟨hT, h⟩ := hw
  have clok : ∀ c', ClOk X.env.cells ⟨"<lambda>", X.env.qual ++ "<lambda>", params, [], scope, cloFrom X.env.cells scope.names [], c'⟩ fr := fun c' => clOk_of I.ok hfree h1 h2
  have hfr : ∀ y ∈ scope.names, y.2 = .free → ∃ c, X.env.cells.lookup y.1 = some c := fun y hy z => (hfree y hy z).elim (fun q => I.ok.has _ (.inl q)) fun q => I.ok.has _ (.inr q)
  obtain ⟨ps, hP, ht, ha⟩ := id hT
  refine PySem.W.kla_eval hdef ?_
  have bP : s.heap.BuiltinsAt X.mg P := TB.bm.keeps I.bk
  have gP : s.heap.get? P = some { cls := .none, data := .fields ps } := I.hok P _ hP
  cases hc : codeAmong pos ps.toList with
  | none =>
    refine PySem.W.kla_makeFunction (mg := X.mg) (c := c) (P := P) (ps := ps) (closure_ok hfr) I.ok.glob (I.mod.glob.keeps I.bk) hcode (TB.code.keeps I.bk) gP ht hc TB.gP bP fun c' ctv h' tk hx hge hlt hrec htb => ?_
    obtain ⟨c2, oc, vs, t, z2, hoc, hd, hv⟩ := hrec
    cases z2
    have nC : H c' = none := I.hok.fresh hge
    have J := inv_table (t' := tk) (more := #[rawInt pos.line, rawInt pos.col, .ref c']) (h' := h') I hP (fun b o hb z => hx b o hb z) htb hge ⟨oc, vs, t, hoc, hd, hv⟩
    have nF := J.hok.fresh (Nat.le_refl h'.objs.size)
    have J2 := J.laid (a := h'.objs.size) (t' := tk) (o := LamO h'.objs.size ⟨"<lambda>", X.env.qual ++ "<lambda>", params, [], scope, cloFrom X.env.cells scope.names [], c'⟩ body)
      (h' := h'.push (PySem.W.kla_obj "<lambda>" (X.env.qual ++ "<lambda>") params body scope (cloFrom X.env.cells scope.names []) ((X.mg "__name__").getD .none) c' ctv)) (fun b u z => Heap.get?_push_of_some _ z) (Nat.le_refl _) (lamO_ok (Heap.get?_push_size _ rfl))
    have nPc : P ≠ c' := ne_of_none hP nC
    have nPf : P ≠ h'.objs.size := Nat.ne_of_lt (Heap.lt_size htb)
    have at1 : ∀ b, b ≠ P → b ≠ c' → b ≠ h'.objs.size → upd (upd (upd H P (.tbl (ps ++ #[rawInt pos.line, rawInt pos.col, .ref c']))) c' (CodeO c' (X.env.qual ++ "<lambda>"))) h'.objs.size (LamO h'.objs.size ⟨"<lambda>", X.env.qual ++ "<lambda>", params, [], scope, cloFrom X.env.cells scope.names [], c'⟩ body) b = H b :=
      fun b n1 n2 n3 => by rw [upd_ne n3, upd_ne n2, upd_ne n1]
    have nHf : H h'.objs.size = none := I.hok.fresh (Nat.le_trans hge (Nat.le_of_lt hlt))
    have eN : ExtN H (upd (upd (upd H P (.tbl (ps ++ #[rawInt pos.line, rawInt pos.col, .ref c']))) c' (CodeO c' (X.env.qual ++ "<lambda>"))) h'.objs.size (LamO h'.objs.size ⟨"<lambda>", X.env.qual ++ "<lambda>", params, [], scope, cloFrom X.env.cells scope.names [], c'⟩ body)) := fun b o z n => by
      rw [at1 b (fun q => n ps (Option.some.inj (z.symm.trans (by rw [q]; exact hP)))) (ne_of_none z nC) (ne_of_none z nHf)]; exact z
    have eC : upd (upd (upd H P (.tbl (ps ++ #[rawInt pos.line, rawInt pos.col, .ref c']))) c' (CodeO c' (X.env.qual ++ "<lambda>"))) h'.objs.size (LamO h'.objs.size ⟨"<lambda>", X.env.qual ++ "<lambda>", params, [], scope, cloFrom X.env.cells scope.names [], c'⟩ body) c' = some (CodeO c' (X.env.qual ++ "<lambda>")) := by
      rw [upd_ne (Nat.ne_of_lt hlt), upd_same]
    have eL : (ps ++ #[rawInt pos.line, rawInt pos.col, .ref c']).toList = ps.toList ++ [rawInt pos.line, rawInt pos.col, .ref c'] := by simp
    refine ⟨.ref h'.objs.size, _, J2, rfl, h h'.objs.size c' _ eN (fun b z => upd_none (upd_none (upd_none z))) ⟨_, by rw [upd_ne nPf, upd_ne nPc, upd_same], by rw [eL]; exact PySem.TriplesOk_snoc _ _ _ _ ht, fun p' cv hcv => ?_⟩ nHf upd_same eC (clok c') fun a qs na z => ?_⟩
    · rw [eL] at hcv
      rcases among_app _ ht hcv with y | y
      · obtain ⟨c0, y1, y2⟩ := ha p' cv y
        exact ⟨c0, y1, eN _ _ y2 codeO_ne⟩
      · exact ⟨c', y, eC⟩
    · rw [at1 a na (ne_of_none z nC) (ne_of_none z nHf)]; exact z
  | some cv =>
    obtain ⟨c', z, hco⟩ := ha pos cv hc
    subst z
    refine PySem.W.kla_makeFunctionHit (mg := X.mg) (c := c) (P := P) (ps := ps) (closure_ok hfr) I.ok.glob (I.mod.glob.keeps I.bk) hcode (TB.code.keeps I.bk) gP ht hc bP fun ctv h' tk hx hsz => ?_
    have J : Inv X pins σ H { s with heap := h', toks := tk } := I.kept hx
    have nHf : H h'.objs.size = none := J.hok.fresh (Nat.le_refl _)
    have J2 := J.laid (a := h'.objs.size) (t' := tk) (o := LamO h'.objs.size ⟨"<lambda>", X.env.qual ++ "<lambda>", params, [], scope, cloFrom X.env.cells scope.names [], c'⟩ body)
      (h' := h'.push (PySem.W.kla_obj "<lambda>" (X.env.qual ++ "<lambda>") params body scope (cloFrom X.env.cells scope.names []) ((X.mg "__name__").getD .none) c' ctv)) (fun b u z => Heap.get?_push_of_some _ z) (Nat.le_refl _) (lamO_ok (Heap.get?_push_size _ rfl))
    have eA : ∀ b o, H b = some o → upd H h'.objs.size (LamO h'.objs.size ⟨"<lambda>", X.env.qual ++ "<lambda>", params, [], scope, cloFrom X.env.cells scope.names [], c'⟩ body) b = some o := fun b o z => by rw [upd_ne (ne_of_none z nHf)]; exact z
    exact ⟨.ref h'.objs.size, _, J2, rfl, h h'.objs.size c' _ (ExtN.of eA) (fun b z => upd_none z) (hT.ext eA) nHf upd_same (eA _ _ hco) (clok c') fun a qs _ z => eA _ _ z⟩
end

/-! ### the end of a def that hands out what captured its parameters -/
theorem wp_app {M : Model} {Γ : PySem.Ctx} {env : Env} {Q : Flow → Pos → Shared → Prop} {E : Value → Pos → Shared → Prop} {post : List Stmt} : ∀ (pre : List Stmt) (p : Pos) (s : Shared),
    Sem.wp M Γ (execs pre env) (fun f p' s' => match f with | .next => Sem.wp M Γ (execs post env) Q E p' s' | f => Q f p' s') E p s → Sem.wp M Γ (execs (pre ++ post) env) Q E p s
  | [], _, _, h => h
  | st :: pre, p, s, h => by
    rw [execs_cons, Sem.wp_bind'] at h
    rw [List.cons_append, execs_cons, Sem.wp_bind']
    refine Sem.wp_mono M Γ _ (fun f p1 s1 z => ?_) (fun _ _ _ z => z) _ _ h
    cases f with
    | next => exact wp_app pre p1 s1 z
    | _ => exact z
theorem execs_app {M : Model} {A : Around} {E : Value → Shared → Prop} {env : Env} {Q : Flow → Shared → Prop} {pre post : List Stmt} {s : Shared}
    (h : wpAny M A (execs pre env) (fun f s' => match f with | .next => wpAny M A (execs post env) Q E s' | f => Q f s') E s) : wpAny M A (execs (pre ++ post) env) Q E s := fun Γ p hΓ => by
  refine wp_app pre p s (Sem.wp_mono M Γ _ (fun f p1 s1 z => ?_) (fun _ _ _ z => z) _ _ (h Γ p hΓ))
  cases f with
  | next => exact z Γ p1 hΓ
  | _ => exact z

/-- the names' cells of a def that is entered at s -/
abbrev cellsAt (s : Shared) (sc : Scope) : List (Str × Addr) := cellsFrom (s.heap.objs.size + 1) sc.names []
open Classical in
/-- the heap with the parameters' cells -/
noncomputable def withCells (cells : List (Str × Addr)) (ps : List Str) (vs : List V) (H : Hp) : Hp := fun b =>
  if h : ∃ (y : Str) (i : Nat) (v : V), cells.lookup y = some b ∧ ps[i]? = some y ∧ vs[i]? = some v then some (CelO b h.choose_spec.choose_spec.choose) else H b
theorem withCells_at {cells : List (Str × Addr)} {ps : List Str} {vs : List V} {H : Hp} (inj : ∀ x y c, cells.lookup x = some c → cells.lookup y = some c → x = y) (nd : ps.Nodup) {y : Str} {i : Nat} {v : V} {b : Addr} (h1 : cells.lookup y = some b) (h2 : ps[i]? = some y) (h3 : vs[i]? = some v) :
    withCells cells ps vs H b = some (CelO b v) := by
  have h : ∃ (y : Str) (i : Nat) (v : V), cells.lookup y = some b ∧ ps[i]? = some y ∧ vs[i]? = some v := ⟨y, i, v, h1, h2, h3⟩
  have key : ∀ (y' : Str) (i' : Nat) (v' : V), cells.lookup y' = some b → ps[i']? = some y' → vs[i']? = some v' → v' = v := fun y' i' v' g1 g2 g3 => by
    obtain rfl := inj _ _ _ g1 h1
    obtain rfl := nodup_ix nd g2 h2
    exact Option.some.inj (g3.symm.trans h3)
  unfold withCells
  rw [dif_pos h]
  obtain ⟨g1, g2, g3⟩ := h.choose_spec.choose_spec.choose_spec
  exact congrArg (fun z => some (CelO b z)) (key _ _ _ g1 g2 g3)
theorem withCells_out {cells : List (Str × Addr)} {ps : List Str} {vs : List V} {H : Hp} {b : Addr} (h : ∀ y, cells.lookup y ≠ some b) : withCells cells ps vs H b = H b := by
  unfold withCells
  rw [dif_neg fun ⟨y, _, _, g, _⟩ => h y g]
theorem withCells_cases (cells : List (Str × Addr)) (ps : List Str) (vs : List V) (H : Hp) (b : Addr) : (∃ (y : Str) (i : Nat) (v : V), cells.lookup y = some b ∧ ps[i]? = some y ∧ vs[i]? = some v ∧ withCells cells ps vs H b = some (CelO b v)) ∨ withCells cells ps vs H b = H b := by
  by_cases h : ∃ (y : Str) (i : Nat) (v : V), cells.lookup y = some b ∧ ps[i]? = some y ∧ vs[i]? = some v
  · refine .inl ⟨_, _, _, h.choose_spec.choose_spec.choose_spec.1, h.choose_spec.choose_spec.choose_spec.2.1, h.choose_spec.choose_spec.choose_spec.2.2, ?_⟩
    unfold withCells
    rw [dif_pos h]
  · refine .inr ?_
    unfold withCells
    rw [dif_neg h]
section
open LC
variable {P : Program} {w : World} {K : PySem.W.Frag} {mg : Str → Option Value} {base : Heap} {x : Str} {st : Stmt} {f c : Addr} {fd : FuncData} {N ps : List Str} {k j : Nat} {sp : Sp} {pre : List Stmt} {y : Str} {p1 p2 : Pos}
theorem okCells (F : FunC K x st f fd c) (S : FnScope N ps (defScope st)) (len : ∀ vs H Q E, sp vs H Q E → vs.length = ps.length) (hbd : defBody st = pre ++ [.Return (some (.Name y p1)) p2]) (hj : N[j]? = some y) (hy : Vis (defScope st) y)
    (hc : ∀ z ∈ ps, (defScope st).names.lookup z = some .cell)
    (hbody : ∀ (A : Around) (outer : List Env) (s : Shared) (H : Hp) (vs : List V) (Q : VK) (E : XK), Room k (A.deeper (envOfC x (defScope st) s.heap.objs.size f (.ref c))) → sp vs H Q E →
      ∃ t, PSs (cxOf CX0 P w K mg base N x (defScope st) f (.ref c) A outer s H E).nox pre t ∧ t { nx := fun σ1 H1 => ∃ v, σ1[j]? = some (some v) ∧ (∀ (i : Nat) (u : V), vs[i]? = some u → σ1[i]? = some (some u)) ∧
        ∀ H2, (∀ b o, H1 b = some o → H2 b = some o) → (∀ b, H2 b = none → H1 b = none) → (∀ (i : Nat) (z : Str) (b : Addr) (u : V), ps[i]? = some z → (cellsAt s (defScope st)).lookup z = some b → vs[i]? = some u → H2 b = some (CelO b u)) → Q v H2, rt := fun _ _ => False } (start N vs) H)
    (hd : (y == ("__debug__" : Str)) = false := by decide) (hcd : (y == ("__classdict__" : Str)) = false := by decide) : FnOk P w K mg base CX0 (k + 1) f fd ps sp := by
  obtain ⟨oc, od, kV, doc, pm, an, ct, osl, rfl, lk, hcode⟩ := F.ex
  refine ⟨len, fun A outer s H args us vs Q E hr e0 hb r hsp => ?_⟩
  have hl := len _ _ _ _ hsp
  have KX : K.In s.heap := e0.mod.kin.keeps fun b o g => (e0.bs b o g).1
  have lim : s.heap.NoLimit := e0.mod.nolimit.keeps fun b o g => (e0.bs b o g).1
  have hpl : ps.length ≤ N.length := by have := congrArg List.length S.pre; rw [List.length_take] at this; omega
  have ndP : ps.Nodup := by rw [← S.pre]; exact S.nd.sublist (List.take_sublist _ _)
  have hkind : ∀ z ∈ ps.zip us, (defScope st).names.lookup z.1 = some .local ∨ ((defScope st).names.lookup z.1 = some .cell ∧ ((cellsFrom (s.heap.objs.size + 1) (defScope st).names []).lookup z.1).isSome = true) := fun ⟨n, v⟩ hz =>
    .inr ⟨hc n (List.of_mem_zip hz).1, PySem.W.cellsFrom_some _ _ _ (.inl (hc n (List.of_mem_zip hz).1))⟩
  refine codeAny_call_function hr.depth (KX _ _ lk) rfl S.co S.gen rfl (PySem.W.codeRec_of KX hcode) (hb _ _ _ _ ?_)
  refine wpAny_newFunctionEnv_cells S.kind hkind fun env he s1 xc => ?_
  subst he
  refine ⟨lim.keeps xc.toInCall.keep, codeAny_func ?_⟩
  obtain ⟨t, ht, hq⟩ := hbody A outer s H vs Q E (hr.deeper _) hsp
  have I := inv_start (CX := CX0) (N := N) (E := E) S hr.hd e0 hl r xc
  show wpAny _ _ (execs (defBody st) _) _ _ _
  rw [hbd]
  refine execs_app (wpAny_mono (ht.run [] s1 (start N vs) H _ (I.wish _) hq) (fun fl s2 hs => ?_) fun _ _ z => False.elim z)
  cases fl with
  | ret u =>
    obtain ⟨_, _, _, _, _, q⟩ := hs
    exact False.elim q
  | brk =>
    obtain ⟨_, _, _, q⟩ := hs
    exact False.elim q
  | cont =>
    obtain ⟨_, _, _, q⟩ := hs
    exact False.elim q
  | next =>
    obtain ⟨σ1, H1, J', v, hv, hvs, q⟩ := hs
    have J := J'.unwish
    refine wpAny_execs_cons (wpAny_Return_some (thn ((pe_var (pos := p1) hj hy hd hcd).run [] s2 σ1 H1 (fun v' H' => v' = v ∧ H' = H1) J ⟨v, hv, rfl, rfl⟩) fun u s3 ⟨v', H', J3, rv, ev, eH⟩ => ?_))
    subst ev
    rw [eH] at J3
    have injC : ∀ a b c', (cellsAt s (defScope st)).lookup a = some c' → (cellsAt s (defScope st)).lookup b = some c' → a = b := J3.ok.inj
    have freeC : ∀ a c', (cellsAt s (defScope st)).lookup a = some c' → H1 c' = none := J3.freeC
    have upC : ∀ a c', (cellsAt s (defScope st)).lookup a = some c' → s.heap.objs.size ≤ c' := fun a c' g => J3.ok.cab a c' rfl g
    have inn : ∀ b o, H1 b = some o → withCells (cellsAt s (defScope st)) ps vs H1 b = some o := fun b o g => by
      rw [withCells_out fun a z => by rw [freeC a b z] at g; cases g]; exact g
    refine ⟨v', withCells (cellsAt s (defScope st)) ps vs H1, J3.os, J3.bare, ?_, fun b o g => ?_, rv, q _ inn (fun b g => ?_) fun i z b u g1 g2 g3 => withCells_at injC ndP g2 g1 g3⟩
    · have B : Un (frs outer) [] H H1 s.heap s3.heap := J3.base
      refine ⟨B.keep, B.slot, fun b o g n hx => ?_, B.there, fun b xs g => inn b _ (B.tups b xs g), fun b o z g => inn b _ (B.frzs b o z g), fun b qs g => ?_⟩
      · rw [withCells_out fun a z => absurd (Nat.lt_of_lt_of_le (Heap.lt_size g) (upC a b z)) (Nat.lt_irrefl _)]
        exact B.free b o g n hx
      · obtain ⟨m, e⟩ := B.tbls b qs g
        exact ⟨m, inn b _ e⟩
    · rcases withCells_cases (cellsAt s (defScope st)) ps vs H1 b with ⟨z, i, u, g1, g2, g3, g4⟩ | g4
      · rw [g4] at g
        cases g
        obtain ⟨m, hn, hlk⟩ := J3.loc
        have hz : N[i]? = some z := by
          have hi : i < ps.length := (List.getElem?_eq_some_iff.mp g2).1
          rw [← S.pre, List.getElem?_take_of_lt hi] at g2; exact g2
        obtain ⟨u', ru, lk'⟩ := hlk i z u hz (hvs i u g3) (.inr (.inl (hc z (List.mem_of_getElem? g2))))
        rcases lk' with ⟨k1, _⟩ | ⟨_, c2, e2, hcell⟩
        · have k1' : (defScope st).names.lookup z = some .local := k1
          rw [hc z (List.mem_of_getElem? g2)] at k1'; cases k1'
        · have e2' : (cellsAt s (defScope st)).lookup z = some c2 := e2
          rw [g1] at e2'; cases e2'
          exact celO_ok ru hcell
      · rw [g4] at g
        exact (J3.hok b o g).stay (fun _ _ _ z => z) (fun d z => inn d _ z) fun d xs z => inn d _ z
    · rcases withCells_cases (cellsAt s (defScope st)) ps vs H1 b with ⟨z, i, u, g1, g2, g3, g4⟩ | g4
      · rw [g4] at g; cases g
      · rw [g4] at g; exact g
end
end LX
-- R1
/-! Base.__init__(self, ..) where Base is an own class over ValueError without an own __init__. -/
namespace L2
open PySem PySem.Spec PyProof.Rows
section
variable {X : Cx} {e : Expr} {es : List Expr} {ta : TA} {p1 p2 pos : Pos}
theorem pe_oinit {pl : Sem Bool} {B : Str} {CB : Addr} (hg : Gl X B) (hm : X.mg B = some (.ref CB))
    (sp : PySem.W.specialIn X.K (.ref CB) "__getattribute__" = some (some (.builtin "type.__getattribute__")))
    (mt : PySem.W.typeIn X.K (.ref CB) = some (.type "type")) (hr : PySem.W.readsIn X.K CB (.type "type") = true)
    (vV : PySem.W.findCls X.K (.ref CB) (.type "type") "__init__" = some (.val (.builtin "ValueError.__init__"))) (ha : PA X (e :: es) ta)
    (hdb : (B == ("__debug__" : Str)) = false := by decide)
    (hc : eval (.Call (.Attribute (.Name B p1) "__init__" p2) (e :: es) [] pos) X.env = (do
      let ov ← eval (.Name B p1) X.env
      standAt p2.atName
      let (f, first) ← holding [ov] (getMethod ov "__init__" pl)
      callWith pos f first (backTo pos (starEach (e :: es) X.env)) (backToKw pos (keywordEach [] X.env))) := by rfl)
    (he : starEach (e :: es) X.env = (false, eval e X.env) :: starEach es X.env := by rfl) (hpl : (backTo pos (starEach es X.env)).any (·.1) = false := by rfl) :
    PE X (.Call (.Attribute (.Name B p1) "__init__" p2) (e :: es) [] pos) (tVeI X.K ta) := by
  refine ⟨fun pins s σ H Q I h => ?_⟩
  refine PySem.W.methodCall_KW (ld_glob I hg hm ?_ hdb) hc
  obtain ⟨m, fr⟩ := I.fr
  refine PySem.W.method_of_cls fr I.ok.mod.kin sp (PySem.W.cls_val fr I.ok.mod.kin mt hr vV (by decide +kernel) ?_)
  show wpAny _ _ (callWith pos (Value.builtin "ValueError.__init__") [] (backTo pos (starEach (e :: es) X.env)) []) _ _ _
  refine PyProof.Rows.callWith_method1 (thn (ha.run pos pins _ σ H _ (I.tok _) h) fun us s1 ⟨vs, H1, I1, r1, a, C, ws, ev, hl, T, ea, q⟩ => ?_) he hpl
  subst ev
  cases r1 with
  | @cons _ u0 _ ur ra rw' =>
    obtain rfl : u0 = Value.ref a := ra
    have hlen : ur.length ≤ sizeLine := by
      rw [← Paired.length rw', sizeLine_eq]
      omega
    exact oinit_ok T I1 ea hlen fun s' J => ⟨.non, H1, J, rfl, q⟩
end
end L2
-- X3
/-! errors of the program's own classes: raised, caught, asked for their class -/
namespace LX
open PySem PySem.Spec PyProof.Rows L2 LC
abbrev veB : List Value := [.type "ValueError", .type "Exception", .type "BaseException", .type "object"]
/-- what the written part says of an error class -/
structure ErrK (K : PySem.W.Frag) (C : Addr) : Prop where
  kp : PySem.W.keepIn K (.ref C) = true
  ba : PySem.W.subIn K (.ref C) (.type "BaseException") = some true
  ty : PySem.W.typeIn K (.ref C) = some (.type "type")
  hd : PySem.W.hasDictIn K C = true
  ga : PySem.W.findIn K (.ref C) "__getattribute__" = some (some (.builtin "BaseException.__getattribute__"))
  gg : PySem.W.findIn K (.ref C) "__getattr__" = some none
  ca : PySem.W.findIn K (.ref C) "__class__" = some (some (.builtin "object.__class__"))
  cg : PySem.W.specialIn K (.builtin "object.__class__") "__get__" = some (some (.builtin "getset_descriptor.__get__"))
  ct : PySem.W.takesIn K (.builtin "object.__class__") = some true
  ob : PySem.W.mroIn K C (.type "object") = some true
/-- the error class named x stands at C -/
structure ErrC (K : PySem.W.Frag) (mg : Str → Option Value) (x : Str) (C : Addr) : Prop extends ErrK K C where
  g : mg x = some (.ref C)
/-- .. and has no own way of being made -/
structure ErrP (K : PySem.W.Frag) (mg : Str → Option Value) (x : Str) (C : Addr) : Prop extends ErrC K mg x C where
  ex : PySem.W.excIn K C veB "ValueError.__new__" = true
section
variable {X : Cx} {x m : Str} {C : Addr} {j : Nat} {p p2 pos : Pos}
theorem pmk_txt (T : ErrP X.K X.mg x C) (hg : Gl X x) (hdb : (x == ("__debug__" : Str)) = false := by decide) : PMk X (.Call (.Name x p) [.Constant (.str m) j p2] [] pos) (fun _ H Q => Q (.ref C) none H) :=
  pmk_own PySem.F.excBase_ValueError T.ex T.g T.kp (raises_own T.ba T.ty) hg hdb
/-- an error class by its name -/
theorem pe_cls (T : ErrC X.K X.mg x C) (hg : Gl X x) (hdb : (x == ("__debug__" : Str)) = false := by decide) : PE X (.Name x pos) (tC (.ref C)) := pe_glob hg T.g rfl hdb
end
/-! ### who raises what -/
structure CalleeR (P : Program) (w : World) (K : PySem.W.Frag) (mg : Str → Option Value) (base : Heap) (x : Str) (k : Nat) (ps : List Str) (sp : Sp) : Prop where
  ex : ∃ f fd, mg x = some (.ref f) ∧ PySem.W.keepIn K (.ref f) = true ∧ Binds K fd ps [] ∧ FnOk P w K mg base (L2.CX P w) k f fd ps sp
theorem CalleeR.imp {P : Program} {w : World} {K : PySem.W.Frag} {mg : Str → Option Value} {base : Heap} {x : Str} {k : Nat} {ps : List Str} {sp sp' : Sp} (C : CalleeR P w K mg base x k ps sp) (h : ∀ vs H Q E, sp' vs H Q E → sp vs H Q E) : CalleeR P w K mg base x k ps sp' := by
  obtain ⟨f, fd, h1, h2, h3, F⟩ := C.ex
  exact ⟨f, fd, h1, h2, h3, F.imp h⟩
theorem pe_callR {X : Cx} {W : WX} {x : Str} {j k : Nat} {ps : List Str} {sp : Sp} {p pos : Pos} {e : Expr} {es : List Expr} {t : TA} (tk : Takes X W) (C : CalleeR X.prog X.w X.K X.mg X.base x j ps sp) (hr : Room k X.A) (hg : Gl X x) (ha : PA X (e :: es) t)
    (hle : j ≤ k := by decide) (hdb : (x == ("__debug__" : Str)) = false := by decide) (he : starEach (e :: es) X.env = (false, eval e X.env) :: starEach es X.env := by rfl) (hpl : (backTo pos (starEach es X.env)).any (·.1) = false := by rfl) :
    PE X (.Call (.Name x p) (e :: es) [] pos) (tCallS sp (WE W) t) := by
  obtain ⟨f, fd, hm, hk, hb, F⟩ := C.ex
  exact pe_callS (F.mono hle) hr hg hm hk hb (fun σ => passAt tk σ) ha hdb he hpl
section
variable {P : Program} {w : World} {K : PySem.W.Frag} {mg : Str → Option Value} {base : Heap} {x : Str} {st : Stmt} {f c : Addr} {fd : FuncData} {N ps : List Str} {k : Nat} {sp : Sp}
/-- a def that may raise -/
theorem okR (F : FunC K x st f fd c) (S : FnScope N ps (defScope st)) (len : ∀ vs H Q E, sp vs H Q E → vs.length = ps.length)
    (hbody : ∀ (A : Around) (outer : List Env) (s : Shared) (H : Hp) (vs : List V) (Q : VK) (E : XK), Room k (A.deeper (envOfC x (defScope st) s.heap.objs.size f (.ref c))) → sp vs H Q E →
      ∃ t, PSs (cxOf (L2.CX P w) P w K mg base N x (defScope st) f (.ref c) A outer s H E) (defBody st) t ∧ t { nx := fun _ H' => Q .non H', rt := Q } (start N vs) H) : FnOk P w K mg base (L2.CX P w) (k + 1) f fd ps sp := by
  obtain ⟨oc, od, kV, doc, pm, an, ct, osl, rfl, lk, hcd⟩ := F.ex
  exact fn_of lk hcd S len fun A outer s H vs Q E hr hsp => hbody A outer s H vs Q E hr hsp
theorem calleeR (F : FunC K x st f fd c) (hm : mg x = some (.ref f)) (G : FnOk P w K mg base (L2.CX P w) k f fd ps sp) (h : ∀ (kV doc pm : Value) (an : Option Addr) (cdv ct : Value) (us : List Value), us.length = ps.length → bindArgs (PySem.W.fnOf x x (defArgs st) (defBody st) (defScope st) .none kV doc pm an cdv ct) ⟨us, []⟩ = pure (ps.zip us)) :
    CalleeR P w K mg base x k ps sp := ⟨f, fd, hm, F.kp, F.binds h, G⟩
end

/-! ### within an except suite: the class of what was caught -/
/-- the error at a, of the class cls, its dict d (if it has one) stands -/
def HasD (H : Hp) : Option Addr → Prop
  | none => True
  | some dd => ∃ fs, H dd = some (.xd fs)
def rIsX (K : PySem.W.Frag) (cls : Value) (d : Option Addr) (a : Addr) : List V → Hp → VK → Prop := fun xs H Q => ∃ (D : Addr) (c : V) (cv : Value) (b : Bool), cls = .ref D ∧ ErrK K D ∧ HasD H d ∧ xs = [.ref a, c] ∧ (∀ u, RelV c u → u = cv) ∧ PySem.W.kitOne K (.ref D) cv = some b ∧ Q (.bl b) H
theorem call_isX {X : Cx} {a : Addr} {cls : Value} {d : Option Addr} {oe : Obj} {pn : List (Addr × Obj)} (hz : Zc cls d oe) (hf : ∃ vs, oe.data = .fields vs) : CallR (X.suite a ((a, oe) :: pn)) (.builtin "isinstance") (rIsX X.K cls d a) := by
  intro pins s σ H xs us Q I r h
  obtain ⟨D, c, cv, b, rfl, T, hD, rfl, hcv, e, q⟩ := h
  cases r with
  | cons rx rr =>
    cases rr with
    | cons rt rr =>
      cases rr
      cases rx
      have ec := hcv _ rt
      subst ec
      obtain ⟨hget, _⟩ := I.pin (a, oe) (List.mem_append.mpr (.inl List.mem_cons_self))
      obtain ⟨vs, hv⟩ := hf
      obtain ⟨od, J⟩ : ∃ od, PySem.W.InstAt s.heap a oe D od := by
        cases d with
        | none => exact ⟨none, hget, hz.1, by unfold PySem.W.notCls; rw [hv] <;> rfl, by rw [hz.2]; trivial⟩
        | some dd =>
          obtain ⟨fs, ea⟩ := hD
          have hx : ObjOk X.prog X.w H s.heap dd (.xd fs) := I.hok dd _ ea
          obtain ⟨mA, hns, hr⟩ := hx
          obtain ⟨od, ho, hl⟩ := lookIn_ns hns
          exact ⟨some od, hget, hz.1, by unfold PySem.W.notCls; rw [hv] <;> rfl, by rw [hz.2]; exact ho⟩
      have hcl : (PySem.W.clsIn X.K D).isSome = true := by
        have z := T.hd
        unfold PySem.W.hasDictIn at z
        cases y : PySem.W.clsIn X.K D with
        | none => rw [y] at z; cases z
        | some _ => rfl
      exact PySem.W.kia_one (PySem.W.kitx_exc hcl T.ga T.gg T.ba T.ca T.cg T.ct T.ob) I.kIn J e (fun z => nomatch z) fun tk => ⟨.bl b, H, I.kept (t' := tk) fun _ _ z => z, rfl, q⟩
/-- e.f, e the error that the suite holds -/
def tXfX (K : PySem.W.Frag) (a : Addr) (cls : Value) (d : Option Addr) (f : Str) (te : TE) : TE := fun σ H Q => te σ H fun x H1 => x = .ref a ∧ ∃ (C dd : Addr) (fs : List (Str × V)) (v : V), cls = .ref C ∧ ErrK K C ∧ PySem.W.findIn K (.ref C) f = some none ∧ d = some dd ∧ H1 dd = some (.xd fs) ∧ fs.lookup f = some v ∧ Q v H1
theorem pe_xfX {X : Cx} {a : Addr} {oe : Obj} {cls : Value} {d : Option Addr} {pn : List (Addr × Obj)} {e : Expr} {te : TE} {pos : Pos} {n : Str}
    (hz : Zc cls d oe) (hf : ∃ vs, oe.data = .fields vs) (he : PE (X.suite a ((a, oe) :: pn)) e te) (hb : attributeBase e n X.env (eval e X.env) = eval e X.env := by rfl) :
    PE (X.suite a ((a, oe) :: pn)) (.Attribute e n pos) (tXfX X.K a cls d n te) := by
  refine ⟨fun pins s σ H Q I h => ?_⟩
  refine attr_of hb (thn (he.run pins s σ H _ I h) fun u s1 hh => ?_)
  obtain ⟨x, H1, I1, rx, ex, C, dd, fs, v, ec, T, hno, ed, ea, l, q⟩ := hh
  subst ex
  obtain rfl : u = Value.ref a := rx
  subst ec
  subst ed
  obtain ⟨ha, _⟩ := I1.pin (a, oe) (List.mem_append_left _ List.mem_cons_self)
  obtain ⟨vs, hd⟩ := hf
  have hx : ObjOk X.prog X.w H1 s1.heap dd (.xd fs) := I1.hok dd _ ea
  obtain ⟨mA, hns, hr⟩ := hx
  obtain ⟨od, ho, hl⟩ := lookIn_ns hns
  obtain ⟨u, hu, ru⟩ := RelO.some_of (v := v) (o := mA n) (by rw [← l]; exact hr n)
  have J : PySem.W.InstAt s1.heap a oe C (some od) := ⟨ha, hz.1, by unfold PySem.W.notCls; rw [hd] <;> rfl, by rw [hz.2]; exact ho⟩
  exact HandSPX.exc_get I1.kIn J T.ga T.gg T.ba (PySem.W.findObj_own T.hd hno rfl (by rw [hl, hu])) (handed_of ru) ⟨v, H1, I1.tok _, ru, q⟩
end LX
-- X4
namespace LX
open PySem PySem.Spec PyProof.Rows L2 LC
section
variable {P : Program} {w : World} {K : PySem.W.Frag} {mg : Str → Option Value} {base : Heap} {CXa : CXT} {k j : Nat} {f : Addr} {fd : FuncData} {ps : List Str} {sp sp' : Sp} {x : Str}
/-- what never raises may stand where errors are awaited -/
theorem fn_up (F : FnOk P w K mg base CX0 k f fd ps sp) : FnOk P w K mg base CXa k f fd ps sp := ⟨F.len, fun A outer s H args us vs Q E hr e0 hb r h => codeAny_mono (F.run A outer s H args us vs Q E hr e0 hb r h) fun r s' z => by
  cases r with
  | error e => exact False.elim z
  | ok fl => cases fl <;> exact z⟩
theorem fn_or (F : FnOk P w K mg base CXa k f fd ps sp) (G : FnOk P w K mg base CXa k f fd ps sp') : FnOk P w K mg base CXa k f fd ps (fun vs H Q E => sp vs H Q E ∨ sp' vs H Q E) :=
  ⟨fun vs H Q E h => h.elim (F.len vs H Q E) (G.len vs H Q E), fun A outer s H args us vs Q E hr e0 hb r h => h.elim (F.run A outer s H args us vs Q E hr e0 hb r) (G.run A outer s H args us vs Q E hr e0 hb r)⟩
theorem _root_.LC.Callee.up (C : Callee P w K mg base x k ps sp) : CalleeR P w K mg base x k ps sp := by
  obtain ⟨f, fd, h1, h2, h3, F⟩ := C.ex
  exact ⟨f, fd, h1, h2, h3, fn_up F⟩
end

/-! ### how many are True -/
theorem bools_of_vals : ∀ {bs : List Bool} {us : List Value}, Vals (bs.map V.bl) us → us = bs.map Value.bool
  | [], _, r => by cases r; rfl
  | b :: bs, _, r => by
    cases r with
    | cons r1 rr =>
      cases r1
      rw [bools_of_vals rr]; rfl
theorem count_bools (k : Bool) : ∀ bs : List Bool, (bs.map Value.bool).countP (eqU (.bl k)) = bs.count k
  | [] => rfl
  | b :: bs => by
    have e : eqU (.bl k) (Value.bool b) = (b == k) := rfl
    rw [List.map_cons, List.countP_cons, count_bools k bs, e, List.count_cons]
def rCntB (K : PySem.W.Frag) : V → List V → Hp → VK → Prop := fun x xs H Q => ∃ (p : Addr) (bs : List Bool) (k : Bool), x = .ref p ∧ xs = [.bl k] ∧ SqL K H p (bs.map V.bl) ∧ Q (.int (bs.count k : Nat)) H
theorem mt_countB {X : Cx} : MtR X "list.count" (rCntB X.K) := by
  intro pins s σ H x xs v us Q I rx rxs h
  obtain ⟨p, bs, k, rfl, rfl, hs, q⟩ := h
  cases rx
  obtain ⟨u, rfl, ru⟩ := rxs.one
  cases ru
  obtain ⟨its, rv, ⟨⟨cls, dd, data, sl⟩, n, ho, hc, hdn, hd⟩, hlen⟩ := I.list hs
  simp only at hc hd
  subst hc hd
  have fl : (bs.map V.bl).all flatV = true := by rw [List.all_eq_true]; intro y hy; obtain ⟨b, _, rfl⟩ := List.mem_map.mp hy; rfl
  refine call_meets PySem.F.slot_list_count ⟨_, ho, rfl⟩ PySem.F.entry_list_count (PySem.F.args_list_count_2 _ _)
    (SeqAt.list_countAt p its.toArray n dd sl (.bool k) (eqU (.bl k))) ⟨ho, fun y hy => mem_eqAt (x := .bl k) rfl rfl rv fl y (by simpa using hy), ?_⟩
  have ec : its.toArray.toList.countP (eqU (.bl k)) = bs.count k := by
    have e := bools_of_vals rv
    show its.countP _ = _
    rw [e]; exact count_bools k bs
  refine ⟨.int (bs.count k : Nat), H, I.tok _, ⟨s.toks, ?_⟩, q⟩
  show Value.int ((its.toArray.toList.countP (eqU (.bl k)) : Nat) : Int) s.toks = Value.int ((bs.count k : Nat) : Int) s.toks
  rw [ec]

/-- a method, its reading by the written part's own name -/
theorem pe_bmK {X : Cx} {K : PySem.W.Frag} {o e : Expr} {es : List Expr} {to : TE} {t : TA} {name : Str} {apos cpos : Pos} {T id : String} (r : PySem.W.Frag → V → List V → Hp → VK → Prop) (pa : PlainAttrs T) (slot : Slot T name id) (hty : typeOf (.builtin id) = pure (.type "method_descriptor")) (hm : MtR X id (r X.K)) (ho : PE X o to) (ha : PA X (e :: es) t) (q : X.K = K)
    (hbase : attributeBase o name X.env (eval o X.env) = eval o X.env := by rfl)
    (hfew : ((backTo cpos (starEach (e :: es) X.env)).all (fun x => !x.1) && (backToKw cpos (keywordEach [] X.env)).all (fun x => x.1.isSome)
      && decide ((e :: es).length + ([] : List Keyword).length + (if ([] : List Keyword).isEmpty then 0 else 1) < 30)) = true := by rfl)
    (hline : (apos.endLine == cpos.line) = true := by rfl) (hs : starEach (e :: es) X.env = (false, eval e X.env) :: starEach es X.env := by rfl) (hplain : (backTo cpos (starEach es X.env)).any (·.1) = false := by rfl) :
    PE X (.Call (.Attribute o name apos) (e :: es) [] cpos) (tBM K T (r K) to t) := by
  subst q
  exact pe_bm pa slot hty hm ho ha hbase hfew hline hs hplain

/-! ### an error class that keeps one field -/
/-- what may stand in the text of such an error -/
def FmtV : V → Prop
  | .str y => y.length ≤ 1000
  | .int i => 0 ≤ i ∧ i ≤ 99
  | .non => True
  | _ => False
/-- its text -/
def fmtT : V → Option Str
  | .str y => some y
  | .int i => some (toString i)
  | .non => some "None"
  | _ => none
theorem small_len : ∀ i : Fin 100, (toString ((i.val : Nat) : Int) : Str).length ≤ 1000 := by decide +kernel
theorem fmt_ok {v : V} (h : FmtV v) : ∃ y, fmtT v = some y ∧ y.length ≤ 1000 := by
  cases v with
  | str y => exact ⟨y, rfl, h⟩
  | int i =>
    obtain ⟨h1, h2⟩ := h
    refine ⟨_, rfl, ?_⟩
    have := small_len ⟨i.toNat, by omega⟩
    rwa [show (((⟨i.toNat, by omega⟩ : Fin 100).val : Nat) : Int) = i from by show ((i.toNat : Nat) : Int) = i; omega] at this
  | non => exact ⟨_, rfl, by decide +kernel⟩
  | bl b => exact h.elim
  | byt b => exact h.elim
  | flt b => exact h.elim
  | ref a => exact h.elim
  | ty n => exact h.elim
theorem len_ok {a b n : Nat} (h : a ≤ 1000000) (h2 : n ≤ 1000) : a + n ≤ sizeLine := by rw [sizeLine_eq]; omega
/-- {x}: a text, a small number, None -/
def tFmtX (te : TE) : TE := fun σ H Q => te σ H fun x H1 => FmtV x ∧ ∃ y, fmtT x = some y ∧ Q (.str y) H1
theorem pe_fmtX {X : Cx} {e : Expr} {te : TE} {pos : Pos} (he : PE X e te) : PE X (.FormattedValue e (-1) none pos) (tFmtX te) := by
  refine ⟨fun pins s σ H Q I h => ?_⟩
  refine wpAny_FormattedValue_plain (thn (he.run pins s σ H _ I h) fun v s1 hv => ?_)
  obtain ⟨x, H1, I1, r1, fv, y, ey, q⟩ := hv
  cases x with
  | str z =>
    cases ey
    obtain ⟨t, rfl⟩ := r1
    exact wpAny_formatField_str ⟨.str y, H1, I1, ⟨t, rfl⟩, q⟩ ⟨.str y, H1, I1.tok _, ⟨_, rfl⟩, q⟩ (Nat.le_trans (show y.length ≤ 1000 from fv) (by rw [sizeLine_eq]; decide))
  | int i =>
    cases ey
    obtain ⟨t, rfl⟩ := r1
    obtain ⟨h1, h2⟩ := fv
    exact wpAny_formatField_int (Nat.lt_of_le_of_lt (Nat.log2_le_self _) (by omega)) ⟨.str (toString i), H1, I1.tok _, ⟨_, rfl⟩, q⟩
  | non =>
    cases ey
    cases r1
    exact wpAny_formatField_none ⟨.str "None", H1, I1.tok _, ⟨_, rfl⟩, q⟩
  | bl b => exact fv.elim
  | byt b => exact fv.elim
  | flt b => exact fv.elim
  | ref a => exact fv.elim
  | ty n => exact fv.elim
def sp_init (K : PySem.W.Frag) (C : Addr) (fld : Str) : Sp := fun vs H Q _ => ∃ (a : Addr) (v : V), vs = [.ref a, v] ∧ FmtV v ∧ OexC K C ∧ PySem.W.findIn K (.ref C) fld = some none ∧ H a = some (exo a C none) ∧ ∀ d, H d = none → d ≠ a → Q .non (upd (upd H d (exd d [(fld, v)])) a (exo a C (some d)))
structure ErrI (P : Program) (w : World) (K : PySem.W.Frag) (mg : Str → Option Value) (base : Heap) (x fld : Str) (C : Addr) : Prop extends ErrC K mg x C where
  ox : OexC K C
  nof : PySem.W.findIn K (.ref C) fld = some none
  ini : ∃ fI fd, PySem.W.findIn K (.ref C) "__init__" = some (some (.ref fI)) ∧ PySem.W.typeIn K (.ref fI) = some (.type "function") ∧ Binds K fd ["self", fld] [] ∧ FnOk P w K mg base CX0 2 fI fd ["self", fld] (sp_init K C fld)
def tMk1 (C : Addr) (fld : Str) (te : TE) : L2.St → Hp → XK → Prop := fun σ H Q => te σ H fun v H1 => FmtV v ∧ ∀ d, H1 d = none → Q (.ref C) (some d) (upd H1 d (.xd [(fld, v)]))
theorem exo_ne_exd {e C : Addr} {d : Option Addr} : True := trivial
theorem pmk_one {X : Cx} {x fld : Str} {C : Addr} {e : Expr} {te : TE} {p pos : Pos} {kk : Nat} (T : ErrI X.prog X.w X.K X.mg X.base x fld C) (hr : Room kk X.A) (h3 : 3 ≤ kk) (hg : Gl X x) (he : PE X e te)
    (mono : ∀ {σ H} {Q Q' : VK}, te σ H Q → (∀ v H', Q v H' → Q' v H') → te σ H Q')
    (hdb : (x == ("__debug__" : Str)) = false := by decide) (hs : starEach (e :: []) X.env = (false, eval e X.env) :: starEach [] X.env := by rfl) (hpl : (backTo pos (starEach [] X.env)).any (·.1) = false := by rfl) :
    PMk X (.Call (.Name x p) [e] [] pos) (tMk1 C fld te) := by
  obtain ⟨fI, fd, h1, h2, hb, F⟩ := T.ini
  have M := pmk_oex (p := p) T.ox h1 h2 F (hr.mono h3) hb .nil (pass0 (X := X)) hg T.g (pa_cons he pa_nil hs) hdb hs hpl
  intro pins s σ H Q I h
  refine M pins s σ H Q I ?_
  refine mono (σ := σ) (H := H) h fun v H1 ⟨fv, q⟩ => ?_
  refine ⟨by show 1 ≤ 1000; decide, fun a na => ⟨a, v, rfl, fv, T.ox, T.nof, upd_same, fun d hd hda => ⟨rfl, d, [(fld, v)], upd_same, ?_, ?_, ?_⟩⟩⟩
  · rw [upd_ne hda, upd_same]
  · rw [upd_ne hda] at hd; exact hd
  · have nd : H1 d = none := by rw [upd_ne hda] at hd; exact hd
    have eH : upd (del (upd (upd (upd H1 a (exo a C none)) d (exd d [(fld, v)])) a (exo a C (some d))) a) d (.xd [(fld, v)]) = upd H1 d (.xd [(fld, v)]) := by
      funext b
      by_cases hb1 : b = d
      · rw [hb1, upd_same, upd_same]
      · rw [upd_ne hb1, upd_ne hb1]
        by_cases hb2 : b = a
        · rw [hb2, del_same, na]
        · rw [del_ne hb2, upd_ne hb2, upd_ne hb1, upd_ne hb2]
    rw [eH]
    exact q d nd
theorem tVar_mono {i : Nat} {σ : L2.St} {H : Hp} {Q Q' : VK} (h : tVar i σ H Q) (z : ∀ v H', Q v H' → Q' v H') : tVar i σ H Q' := by
  obtain ⟨v, e, q⟩ := h
  exact ⟨v, e, z _ _ q⟩
theorem tC_mono {u : V} {σ : L2.St} {H : Hp} {Q Q' : VK} (h : tC u σ H Q) (z : ∀ v H', Q v H' → Q' v H') : tC u σ H Q' := z _ _ h

/-! ### the error classes of a law -/
structure ErrT (K : PySem.W.Frag) (mg : Str → Option Value) (ad : Str → Addr) (asked plain : List Str) : Prop where
  cls : ∀ x ∈ asked, ErrC K mg x (ad x)
  pl : ∀ x ∈ plain, PySem.W.excIn K (ad x) veB "ValueError.__new__" = true
  sub : ∀ x ∈ plain, x ∈ asked
  kit : ∀ x ∈ asked, ∀ y ∈ asked, PySem.W.kitOne K (.ref (ad x)) (.ref (ad y)) = some (decide (x = y))
  top : mg "ClockError" = some (.ref (ad "ClockError"))
  exm : ∀ x ∈ asked, PySem.W.exmOne K (.ref (ad x)) (.ref (ad "ClockError")) = some true
theorem ErrT.p {K : PySem.W.Frag} {mg : Str → Option Value} {ad : Str → Addr} {asked plain : List Str} (T : ErrT K mg ad asked plain) {x : Str} (h : x ∈ plain) : ErrP K mg x (ad x) := { T.cls x (T.sub x h) with ex := T.pl x h }
/-- raise X('..') -/
theorem ps_raiseT {X : Cx} {W : WX} {ad : Str → Addr} {asked plain : List Str} {x m : Str} {j : Nat} {p p2 pos pos2 : Pos} (hc : X.calm = true) (tk : Takes X W) (T : ErrT X.K X.mg ad asked plain) (h : x ∈ plain) (hg : Gl X x) (hdb : (x == ("__debug__" : Str)) = false := by decide) :
    PS X (.Raise (some (.Call (.Name x p) [.Constant (.str m) j p2] [] pos)) none pos2) (fun _ σ H => W (.ref (ad x)) none σ H) := ps_raise hc tk (pmk_txt (T.p h) hg hdb)
end LX
-- X5
namespace LX
open PySem PySem.Spec PyProof.Rows L2 LC LamX NdefX
variable [Tbl]
/-! ### all that is no cell is kept -/
abbrev SC (H : Hp) : Addr → Prop := fun a => ∃ v, H a = some (CelO a v)
section
variable {H H1 H0 : Hp} {C : Addr → Prop} {a : Addr}
theorem xv_strip (hC : CellsOf H C) : Xt (SC H) H (strip H C) := by
  have out : ∀ {a : Addr} {o : HO}, H a = some o → (∀ c v, o ≠ CelO c v) → strip H C a = some o := fun e n => strip_some hC e n
  refine ⟨fun a xs e => out e fun c v z => celO_tup z.symm, fun a o ns nt e => ?_, fun P ⟨ps, e1, e2⟩ => ⟨ps, out e1 fun c v z => celO_tbl z.symm, e2⟩, fun a ps e => ⟨ps, out e fun c v z => celO_tbl z.symm⟩, fun P ps _ _ e => out e fun c v z => celO_tbl z.symm⟩
  rw [strip_out fun z => ns (hC a z)]; exact e
theorem xn_back (hC : CellsOf H C) (x : Xn (strip H C) H0) : Xn H (back H H0 C) := by
  have via : ∀ {a : Addr} {o : HO}, H a = some o → (∀ c v, o ≠ CelO c v) → strip H C a = some o ∧ back H H0 C a = H0 a := fun e n => ⟨strip_some hC e n, back_out (hC.out e n)⟩
  refine ⟨fun a xs e => ?_, fun a o ns nt e => ?_, fun P ⟨ps, e1, e2⟩ => ?_, fun a ps e => ?_, fun P ps n1 n2 e => ?_⟩
  · obtain ⟨e1, e2⟩ := via e fun c v z => celO_tup z.symm
    rw [e2]; exact x.tups a xs e1
  · by_cases z : C a
    · rw [back_in z]; exact e
    · rw [back_out z]; exact x.keep a o (fun z => z) nt (by rw [strip_out z]; exact e)
  · obtain ⟨e3, e4⟩ := via e1 fun c v z => celO_tbl z.symm
    obtain ⟨qs, e5, e6⟩ := x.tabs P ⟨ps, e3, e2⟩
    exact ⟨qs, by rw [e4]; exact e5, e6⟩
  · obtain ⟨e3, e4⟩ := via e fun c v z => celO_tbl z.symm
    obtain ⟨qs, e5⟩ := x.tbls a ps e3
    exact ⟨qs, by rw [e4]; exact e5⟩
  · obtain ⟨e3, e4⟩ := via e fun c v z => celO_tbl z.symm
    rw [e4]; exact x.tbk P ps n1 (fun z => z) e3
end

/-! ### values of which it is known what they are -/
inductive Shp (H : Hp) : V → Prop where
  | non : Shp H .non
  | bl (b : Bool) : Shp H (.bl b)
  | int (i : Int) : Shp H (.int i)
  | str (x : Str) : Shp H (.str x)
  | lst {a : Addr} {xs : List V} (e : H a = some (.lst xs)) : Shp H (.ref a)
  | tup {a : Addr} {xs : List V} (e : H a = some (.tup xs)) : Shp H (.ref a)
  | dT {a : Addr} {ks : List (List Key × V)} (e : H a = some (.dT ks)) : Shp H (.ref a)
  | dK {a : Addr} {ks : List (Key × V)} (e : H a = some (.dK ks)) : Shp H (.ref a)
theorem lst_cel {xs : List V} {c : Addr} {v : V} : HO.lst xs ≠ CelO c v := fun z => by
  have z' : HO.lst xs = HO.ext _ := z
  cases z'
theorem dT_cel {xs : List (List Key × V)} {c : Addr} {v : V} : HO.dT xs ≠ CelO c v := fun z => by
  have z' : HO.dT xs = HO.ext _ := z
  cases z'
theorem dK_cel {xs : List (Key × V)} {c : Addr} {v : V} : HO.dK xs ≠ CelO c v := fun z => by
  have z' : HO.dK xs = HO.ext _ := z
  cases z'
theorem xv_keep {H H1 : Hp} (x : Xt (SC H) H H1) {a : Addr} {o : HO} (e : H a = some o) (n : ∀ c v, o ≠ CelO c v) (t : ∀ ps, o ≠ .tbl ps) : H1 a = some o :=
  x.keep a o (fun ⟨v, z⟩ => n a v (Option.some.inj (e.symm.trans z))) t e
section
variable {K : PySem.W.Frag} {H H1 : Hp} {v : V}
theorem Shp.x (h : Shp H v) (x : Xt (SC H) H H1) : Shp H1 v := by
  cases h with
  | non => exact .non
  | bl b => exact .bl b
  | int i => exact .int i
  | str y => exact .str y
  | lst e => exact .lst (xv_keep x e (fun _ _ => lst_cel) (fun _ z => by cases z))
  | tup e => exact .tup (x.tups _ _ e)
  | dT e => exact .dT (xv_keep x e (fun _ _ => dT_cel) (fun _ z => by cases z))
  | dK e => exact .dK (xv_keep x e (fun _ _ => dK_cel) (fun _ z => by cases z))
theorem Shp.kd (h : Shp H v) : Kd K H v := by
  cases h with
  | non => exact kd_non
  | bl b => exact kd_bl
  | int i => exact kd_int
  | str y => exact kd_str
  | lst e => exact kd_lst e
  | tup e => exact kd_tup e
  | dT e => exact ⟨"dict", false, false, .base (.dT e), by decide +kernel, by decide +kernel, rfl⟩
  | dK e => exact ⟨"dict", false, false, .base (.dK e), by decide +kernel, by decide +kernel, rfl⟩
theorem tupOf_else {a : Addr} {o : HO} (e : H a = some o) (n : ∀ xs, o ≠ .tup xs) : tupOf H (.ref a) = none := by
  show (match H a with | some (.tup xs) => some xs | _ => none) = none
  rw [e]
  cases o with
  | tup xs => exact absurd rfl (n xs)
  | _ => rfl
theorem Shp.tupX (h : Shp H v) (x : Xt (SC H) H H1) : tupOf H1 v = tupOf H v := by
  have h1 := h.x x
  cases h with
  | non => rfl
  | bl b => rfl
  | int i => rfl
  | str y => rfl
  | lst e => rw [tupOf_else e (fun _ z => by cases z), tupOf_else (xv_keep x e (fun _ _ => lst_cel) (fun _ z => by cases z)) (fun _ z => by cases z)]
  | tup e => rw [tupOf_ref e, tupOf_ref (x.tups _ _ e)]
  | dT e => rw [tupOf_else e (fun _ z => by cases z), tupOf_else (xv_keep x e (fun _ _ => dT_cel) (fun _ z => by cases z)) (fun _ z => by cases z)]
  | dK e => rw [tupOf_else e (fun _ z => by cases z), tupOf_else (xv_keep x e (fun _ _ => dK_cel) (fun _ z => by cases z)) (fun _ z => by cases z)]
theorem Shp.kt (h : Shp H v) : Kt K H v := by
  cases h with
  | non => exact ⟨"NoneType", false, .base .non, by decide +kernel, rfl⟩
  | bl b => exact ⟨"bool", false, .base (.bl b), by decide +kernel, rfl⟩
  | int i => exact ⟨"int", false, .base (.int i), by decide +kernel, rfl⟩
  | str y => exact ⟨"str", false, .base (.str y), by decide +kernel, rfl⟩
  | lst e => exact ⟨"list", false, .base (.lst e), by decide +kernel, by rw [tupOf_else e (fun _ z => by cases z)]; rfl⟩
  | tup e => exact kt_tup e
  | dT e => exact ⟨"dict", false, .base (.dT e), by decide +kernel, by rw [tupOf_else e (fun _ z => by cases z)]; rfl⟩
  | dK e => exact ⟨"dict", false, .base (.dK e), by decide +kernel, by rw [tupOf_else e (fun _ z => by cases z)]; rfl⟩
end

/-- all but tables and cells is kept -/
def Kp (H H1 : Hp) : Prop := ∀ a o, (∀ ps, o ≠ .tbl ps) → (∀ c v, o ≠ CelO c v) → H a = some o → H1 a = some o
theorem kp_tab {H H1 : Hp} {PL : Addr} {ps : Array Value} (x : Xt (At1 PL) H H1) (h : H PL = some (.tbl ps)) : Kp H H1 := fun a o nt _ e => x.keep a o (fun z => by
  have z : a = PL := z
  rw [z, h] at e; cases e; exact nt _ rfl) nt e
section
variable {H H1 : Hp} {v : V}
theorem Shp.k (h : Shp H v) (x : Kp H H1) : Shp H1 v := by
  cases h with
  | non => exact .non
  | bl b => exact .bl b
  | int i => exact .int i
  | str y => exact .str y
  | lst e => exact .lst (x _ _ (fun _ z => by cases z) (fun _ _ => lst_cel) e)
  | tup e => exact .tup (x _ _ (fun _ z => by cases z) (fun c v z => celO_tup z.symm) e)
  | dT e => exact .dT (x _ _ (fun _ z => by cases z) (fun _ _ => dT_cel) e)
  | dK e => exact .dK (x _ _ (fun _ z => by cases z) (fun _ _ => dK_cel) e)
theorem Shp.tupK (h : Shp H v) (x : Kp H H1) : tupOf H1 v = tupOf H v := by
  cases h with
  | non => rfl
  | bl b => rfl
  | int i => rfl
  | str y => rfl
  | lst e => rw [tupOf_else e (fun _ z => by cases z), tupOf_else (x _ _ (fun _ z => by cases z) (fun _ _ => lst_cel) e) (fun _ z => by cases z)]
  | tup e => rw [tupOf_ref e, tupOf_ref (x _ _ (fun _ z => by cases z) (fun c v z => celO_tup z.symm) e)]
  | dT e => rw [tupOf_else e (fun _ z => by cases z), tupOf_else (x _ _ (fun _ z => by cases z) (fun _ _ => dT_cel) e) (fun _ z => by cases z)]
  | dK e => rw [tupOf_else e (fun _ z => by cases z), tupOf_else (x _ _ (fun _ z => by cases z) (fun _ _ => dK_cel) e) (fun _ z => by cases z)]
end
/-! ### a call that is refused -/
def ErrOf (ad : Str → Addr) (H : Hp) (x : Str) (fv : Option (Str × V)) (cls : Value) (d : Option Addr) : Prop := cls = .ref (ad x) ∧ match fv with
  | none => d = none
  | some (f, v) => ∃ dd, d = some dd ∧ H dd = some (.xd [(f, v)])
theorem ErrOf.hasD {ad : Str → Addr} {H : Hp} {x : Str} {fv : Option (Str × V)} {cls : Value} {d : Option Addr} (h : ErrOf ad H x fv cls d) : HasD H d := by
  obtain ⟨_, h⟩ := h
  cases fv with
  | none => rw [show d = none from h]; trivial
  | some p =>
    obtain ⟨dd, rfl, e⟩ := h
    exact ⟨_, e⟩
/-- arguments, and what is wrong with them: the error's class and field -/
abbrev BadP := Hp → List V → Str → Option (Str × V) → Prop
def spR (ad : Str → Addr) (B : BadP) : Sp := fun vs H _ E => ∃ x fv, B H vs x fv ∧ ∀ cls d H', Xn H H' → ErrOf ad H' x fv cls d → E cls d H'
section
variable {P : Program} {w : World} {K : PySem.W.Frag} {mg : Str → Option Value} {base : Heap} {N fr : List Str} {F : NF} {f : Addr} {e : Expr} {ws vs : List V} {k : Nat} {H H1 : Hp} {ad : Str → Addr} {B : BadP} {en : Str} {fv : Option (Str × V)}
theorem lam_tbl {ps : Array Value} : LamO f F e ≠ .tbl ps := fun z => by
  have z' : HO.ext _ = HO.tbl ps := z
  cases z'
theorem LamAt.mv (L : LamAt H f F e fr ws) (x : Xn H H1) : LamAt H1 f F e fr ws := by
  have cel : ∀ {c v}, H c = some (CelO c v) → H1 c = some (CelO c v) := fun q => x.keep _ _ (fun z => z) (fun _ => celO_tbl) q
  refine ⟨x.keep _ _ (fun z => z) (fun _ => lam_tbl) L.fn, x.keep _ _ (fun z => z) (fun ps => codeO_ne ps) L.cd, L.len, L.inj, fun y c z => ?_, fun i y z => ?_⟩
  · obtain ⟨v, q⟩ := L.all y c z
    exact ⟨v, cel q⟩
  · obtain ⟨c, q1, q2⟩ := L.has i y z
    exact ⟨c, q1, fun v q => cel (q2 v q)⟩
/-- the thing at f, called now or later, is refused so -/
def Refuses (P : Program) (w : World) (K : PySem.W.Frag) (mg : Str → Option Value) (base : Heap) (ad : Str → Addr) (k : Nat) (f : Addr) (H : Hp) (x : Str) (fv : Option (Str × V)) : Prop :=
  ∀ H1, Xn H H1 → Thunk P w K mg base k f H1 fun _ E => ∀ cls d H', Xn H1 H' → ErrOf ad H' x fv cls d → E cls d H'
theorem Refuses.mv (h : Refuses P w K mg base ad k f H en fv) (y : Xn H H1) : Refuses P w K mg base ad k f H1 en fv := fun H2 z => h H2 (y.trans z)
theorem refuses_of (S : NScope N [] fr F.scope) (hb : ∀ pm ctv : Value, bindArgs (PySem.W.kla_fn "<lambda>" F.qual F.params e F.scope F.cl pm (.ref F.c) ctv) ⟨[], []⟩ = pure []) (mono : ∀ {H H1 : Hp}, B H vs en fv → Xt (SC H) H H1 → B H1 vs en fv)
    (L : LamAt H f F e fr ws) (hB : B H vs en fv)
    (body : ∀ (A : Around) (outer : List Env) (s : Shared) (H0 : Hp) (E : XK), Room k (A.deeper (envF F f s.heap.objs.size)) → ∃ t : TE, PE (ncx (L2.CX P w) P w K mg base N F f A outer s H0 E) e t ∧ ∀ Q, spR ad B vs H0 Q E → t (startF N [] (ws.map some)) H0 Q) :
    Refuses P w K mg base ad (k + 1) f H en fv := fun H1 y => by
  have L1 := L.mv y
  refine L1.thunk S hb fun A outer s Q E hr hs => ?_
  obtain ⟨t, ht, hq⟩ := body A outer s (strip H1 (ClP F)) (fun cls d H0 => (∀ c, ClP F c → H0 c = none) → E cls d (back H1 H0 (ClP F))) hr
  refine ⟨t, ht, hq _ ⟨en, fv, mono (mono hB y.any) (xv_strip L1.cells), fun cls d H' z eo fB => hs cls d _ (xn_back L1.cells z) ?_⟩⟩
  obtain ⟨e1, e2⟩ := eo
  refine ⟨e1, ?_⟩
  cases fv with
  | none => exact e2
  | some p =>
    obtain ⟨dd, rfl, e3⟩ := e2
    refine ⟨dd, rfl, ?_⟩
    rw [back_out fun z => by rw [fB dd z] at e3; cases e3]
    exact e3
end
/-! ### data that is compared as a whole -/
mutual
def _root_.LC.D.py : LC.D → PyData
  | .non => .none
  | .bl b => .bool b
  | .int i => .int i
  | .str x => .str x
  | .tup ds => .tuple (LC.D.pys ds)
  | .lst ds => .list (LC.D.pys ds)
def _root_.LC.D.pys : List LC.D → List PyData
  | [] => []
  | d :: ds => d.py :: LC.D.pys ds
end
mutual
theorem dp_at {K : PySem.W.Frag} {H : Hp} : ∀ (d : LC.D) (v : V), At H d v → Dp K H v d.py
  | .non, v, h => by unfold At at h; subst h; unfold LC.D.py; exact .non
  | .bl b, v, h => by unfold At at h; subst h; unfold LC.D.py; exact .bl b
  | .int b, v, h => by unfold At at h; subst h; unfold LC.D.py; exact .int b
  | .str b, v, h => by unfold At at h; subst h; unfold LC.D.py; exact .str b
  | .tup ds, v, h => by
    obtain ⟨a, xs, rfl, e1, e2⟩ := at_tup.mp h
    unfold LC.D.py; exact .tup (SqT.of e1) (dp_ats ds xs e2)
  | .lst ds, v, h => by
    obtain ⟨a, xs, rfl, e1, e2⟩ := at_lst.mp h
    unfold LC.D.py; exact .lst (SqL.of e1) (dp_ats ds xs e2)
theorem dp_ats {K : PySem.W.Frag} {H : Hp} : ∀ (ds : List LC.D) (vs : List V), Ats H ds vs → DpAll K H vs (LC.D.pys ds)
  | [], vs, h => by unfold Ats at h; subst h; unfold LC.D.pys; exact .nil
  | d :: ds, vs, h => by
    unfold Ats at h
    obtain ⟨v, r, rfl, e1, e2⟩ := h
    unfold LC.D.pys; exact .cons (dp_at d v e1) (dp_ats ds r e2)
end
/-- != of two values that are the same data -/
theorem ne_same {K : PySem.W.Frag} {H : Hp} {Q : VK} {x y : V} (d : LC.D) (hx : At H d x) (hy : At H d y) (hs : SeqAt.shaped d.py = true) (he : PyData.eqv d.py d.py = true) (q : Q (.bl false) H) : rNeD K x y H Q :=
  ⟨d.py, d.py, dp_at d x hx, dp_at d y hy, hs, hs, by rw [he]; exact q⟩
theorem eq_same {K : PySem.W.Frag} {H : Hp} {Q : VK} {x y : V} (d : LC.D) (hx : At H d x) (hy : At H d y) (hs : SeqAt.shaped d.py = true) (he : PyData.eqv d.py d.py = true) (q : Q (.bl true) H) : rEqD K x y H Q :=
  ⟨d.py, d.py, dp_at d x hx, dp_at d y hy, hs, hs, by rw [he]; exact q⟩
end LX
-- X6
namespace LX
open PySem PySem.Spec PyProof.Rows L2 LC LamX NdefX
variable [Tbl]
/-! ### functions made one behind the other and kept in a list -/
def lamOf (ss : List Stmt) (i : Nat) : Expr := match ss[i]? with
  | some (.Expr (.Call _ [l] _ _) _) => l
  | _ => .Constant .none 0 ⟨0, 0, 0, 0⟩
def lamArgs : Expr → Arguments
  | .Lambda p _ _ _ => p
  | _ => { posonlyargs := [], args := [], vararg := none, kwonlyargs := [], kw_defaults := [], kwarg := none, defaults := [] }
def lamBody : Expr → Expr
  | .Lambda _ b _ _ => b
  | e => e
def lamScope : Expr → Scope
  | .Lambda _ _ s _ => s
  | _ => { kind := .function, names := [], isGenerator := false, isCoroutine := false, more := [] }
abbrev lamF (q : Str) (e : Expr) (cl : List (Str × Addr)) (c : Addr) : NF := ⟨"<lambda>", q, lamArgs e, [], lamScope e, cl, c⟩
theorem xt_all {S : Addr → Prop} {H H1 : Hp} (k : ∀ b o, H b = some o → H1 b = some o) : Xt S H H1 :=
  ⟨fun a xs e => k a _ e, fun a o _ _ e => k a o e, fun P ⟨ps, e1, e2⟩ => ⟨ps, k _ _ e1, e2⟩, fun a ps e => ⟨ps, k _ _ e⟩, fun P ps _ _ e => k _ _ e⟩
structure MadeOne (cells : List (Str × Addr)) (H : Hp) (q : Str) (e : Expr) (fr : List Str) (f : Addr) (F : NF) : Prop where
  fn : H f = some (LamO f F (lamBody e))
  cd : H F.c = some (CodeO F.c F.qual)
  ok : ClOk cells F fr
  is : ∃ cl c, F = lamF q e cl c
structure MadeL (cells : List (Str × Addr)) (PL : Addr) (q : Str) (H0 H : Hp) (L : Addr) (xs : List V) : Prop where
  x : Xt (At1 PL) H0 H
  l : H L = some (.lst xs)
  t : TabS H PL q
  nl : H0 L = none
section
variable {cells : List (Str × Addr)} {PL L f c' : Addr} {q : Str} {H0 H H1 : Hp} {xs : List V} {e : Expr} {fr : List Str} {F : NF}
theorem tabG_of {H : Hp} {P : Addr} {q : Str} (t : TabS H P q) : GxR.TabG H P := by
  obtain ⟨ps, h1, h2, _⟩ := t
  exact ⟨ps, h1, h2⟩
theorem MadeL.start (hT : TabS H0 PL q) (hL : H0 L = none) : MadeL cells PL q H0 (upd H0 L (.lst [])) L [] :=
  ⟨Xt.new hL, upd_same, hT.ext fun b o z => by rw [upd_ne (ne_of_none z hL)]; exact z, hL⟩
/-- what a new function leaves -/
theorem MadeL.mid (M : MadeL cells PL q H0 H L xs) (eN : ExtN H H1) : H1 L = some (.lst xs) := eN L _ M.l fun ps z => by cases z
theorem MadeL.snoc (M : MadeL cells PL q H0 H L xs) (eN : ExtN H H1) (hT : TabS H1 PL q) (tb : ∀ a ps, a ≠ PL → H a = some (.tbl ps) → H1 a = some (.tbl ps)) : MadeL cells PL q H0 (upd H1 L (.lst (xs ++ [.ref f]))) L (xs ++ [.ref f]) := by
  have hL1 := M.mid eN
  have y : Xt (At1 PL) H H1 := by
    refine ⟨fun a xs z => eN a _ z (fun _ w => by cases w), fun a o _ n z => eN a o z n, fun P ⟨ps, z1, z2⟩ => ?_, fun a ps z => ?_, fun P ps _ n z => tb P ps n z⟩
    · by_cases h : P = PL
      · rw [h]; exact tabG_of hT
      · exact ⟨ps, tb P ps h z1, z2⟩
    · by_cases h : a = PL
      · obtain ⟨qs, z1, _⟩ := hT
        exact ⟨qs, by rw [h]; exact z1⟩
      · exact ⟨ps, tb a ps h z⟩
  refine ⟨(M.x.trans y).young M.nl, upd_same, ?_, M.nl⟩
  obtain ⟨ps, z1, z2, z3⟩ := hT
  refine ⟨ps, by rw [upd_ne (ne_of z1 hL1 (fun w => by cases w))]; exact z1, z2, fun pos cv hcv => ?_⟩
  obtain ⟨c, w1, w2⟩ := z3 pos cv hcv
  exact ⟨c, w1, by rw [upd_ne (ne_of w2 hL1 (fun w => by cases w))]; exact w2⟩
theorem lamO_lst {f : Addr} {F : NF} {e : Expr} {xs : List V} : LamO f F e ≠ .lst xs := fun z => by
  have z' : HO.ext _ = HO.lst xs := z
  cases z'
theorem MadeOne.mk' (M : MadeL cells PL q H0 H L xs) (eN : ExtN H H1) (hf : H1 f = some (LamO f F (lamBody e))) (hc : H1 F.c = some (CodeO F.c F.qual)) (ok : ClOk cells F fr) (is : ∃ cl c, F = lamF q e cl c) (g : Addr) : MadeOne cells (upd H1 L (.lst (xs ++ [.ref g]))) q e fr f F := by
  have hL1 := M.mid eN
  exact ⟨by rw [upd_ne (ne_of hf hL1 lamO_lst)]; exact hf, by rw [upd_ne (ne_of hc hL1 (fun w => by cases w))]; exact hc, ok, is⟩
theorem MadeOne.next (O : MadeOne cells H q e fr f F) (M : MadeL cells PL q H0 H L xs) (eN : ExtN H H1) (g : Addr) : MadeOne cells (upd H1 L (.lst (xs ++ [.ref g]))) q e fr f F :=
  MadeOne.mk' M eN (eN _ _ O.fn fun ps => lam_tbl) (eN _ _ O.cd fun ps => codeO_ne ps) O.ok O.is g
/-- at the maker's end -/
theorem MadeOne.at {ps : List Str} {vs ws : List V} {H2 : Hp} (O : MadeOne cells H q e fr f F) (k1 : ∀ b o, H b = some o → H2 b = some o) (kc : ∀ (i : Nat) (z : Str) (b : Addr) (u : V), ps[i]? = some z → cells.lookup z = some b → vs[i]? = some u → H2 b = some (CelO b u))
    (len : ws.length = fr.length) (hw : ∀ (i : Nat) (y : Str) (v : V), fr[i]? = some y → ws[i]? = some v → ∃ j : Nat, ps[j]? = some y ∧ vs[j]? = some v) : LamAt H2 f F (lamBody e) fr ws := by
  have key : ∀ (i : Nat) (y : Str) (c : Addr), fr[i]? = some y → F.cl.lookup y = some c → ∀ v, ws[i]? = some v → H2 c = some (CelO c v) := fun i y c z1 z2 v z3 => by
    obtain ⟨j, w1, w2⟩ := hw i y v z1 z3
    exact kc j y c v w1 (O.ok.sub y c z2).2 w2
  refine ⟨k1 _ _ O.fn, k1 _ _ O.cd, len, O.ok.inj, fun y c z => ?_, fun i y z => ?_⟩
  · obtain ⟨i, hi⟩ := List.mem_iff_getElem?.mp (O.ok.sub y c z).1
    have hi2 : i < ws.length := by rw [len]; exact (List.getElem?_eq_some_iff.mp hi).1
    exact ⟨_, key i y c hi z _ (List.getElem?_eq_getElem hi2)⟩
  · obtain ⟨c, z1, z2⟩ := O.ok.has y (List.mem_of_getElem? z)
    exact ⟨c, z1, fun v w => key i y c z z1 v w⟩
end
theorem MadeOne.atE {cells : List (Str × Addr)} {H : Hp} {q : Str} {e : Expr} {fr : List Str} {f : Addr} {F : NF} {ps : List Str} {vs ws : List V} {H2 : Hp} (O : MadeOne cells H q e fr f F) (k1 : ∀ b o, H b = some o → H2 b = some o) (kc : ∀ (i : Nat) (z : Str) (b : Addr) (u : V), ps[i]? = some z → cells.lookup z = some b → vs[i]? = some u → H2 b = some (CelO b u))
    (len : ws.length = fr.length) (hw : ∀ (i : Nat) (y : Str) (v : V), fr[i]? = some y → ws[i]? = some v → ∃ j : Nat, ps[j]? = some y ∧ vs[j]? = some v) : ∃ cl c, LamAt H2 f (lamF q e cl c) (lamBody e) fr ws := by
  obtain ⟨cl, c, z⟩ := O.is
  exact ⟨cl, c, z ▸ O.at k1 kc len hw⟩
theorem slots_of {vs : List V} {tl : L2.St} {i : Nat} {u : V} (h : vs[i]? = some u) : (vs.map some ++ tl)[i]? = some (some u) := by
  rw [List.getElem?_append_left (by rw [List.length_map]; exact (List.getElem?_eq_some_iff.mp h).1), List.getElem?_map, h]; rfl
/-! ### the place of True -/
theorem index_true {K : PySem.W.Frag} {H : Hp} {a : Addr} {bs : List Bool} {Q : VK} (h : SqL K H a (bs.map V.bl)) (ht : bs.contains true = true) (q : Q (.int (bs.findIdx id : Nat)) H) : rIndex K (.ref a) [.bl true] H Q := by
  have hm : true ∈ bs := by simpa using ht
  have hlt : bs.findIdx id < bs.length := List.findIdx_lt_length_of_exists ⟨true, hm, rfl⟩
  have hv : bs[bs.findIdx id]'hlt = true := by simpa using List.findIdx_getElem (w := hlt)
  refine ⟨a, bs.map V.bl, .bl true, bs.findIdx id, .bl true, rfl, rfl, h, rfl, ?_, ?_, rfl, fun m z hm hz => ?_, q⟩
  · rw [List.all_eq_true]; intro y hy; obtain ⟨b, _, rfl⟩ := List.mem_map.mp hy; rfl
  · rw [List.getElem?_map, List.getElem?_eq_getElem hlt, hv]; rfl
  · rw [List.getElem?_map] at hz
    have hml : m < bs.length := by omega
    rw [List.getElem?_eq_getElem hml] at hz
    cases hz
    have hn := List.not_of_lt_findIdx hm
    have hb : bs[m] = false := by simpa using hn
    rw [hb]; rfl
end LX
namespace LX
theorem itT {c : Bool} {A B : Prop} (hc : c = true) (h : A) : if c = true then A else B := by rw [if_pos hc]; exact h
theorem itF {c : Bool} {A B : Prop} (hc : c = false) (h : B) : if c = true then A else B := by rw [hc, if_neg Bool.false_ne_true]; exact h
end LX
-- X7
namespace LX
open PySem PySem.Spec PyProof.Rows L2 LC LamX NdefX
variable [Tbl]
section
variable {K : PySem.W.Frag} {S : Addr → Prop} {H H1 : Hp} {PL row scr : Addr} {q : Str} {ns : List Int}
/-- what is known of a table stays, where neither it nor a code object is named -/
theorem tabS_x (h : TabS H PL q) (n : PL ∉ Tbl.ts) (x : Xt S H H1) (n1 : ¬ S PL) (n2 : ∀ c q', H c = some (CodeO c q') → ¬ S c) : TabS H1 PL q := by
  obtain ⟨ps, e1, e2, e3⟩ := h
  refine ⟨ps, x.tbk PL ps n n1 e1, e2, fun pos cv hc => ?_⟩
  obtain ⟨c, z1, z2⟩ := e3 pos cv hc
  exact ⟨c, z1, x.keep c _ (n2 c q z2) (fun ps => codeO_ne ps) z2⟩
/-- the state of a law between its statements: its row of draws, the tables -/
structure Sta (K : PySem.W.Frag) (Ts : List Addr) (PL : Addr) (q : Str) (H : Hp) (row scr : Addr) (ns : List Int) : Prop where
  r : RowAt K H row scr ns
  t : Tabs Ts H
  l : TabS H PL q
variable {Ts : List Addr}
theorem Sta.xn (s : Sta K Ts PL q H row scr ns) (n : PL ∉ Tbl.ts) (x : Xn H H1) : Sta K Ts PL q H1 row scr ns := ⟨s.r.x x, s.t.x x, tabS_x s.l n x (fun z => z) fun _ _ _ z => z⟩
theorem Sta.drawn (s : Sta K Ts PL q H row scr ns) (n : PL ∉ Tbl.ts) (x : Xt (At1 row) H H1) (r : RowAt K H1 row scr ns) : Sta K Ts PL q H1 row scr ns := by
  obtain ⟨i, y, rr, e, _⟩ := s.r.ex
  refine ⟨r, s.t.x x, tabS_x s.l n x (fun z => ?_) fun c q' z w => ?_⟩
  · obtain ⟨ps, e1, _⟩ := s.l
    rw [z, e] at e1; cases e1
  · rw [w, e] at z; cases z
theorem Sta.works (s : Sta K Ts PL q H row scr ns) (x : Xt (At1 PL) H H1) (l : TabS H1 PL q) : Sta K Ts PL q H1 row scr ns := by
  obtain ⟨i, y, rr, e, h⟩ := s.r.ex
  obtain ⟨ps, e1, _⟩ := s.l
  have ne : row ≠ PL := ne_of e e1 (fun z => by cases z)
  refine ⟨⟨⟨i, y, rr, x.keep row _ ne (fun _ z => by cases z) e, h⟩, ?_, s.r.ne⟩, s.t.x x, l⟩
  rcases s.r.sc with (g | ⟨o, g⟩) | g
  · exact .inl (.inl (x.keep scr _ (ne_of g e1 (fun z => by cases z)) (fun _ z => by cases z) g))
  · exact .inl (.inr ⟨o, x.keep scr _ (ne_of g e1 (fun z => by cases z)) (fun _ z => by cases z) g⟩)
  · exact .inr g
end
theorem Sta.kp {K : PySem.W.Frag} {Ts : List Addr} {H H1 : Hp} {PL row scr : Addr} {q : Str} {ns : List Int} (s : Sta K Ts PL q H row scr ns) (x : Xt (At1 PL) H H1) : Kp H H1 := by
  obtain ⟨ps, e, _⟩ := s.l
  exact kp_tab x e
/-- values without lists and dicts -/
inductive ShpT (H : Hp) : V → Prop where
  | non : ShpT H .non
  | bl (b : Bool) : ShpT H (.bl b)
  | int (i : Int) : ShpT H (.int i)
  | str (x : Str) : ShpT H (.str x)
  | tup {a : Addr} {xs : List V} (e : H a = some (.tup xs)) : ShpT H (.ref a)
theorem ShpT.x {S : Addr → Prop} {H H1 : Hp} {v : V} (h : ShpT H v) (x : Xt S H H1) : ShpT H1 v := by
  cases h with
  | non => exact .non
  | bl b => exact .bl b
  | int i => exact .int i
  | str y => exact .str y
  | tup e => exact .tup (x.tups _ _ e)
theorem ShpT.shp {H : Hp} {v : V} (h : ShpT H v) : Shp H v := by
  cases h with
  | non => exact .non
  | bl b => exact .bl b
  | int i => exact .int i
  | str y => exact .str y
  | tup e => exact .tup e
theorem rows_nil {H : Hp} : Rows H [] [] := ⟨rfl, fun i ns e => by simp at e⟩
theorem rows_cons {H : Hp} {a : Addr} {rs : List V} {ns : List Int} {xss : List (List Int)} (e : H a = some (.tup (ns.map V.int))) (r : Rows H rs xss) : Rows H (.ref a :: rs) (ns :: xss) := ⟨by rw [List.length_cons, List.length_cons, r.1], fun i xs z => by
  cases i with
  | zero => cases z; exact ⟨a, rfl, e⟩
  | succ i => exact r.2 i xs (by simpa using z)⟩
end LX
namespace LX
open PySem PySem.Spec PyProof.Rows L2 LC
/-- the first def of a class -/
def initOf : Stmt → Stmt
  | .ClassDef _ _ _ (b :: _) _ _ _ _ _ _ _ => b
  | s => s
/-- what the written part says of the class that the others call to be made -/
structure BaseI (K : PySem.W.Frag) (CB : Addr) : Prop where
  sp : PySem.W.specialIn K (.ref CB) "__getattribute__" = some (some (.builtin "type.__getattribute__"))
  mt : PySem.W.typeIn K (.ref CB) = some (.type "type")
  rd : PySem.W.readsIn K CB (.type "type") = true
  vV : PySem.W.findCls K (.ref CB) (.type "type") "__init__" = some (.val (.builtin "ValueError.__init__"))
theorem oexC_mk {K : PySem.W.Frag} {C : Addr} {nm q : Str} {N : Addr} {bs bm : List Value} {sn : List Str} {sub : List Value} {ab : Bool} {col : Option Bool} {dd : Option Addr} {k0 k1 k2 k3 k5 : Option Value}
    (l : K.lookup C = some (excClassObj nm q C N bs bm true sn sub ab col dd k0 k1 k2 k3 k5 "ValueError.__new__")) (hm : PySem.HandSPX.refsVE bm = true) (sa : PySem.W.findIn K (.ref C) "__setattr__" = some (some (.builtin "object.__setattr__"))) (e : ErrK K C) : OexC K C :=
  ⟨⟨nm, q, N, bs, bm, sn, sub, ab, col, dd, k0, k1, k2, k3, k5, l, hm⟩, sa, e.ba, e.ty, e.kp⟩
theorem errK_mk {K : PySem.W.Frag} {C : Addr} (kp : PySem.W.keepIn K (.ref C) = true) (ba : PySem.W.subIn K (.ref C) (.type "BaseException") = some true) (ty : PySem.W.typeIn K (.ref C) = some (.type "type")) (hd : PySem.W.hasDictIn K C = true)
    (ga : PySem.W.findIn K (.ref C) "__getattribute__" = some (some (.builtin "BaseException.__getattribute__"))) (gg : PySem.W.findIn K (.ref C) "__getattr__" = some none) (ca : PySem.W.findIn K (.ref C) "__class__" = some (some (.builtin "object.__class__")))
    (cg : PySem.W.specialIn K (.builtin "object.__class__") "__get__" = some (some (.builtin "getset_descriptor.__get__"))) (ct : PySem.W.takesIn K (.builtin "object.__class__") = some true) (ob : PySem.W.mroIn K C (.type "object") = some true) : ErrK K C := ⟨kp, ba, ty, hd, ga, gg, ca, cg, ct, ob⟩
theorem baseI_mk {K : PySem.W.Frag} {CB : Addr} (sp : PySem.W.specialIn K (.ref CB) "__getattribute__" = some (some (.builtin "type.__getattribute__"))) (mt : PySem.W.typeIn K (.ref CB) = some (.type "type")) (rd : PySem.W.readsIn K CB (.type "type") = true)
    (vV : PySem.W.findCls K (.ref CB) (.type "type") "__init__" = some (.val (.builtin "ValueError.__init__"))) : BaseI K CB := ⟨sp, mt, rd, vV⟩
end LX
-- X8
namespace LX
variable [LC.Tbl]
open PySem PySem.Spec PyProof.Rows L2 LC
/-- a statement that never comes to its end: what is behind it doesn't count -/
theorem pss_stop {X : Cx} {st : Stmt} {rest : List Stmt} {t : TS} (h1 : PS X st t) : PSs X (st :: rest) (fun D σ H => t { D with nx := fun _ _ => False } σ H) := by
  refine ⟨fun pins s σ H D I h => ?_⟩
  refine wpAny_execs_cons (thn (h1.run pins s σ H { D with nx := fun _ _ => False } I h) fun f s1 q => ?_)
  cases f with
  | next =>
    obtain ⟨_, _, _, q⟩ := q
    exact q.elim
  | ret v => exact q
  | brk => exact q
  | cont => exact q
theorem eqvs_ints : ∀ r : List Int, PyData.eqvAll (r.map PyData.int) (r.map PyData.int) = true
  | [] => rfl
  | a :: r => by
    show (PyData.eqv (.int a) (.int a) && PyData.eqvAll (r.map PyData.int) (r.map PyData.int)) = true
    rw [eqvs_ints r, Bool.and_true]
    show (a == a) = true
    exact beq_self_eq_true a
theorem shaped_ints (r : List Int) : SeqAt.shaped (.tuple (r.map PyData.int)) = true := by
  simp [SeqAt.shaped, PyData.canLay0, PyData.depth, PySem.W.ke_canLayAll0, PySem.W.ke_depthAll]
/-- two tuples of the same whole numbers -/
theorem eq_ints {K : PySem.W.Frag} {H : Hp} {Q : VK} {a b : Addr} {r : List Int} (ha : H a = some (.tup (r.map V.int))) (hb : H b = some (.tup (r.map V.int))) (q : Q (.bl true) H) : rEqD K (.ref a) (.ref b) H Q := by
  refine ⟨.tuple (r.map .int), .tuple (r.map .int), .tup (SqT.of ha) (dp_ints r), .tup (SqT.of hb) (dp_ints r), shaped_ints r, shaped_ints r, ?_⟩
  rw [show PyData.eqv (.tuple (r.map PyData.int)) (.tuple (r.map PyData.int)) = true from eqvs_ints r]
  exact q
/-- a table and another address may change -/
abbrev RP (row PL : Addr) : Addr → Prop := fun a => a = row ∨ a = PL
end LX
-- X9
namespace LX
variable [LC.Tbl]
open PySem PySem.Spec PyProof.Rows L2 LC
section
variable {K : PySem.W.Frag} {H : Hp} {Q : VK} {a b : Addr} {xs ys : List V} {k : Nat}
/-- a tuple's slice: it, or a new one -/
theorem slA {lo hi : Option Int} (h : H a = some (.tup xs)) (q : ∀ H' p, Xn H H' → H' p = some (.tup (cutV xs lo hi)) → Q (.ref p) H') : rSlA K (.ref a) lo hi H Q := by
  refine ⟨a, xs, rfl, SqT.of h, fun z => q H a Xt.refl ?_, fun _ p hp => q _ p (Xt.new hp) upd_same⟩
  have e : cutV xs lo hi = xs := by unfold cutV; rw [z.1, z.2, List.drop_zero, Nat.sub_zero, List.take_length]
  rw [e]; exact h
theorem sl_to (h : H a = some (.tup xs)) (hk : k ≤ xs.length) (q : ∀ H' p, Xn H H' → H' p = some (.tup (xs.take k)) → Q (.ref p) H') : rSlA K (.ref a) none (some (k : Int)) H Q := slA h fun H' p x e => q H' p x (by
  have z : cutV xs none (some (k : Int)) = xs.take k := by unfold cutV; rw [HT.sIx_nat, HT.sIx_none, List.drop_zero, Nat.sub_zero, Nat.min_eq_left hk]
  rw [← z]; exact e)
theorem sl_from (h : H a = some (.tup xs)) (hk : k ≤ xs.length) (q : ∀ H' p, Xn H H' → H' p = some (.tup (xs.drop k)) → Q (.ref p) H') : rSlA K (.ref a) (some (k : Int)) none H Q := slA h fun H' p x e => q H' p x (by
  have z : cutV xs (some (k : Int)) none = xs.drop k := by unfold cutV; rw [HT.sIx_nat, HT.sIx_none, Nat.min_eq_left hk, List.take_of_length_le (by rw [List.length_drop]; exact Nat.le_refl _)]
  rw [← z]; exact e)
theorem sl_fromN {σ : L2.St} {i : Int} (h : H a = some (.tup xs)) (e : i = (k : Int)) (hk : k ≤ xs.length) (q : ∀ H' p, Xn H H' → H' p = some (.tup (xs.drop k)) → Q (.ref p) H') : tNoPart σ H (fun u H3 => rSlA K (.ref a) (some i) u H3 Q) := e ▸ sl_from h hk q
theorem sl_last (h : H a = some (.tup xs)) (hk : xs ≠ []) (q : ∀ H' p, Xn H H' → H' p = some (.tup xs.dropLast) → Q (.ref p) H') : rSlA K (.ref a) none (some (-1)) H Q := slA h fun H' p x e => q H' p x (by
  have hl : 0 < xs.length := List.length_pos_iff.mpr hk
  have z : cutV xs none (some (-1)) = xs.dropLast := by
    unfold cutV
    rw [HT.sIx_none, List.drop_zero, Nat.sub_zero, List.dropLast_eq_take]
    have : HT.sIx xs.length xs.length (some (-1)) = xs.length - 1 := by
      show (if (-1 : Int) < 0 then (-1 + (xs.length : Int)).toNat else min (-1 : Int).toNat xs.length) = _
      rw [if_pos (by decide)]; omega
    rw [this]
  rw [← z]; exact e)
/-- two tuples joined: one of them, or a new one -/
theorem catA (ha : H a = some (.tup xs)) (hb : H b = some (.tup ys)) (hz : xs.length + ys.length ≤ 1000) (q : ∀ H' p, Xn H H' → H' p = some (.tup (xs ++ ys)) → Q (.ref p) H') : rCatA K (.ref a) (.ref b) H Q := by
  refine ⟨a, b, xs, ys, rfl, rfl, SqT.of ha, SqT.of hb, Nat.le_trans hz (by rw [sizeLine_eq]; decide), fun z => q H b Xt.refl (by rw [z]; exact hb), fun _ z => q H a Xt.refl (by rw [z, List.append_nil]; exact ha), fun _ _ p hp => q _ p (Xt.new hp) upd_same⟩
end
/-- a statement, behind it a state that is named: branches come together there -/
theorem pss_cut {X : Cx} {st : Stmt} {rest : List Stmt} {t u : TS} (h1 : PS X st t) (h2 : PSs X rest u) : PSs X (st :: rest) (fun D σ H => ∃ Post : L2.St → Hp → Prop, t { D with nx := Post } σ H ∧ ∀ σ' H', Post σ' H' → u D σ' H') := by
  refine ⟨fun pins s σ H D I ⟨Post, h, hp⟩ => ?_⟩
  refine wpAny_execs_cons (thn (h1.run pins s σ H { D with nx := Post } I h) fun f s1 q => ?_)
  cases f with
  | next =>
    obtain ⟨σ', H', I', q⟩ := q
    exact h2.run pins s1 σ' H' D I' (hp _ _ q)
  | ret v => exact q
  | brk => exact q
  | cont => exact q
/-- what an error says of a plan -/
structure DW (w : V) (dw : LC.D) : Prop where
  at' : ∀ H : Hp, At H dw w
  s1 : SeqAt.shaped (LC.D.tup [.str "plan", dw]).py = true
  e1 : PyData.eqv (LC.D.tup [.str "plan", dw]).py (LC.D.tup [.str "plan", dw]).py = true
  s5 : SeqAt.shaped (LC.D.lst (List.replicate 5 (LC.D.tup [.str "plan", dw]))).py = true
  e5 : PyData.eqv (LC.D.lst (List.replicate 5 (LC.D.tup [.str "plan", dw]))).py (LC.D.lst (List.replicate 5 (LC.D.tup [.str "plan", dw]))).py = true
  fx : (LC.D.tup [.str "plan", dw]).fix = true
theorem dw_non : DW .non .non := ⟨fun _ => by unfold At; rfl, by decide +kernel, by decide +kernel, by decide +kernel, by decide +kernel, rfl⟩
theorem dw_int (a : Int) : DW (.int a) (.int a) := by
  have e1 : PyData.eqv (LC.D.tup [.str "plan", .int a]).py (LC.D.tup [.str "plan", .int a]).py = true := by
    show ((("plan" : Str) == ("plan" : Str)) && ((a == a) && true)) = true
    rw [beq_self_eq_true, beq_self_eq_true]; rfl
  refine ⟨fun _ => by unfold At; rfl, ?_, e1, ?_, ?_, rfl⟩
  · simp [SeqAt.shaped, LC.D.py, LC.D.pys, PyData.canLay0, PyData.canLayAll0, PyData.depth, PyData.depthAll]; decide +kernel
  · simp [SeqAt.shaped, LC.D.py, LC.D.pys, PyData.canLay0, PyData.canLayAll0, PyData.depth, PyData.depthAll, List.replicate]; decide +kernel
  · show (PyData.eqv _ _ && (PyData.eqv _ _ && (PyData.eqv _ _ && (PyData.eqv _ _ && (PyData.eqv _ _ && true))))) = true
    simp only [e1, Bool.and_self, Bool.and_true]
/-- the draws' row and the tables between a law's statements, its clock and its plan -/
structure Cp (K : PySem.W.Frag) (Ts : List Addr) (PL : Addr) (q : Str) (row scr : Addr) (ns : List Int) (cv : V) (k : Clk) (pa : Addr) (rs : List V) (pl : List (List Int)) (H : Hp) : Prop where
  s : Sta K Ts PL q H row scr ns
  c : ClkAt H cv k
  p : H pa = some (.tup rs)
  r : Rows H rs pl
section
variable {K : PySem.W.Frag} {Ts : List Addr} {PL : Addr} {q : Str} {row scr : Addr} {ns : List Int} {cv : V} {k : Clk} {pa : Addr} {rs : List V} {pl : List (List Int)} {H H1 : Hp}
theorem Cp.xn (h : Cp K Ts PL q row scr ns cv k pa rs pl H) (n : PL ∉ Tbl.ts) (x : Xn H H1) : Cp K Ts PL q row scr ns cv k pa rs pl H1 := ⟨h.s.xn n x, h.c.x x, x.tups _ _ h.p, h.r.x x⟩
theorem Cp.drawn (h : Cp K Ts PL q row scr ns cv k pa rs pl H) (n : PL ∉ Tbl.ts) (x : Xt (At1 row) H H1) (r : RowAt K H1 row scr ns) : Cp K Ts PL q row scr ns cv k pa rs pl H1 := ⟨h.s.drawn n x r, h.c.x x, x.tups _ _ h.p, h.r.x x⟩
theorem Cp.works (h : Cp K Ts PL q row scr ns cv k pa rs pl H) (x : Xt (At1 PL) H H1) (l : LamX.TabS H1 PL q) : Cp K Ts PL q row scr ns cv k pa rs pl H1 := ⟨h.s.works x l, h.c.x x, x.tups _ _ h.p, h.r.x x⟩
/-- what stands at an address that is neither the draws' row nor the table stays -/
theorem Cp.apart (h : Cp K Ts PL q row scr ns cv k pa rs pl H) {a : Addr} {o : HO} (e : H a = some o) (n : ∀ ps, o ≠ .tbl ps) (nr : a ≠ row) (x : Xt (RP row PL) H H1) : H1 a = some o := x.keep a o (fun z => z.elim nr fun z => by
  obtain ⟨ps, e1, _⟩ := h.s.l
  rw [z, e1] at e
  cases e
  exact n _ rfl) n e
end
end LX
-- YB
namespace LX
variable [LC.Tbl]
open PySem PySem.Spec PyProof.Rows L2 LC
/-- a statement, then the rest, with what is known between them -/
def tCut (t u : TS) : TS := fun D σ H => ∃ Post : L2.St → Hp → Prop, t { D with nx := Post } σ H ∧ ∀ σ' H', Post σ' H' → u D σ' H'
theorem pss_cutN {X : Cx} {st : Stmt} {rest : List Stmt} {t u : TS} (h1 : PS X st t) (h2 : PSs X rest u) : PSs X (st :: rest) (tCut t u) := pss_cut h1 h2
theorem cutI {t u : TS} {D : Ends} {σ : L2.St} {H : Hp} (Post : L2.St → Hp → Prop) (h1 : t { D with nx := Post } σ H) (h2 : ∀ σ' H', Post σ' H' → u D σ' H') : tCut t u D σ H := ⟨Post, h1, h2⟩
end LX
-- K17_w2
namespace K17
open PySem PySem.Spec PyProof.Rows L2 LC
variable [Tbl]
variable {P : Program} {w : World} {K : PySem.W.Frag} {mg : Str → Option Value} {base : Heap} {f c : Addr} {fd : FuncData} {Ts : List Addr} {TP : Addr}

theorem rows_app {H : Hp} {rs ss : List V} {xss yss : List (List Int)} (h : Rows H rs xss) (g : Rows H ss yss) : Rows H (rs ++ ss) (xss ++ yss) := ⟨by rw [List.length_append, List.length_append, h.1, g.1], fun i ns e => by
  by_cases z : i < xss.length
  · rw [List.getElem?_append_left z] at e
    rw [List.getElem?_append_left (by rw [h.1]; exact z)]
    exact h.2 i ns e
  · rw [List.getElem?_append_right (by omega)] at e
    rw [List.getElem?_append_right (by rw [h.1]; omega), h.1]
    exact g.2 _ ns e⟩

def sp_law_rows : Sp := fun vs H Q _ => ∃ (v : V) (k : Clk) (wh : Nat) (gp : List Int) (many : Nat) (start hi : Int), vs = [v, .int wh, .int many, .int start, .int hi] ∧ ClkAt H v k ∧ k.Ok ∧ k.gps[wh]? = some gp ∧ 0 ≤ start ∧ start ≤ 1000000 ∧ hi ≤ start + 40 ∧ 0 ≤ hi ∧ many ≤ 3 ∧ ∀ H' l rs, Xn H H' → H' l = some (.lst rs) → Rows H' rs (lr k.per gp start hi many) → Q (.ref l) H'
theorem ok_law_rows (T : Txt mg) (F : FunC K "_law_rows" s_law_rows f fd c) : FnOk P w K mg base CX0 1 f fd ["clock", "wheel", "many", "start", "end"] sp_law_rows := by
  refine F.ok sc_law_rows (fun vs H Q E h => ?_) (fun A outer s H vs Q E hr h => ⟨_, (pss_cons (ps_set (i := 5) sc_law_rows.nd rfl (Or.inl rfl) (pe_lst (pa_cons (pe_tup pa_nil) pa_nil)))
    (pss_cons (ps_for PassesOwn.never rfl (pi_range1 (by rfl) T.g_range (pa_cons (pv 2) pa_nil)) (pg_name (i := 6) sc_law_rows.nd rfl (Or.inl rfl)) (pss_cons (ps_set (i := 7) sc_law_rows.nd rfl (Or.inl rfl) (pe_lst pa_nil))
    (pss_cons (ps_for PassesOwn.never rfl (piK (K := K) iList (pi_list (pv 5)) rfl) (pg_name (i := 8) sc_law_rows.nd rfl (Or.inr rfl)) (LX.pss_cutN (ps_set (i := 9) sc_law_rows.nd rfl (Or.inl rfl) (pe_ifExp (pt_cmpR (opK (K := K) rNeD (op_neD hr.units) rfl) (pv 8) (pe_tup pa_nil) (nomark _)) (pe_op op_add (pe_ix (ixK (K := K) rIxT ix_tup rfl) (pv 8) (pe_un un_neg pe_int) (fun _ _ => rfl)) pe_int) (pv 3)))
    (pss_cons (ps_setLc (i := 10) (own := [("tick", 11)]) rfl sc_law_rows.nd rfl rfl (sw_true rfl rfl rfl (by decide +kernel)) (pi_range2 (by rfl) T.g_range (pa_cons (pv 9) (pa_cons (pv 4) pa_nil))) (blkOk_by (N := N_law_rows) (sc := defScope s_law_rows) (own := [("tick", 11)]) (by decide +kernel)) (fun _ _ _ _ _ => (pg_name (i := 11) sc_law_rows.nd rfl (Or.inl rfl))) (fun _ _ _ _ _ => (pts_one (pt_cmpR (opK (K := K) rInS op_inS rfl) (pe_op op_modN (pe_callTy call_int1 (by rfl) T.g_int (by decide +kernel) (pa_cons (pv 11) pa_nil)) (pe_ix (ixK (K := K) rIxT ix_tup rfl) (pv 0) pe_int (fun _ _ => rfl))) (pe_ix (ixK (K := K) rIxT ix_tup rfl) (pe_ix (ixK (K := K) rIxT ix_tup rfl) (pv 0) pe_int (fun _ _ => rfl)) (pv 1) (fun _ _ => rfl)) (by rfl)))) (fun _ _ _ _ _ => (pv 11)))
    (pss_one (ps_set (i := 7) sc_law_rows.nd rfl (Or.inl rfl) (pe_op op_cat (pv 7) (pe_lc (own := [("tick", 11)]) rfl sc_law_rows.nd (piK (K := K) iList (pi_list (pv 10)) rfl) (blkOk_by (N := N_law_rows) (sc := defScope s_law_rows) (own := [("tick", 11)]) (by decide +kernel)) (fun _ _ _ _ _ => (pg_name (i := 11) sc_law_rows.nd rfl (Or.inl rfl))) (fun _ _ _ _ _ => pts_nil) (fun _ _ _ _ _ => (pe_op (opK (K := K) rCatA op_catA rfl) (pv 8) (pe_tup (pa_cons (pv 11) pa_nil)))))))))))
    (pss_one (ps_set (i := 5) sc_law_rows.nd rfl (Or.inl rfl) (pv 7))))))
    (pss_one (ps_ret (pv 5))))), ?_⟩)
  · obtain ⟨v, k, wh, gp, many, start, hi, rfl, _⟩ := h; rfl
  · obtain ⟨v, k, wh, gp, many, start, hi, rfl, hC, ok, eg, s0, s1, h40, hi0, m3, q⟩ := h
    obtain ⟨⟨ca, e, tt, g, b, rt, rg, rb, rfl, h1, h2, h3, h4, h5, h6, h7, h8⟩⟩ := id hC
    obtain ⟨gr, egr, hgr⟩ := h6.2 wh gp eg
    have p0 := ok.per.1
    have hB : (hi - start).toNat ≤ 40 := by omega
    have pw : ∀ m, m ≤ 3 → (lr k.per gp start hi m).length ≤ 64000 := fun m hm => by
      refine Nat.le_trans (lr_len hB m) ?_
      match m, hm with
      | 0, _ => decide
      | 1, _ => decide
      | 2, _ => decide
      | 3, _ => decide
      | n + 4, h => exact absurd h (by omega)
    refine ⟨by show 0 ≤ sizeLine; decide, fun t0 ht0 => ⟨by show 1 ≤ sizeLine; decide, fun l0 hl0 => ?_⟩⟩
    have x0 : Xn H (upd (upd H t0 (.tup [])) l0 (.lst [V.ref t0])) := (Xt.new ht0).trans (Xt.new hl0)
    have hr0 : Rows (upd (upd H t0 (.tup [])) l0 (.lst [V.ref t0])) [V.ref t0] [[]] := (Rows.nil (H := upd (upd H t0 (.tup [])) l0 (.lst [V.ref t0]))).snoc (upd_old upd_same hl0)
    have hl0e : upd (upd H t0 (.tup [])) l0 (.lst [V.ref t0]) l0 = some (.lst [V.ref t0]) := upd_same
    generalize upd (upd H t0 (.tup [])) l0 (.lst [V.ref t0]) = H0 at x0 hr0 hl0e ⊢
    refine ⟨_, rfl, many, rfl, by omega, by omega, ?_⟩
    refine for_range (lo := 0) (n := many) (fun m σ G => ∃ l rs x6 x7 x8 x9 x10, σ = [some (.ref ca), some (.int wh), some (.int many), some (.int start), some (.int hi), some (.ref l), x6, x7, x8, x9, x10, none] ∧ Xn H G ∧ G l = some (.lst rs) ∧ Rows G rs (lr k.per gp start hi m)) ⟨l0, _, _, _, _, _, _, rfl, x0, hl0e, hr0⟩ (fun m σ G hm hp => ?_) (fun σ G hp => ?_)
    · obtain ⟨l, rs, x6, x7, x8, x9, x10, rfl, hx, hl, hrs⟩ := hp
      refine ⟨by show 0 ≤ sizeLine; decide, fun L0 hL0 => ?_⟩
      refine ⟨_, rfl, l, rfl, ⟨_, SqL.of (upd_old hl hL0)⟩, ?_⟩
      have lenP : ∀ i, i ≤ rs.length → (((lr k.per gp start hi m).take i).flatMap fun one => (goods k.per gp (lastOr one start) hi).map fun t => one ++ [t]).length ≤ 64000 := fun i _ => by
        refine Nat.le_trans ?_ (pw (m + 1) (by omega))
        show _ ≤ ((lr k.per gp start hi m).flatMap _).length
        conv => rhs; rw [← List.take_append_drop i (lr k.per gp start hi m), List.flatMap_append, List.length_append]
        exact Nat.le_add_right _ _
      refine for_list (xs := rs) (fun i σ G' => ∃ L lrs x8 x9 x10, σ = [some (.ref ca), some (.int wh), some (.int many), some (.int start), some (.int hi), some (.ref l), some (.int (0 + (m : Int))), some (.ref L), x8, x9, x10, none] ∧ Xn H G' ∧ G' l = some (.lst rs) ∧ Rows G' rs (lr k.per gp start hi m) ∧ G' L = some (.lst lrs) ∧ Rows G' lrs (((lr k.per gp start hi m).take i).flatMap fun one => (goods k.per gp (lastOr one start) hi).map fun t => one ++ [t]))
        ⟨L0, [], _, _, _, rfl, hx.trans (Xt.new hL0), upd_old hl hL0, hrs.x (Xt.new (S := No) hL0), upd_same, Rows.nil⟩ (fun i σ G' _ hp => ?_) (fun i x σ G' ex hp => ?_) (fun σ G' hp => ?_)
      · obtain ⟨_, _, _, _, _, _, _, e, _⟩ := hp
        exact SqL.of e
      · obtain ⟨L, lrs, x8, x9, x10, rfl, hxG, hlG, hrsG, hLG, hlrs⟩ := hp
        obtain ⟨r, ts, rfl, ets, hr⟩ := hrsG.get ex
        obtain ⟨tl, tp, tb⟩ := mem_lr.mp (List.mem_of_getElem? ets)
        refine LX.cutI (fun σ' G2 => σ' = [some (.ref ca), some (.int wh), some (.int many), some (.int start), some (.int hi), some (.ref l), some (.int (0 + (m : Int))), some (.ref L), some (.ref r), some (.int (lastOr ts start)), x10, none] ∧ Xn G' G2) ?_ ?_
        · refine ⟨_, rfl, by show 0 ≤ sizeLine; decide, fun e0 he0 => ?_⟩
          have xe : Xn G' (upd G' e0 (.tup [])) := Xt.new he0
          have ee : upd G' e0 (.tup []) e0 = some (.tup []) := upd_same
          generalize upd G' e0 (.tup []) = G2 at xe ee ⊢
          refine ⟨.tuple (ts.map .int), .tuple [], .tup (SqT.of (xe.tups _ _ hr)) (dp_ints ts), .tup (SqT.of ee) .nil, LX.shaped_ints ts, by decide +kernel, _, rfl, ?_⟩
          rcases nil_or_snoc ts with z | ⟨tl', y, z⟩
          · subst z
            exact LX.itF (by decide +kernel) ⟨_, rfl, rfl, xe⟩
          · refine LX.itT (by rw [z]; cases tl' <;> rfl) ⟨_, rfl, 1, rfl, r, _, _, _, rfl, rfl, SqT.of (xe.tups _ _ hr), atI_end (v := .int y) ?_, _, _, rfl, rfl, ?_, xe⟩
            · rw [z, List.length_map, List.length_append, List.getElem?_map]
              show ((tl' ++ [y])[tl'.length + 1 - 1]?).map V.int = _
              rw [List.getElem?_append_right (by omega), Nat.add_sub_cancel, Nat.sub_self]; rfl
            · rw [z, lastOr_snoc]; rfl
        · rintro σ' G2 ⟨rfl, xg⟩
          have hlo := lastOr_ge (s := start) fun x hx => (tb x hx).1
          have hlo2 : lastOr ts start ≤ 1000100 := by
            rcases nil_or_snoc ts with z | ⟨tl', y, z⟩
            · rw [z]; show start ≤ _; omega
            · rw [z, lastOr_snoc]
              have := tb y (by rw [z]; exact List.mem_append_right _ List.mem_cons_self)
              omega
          have xHG := hxG.trans xg
          have xH1 := xHG.tups _ _ h1
          refine ⟨_, rfl, _, rfl, lastOr ts start, hi, rfl, ⟨by omega, by omega, by omega, by omega⟩, fun D hD => ?_⟩
          obtain ⟨tk0, htk0⟩ : ∃ z, (List.range (hi - lastOr ts start).toNat).map (fun (n : Nat) => lastOr ts start + (n : Int)) = z := ⟨_, rfl⟩
          have tkl : tk0.length = (hi - lastOr ts start).toNat := by rw [← htk0, List.length_map, List.length_range]
          have tkg : ∀ n, n < (hi - lastOr ts start).toNat → tk0[n]? = some (lastOr ts start + (n : Int)) := fun n hn => by rw [← htk0, List.getElem?_map, List.getElem?_range hn]; rfl
          have tkgood : tk0.filter (fun t => decide (t % k.per ∈ gp)) = goods k.per gp (lastOr ts start) hi := by rw [← htk0]; rfl
          refine drvR (lo := lastOr ts start) (n := (hi - lastOr ts start).toNat) (fun n H' => Xn G2 H' ∧ H' D = some (.lst (((tk0.take n).filter fun t => decide (t % k.per ∈ gp)).map V.int))) ⟨Xt.new hD, upd_same⟩ (fun n H' hn hp => ?_) (fun H' hp => ?_)
          · obtain ⟨hxx, hD'⟩ := hp
            have hx1 := (xHG.trans hxx)
            refine ⟨rfl, ⟨_, rfl, .inl ⟨_, rfl, _, rfl, rixV 0 (hx1.tups _ _ h1) rfl rfl ⟨_, _, rfl, rfl, by omega, _, rfl, rixV 3 (hx1.tups _ _ h1) rfl rfl ⟨_, rfl, rixT_of (hx1.tups _ _ h5) rfl egr ?_⟩⟩⟩⟩⟩
            refine ⟨gr, _, rfl, .inr (SqT.of (hx1.tups _ _ hgr)), rfl, flat_ints _, ?_⟩
            rw [inV_ints, Int.fmod_eq_emod_of_nonneg _ (by omega)]
            by_cases m2 : (lastOr ts start + (n : Int)) % k.per ∈ gp
            · refine ⟨true, by rw [if_neg Bool.false_ne_true]; exact congrArg V.bl (decide_eq_true m2), iteT ⟨_, rfl, _, hD', sz_lt ?_, hxx.young hD, ?_⟩⟩
              · rw [List.length_map]
                have := List.length_filter_le (fun t : Int => decide (t % k.per ∈ gp)) (tk0.take n)
                rw [List.length_take] at this
                omega
              · rw [upd_same, filt_yes (tkg n hn) (decide_eq_true m2), List.map_append]; rfl
            · refine ⟨false, by rw [if_neg Bool.false_ne_true]; exact congrArg V.bl (decide_eq_false m2), iteF ⟨hxx, ?_⟩⟩
              rw [filt_no (tkg n hn) (decide_eq_false m2)]; exact hD'
          obtain ⟨hxx, hD'⟩ := hp
          rw [← tkl, List.take_length, tkgood] at hD'
          have xLG := xg.trans hxx
          have xHG' := xHG.trans hxx
          -- the longer ones
          refine ⟨_, rfl, _, rfl, D, rfl, ⟨_, SqL.of hD'⟩, fun D2 hD2 => ?_⟩
          have gl40 : (goods k.per gp (lastOr ts start) hi).length ≤ 40 := Nat.le_trans goods_len (by omega)
          refine drvL (xs := (goods k.per gp (lastOr ts start) hi).map V.int) (fun n H2 => Xn H' H2 ∧ ∃ acc, H2 D2 = some (.lst acc) ∧ Rows H2 acc (((goods k.per gp (lastOr ts start) hi).take n).map fun t => ts ++ [t])) ⟨Xt.new hD2, [], upd_same, Rows.nil⟩ (fun n H2 _ hp => SqL.of (hp.1.keep D _ (fun z => z) (fun _ z => by cases z) hD')) (fun n y H2 ey hp => ?_) (fun H2 hp => ?_)
          · obtain ⟨hx2, acc, hacc, hra⟩ := hp
            obtain ⟨t, et, rfl⟩ := getI ey
            refine ⟨rfl, yes_of ⟨_, rfl, _, rfl, by show 1 ≤ sizeLine; decide, fun pt hpt => ?_⟩⟩
            have xp : Xn H2 (upd H2 pt (.tup [V.int t])) := Xt.new hpt
            refine LX.catA (ys := [t].map V.int) (xp.tups _ _ ((xLG.trans hx2).tups _ _ hr)) upd_same (by rw [List.length_map]; show ts.length + 1 ≤ 1000; omega) fun H3 p x3 ep => ?_
            have xx := xp.trans x3
            have hacc3 := xx.keep D2 _ (fun z => z) (fun _ z => by cases z) hacc
            have hn := (List.getElem?_eq_some_iff.mp et).1
            refine ⟨acc, hacc3, sz_lt (by rw [hra.1, List.length_map, List.length_take]; omega), (hx2.trans xx).young hD2, acc ++ [V.ref p], upd_same, ?_⟩
            have own : Xt (At1 D2) H3 (upd H3 D2 (.lst (acc ++ [V.ref p]))) := Xt.own rfl hacc3
            rw [take_snocE et, List.map_append]
            rw [← List.map_append] at ep
            exact ((hra.x xx).x own).snoc (own.tups _ _ ep)
          obtain ⟨hx2, acc, hacc, hra⟩ := hp
          rw [List.length_map, List.take_length] at hra
          have xLG2 := xLG.trans hx2
          have hLG2 := xLG2.keep L _ (fun z => z) (fun _ z => by cases z) hLG
          have hi' : i < rs.length := (List.getElem?_eq_some_iff.mp ex).1
          have e2 : ((lr k.per gp start hi m).take (i + 1)).flatMap (fun one => (goods k.per gp (lastOr one start) hi).map fun t => one ++ [t]) = ((lr k.per gp start hi m).take i).flatMap (fun one => (goods k.per gp (lastOr one start) hi).map fun t => one ++ [t]) ++ (goods k.per gp (lastOr ts start) hi).map fun t => ts ++ [t] := by
            rw [take_snocE ets, List.flatMap_append, List.flatMap_singleton]
          have hll := lenP (i + 1) (by omega)
          rw [e2, List.length_append] at hll
          refine ⟨L, D2, lrs, acc, rfl, rfl, hLG2, hacc, by rw [hlrs.1, hra.1, sizeLine_eq]; omega, fun L2 hL2 => ?_⟩
          have x5 := xLG2.trans (Xt.new (o := .lst (lrs ++ acc)) hL2)
          refine ⟨L2, lrs ++ acc, _, _, _, rfl, hxG.trans x5, x5.keep l _ (fun z => z) (fun _ z => by cases z) hlG, hrsG.x x5, upd_same, ?_⟩
          rw [e2]
          exact rows_app (hlrs.x x5) (hra.x (Xt.new (S := No) hL2))
      · obtain ⟨L, lrs, x8, x9, x10, rfl, hxG, hlG, hrsG, hLG, hlrs⟩ := hp
        rw [hrsG.1, List.take_length] at hlrs
        exact ⟨_, rfl, L, lrs, _, _, _, _, _, rfl, hxG, hLG, hlrs⟩
    · obtain ⟨l, rs, x6, x7, x8, x9, x10, rfl, hx, hl, hrs⟩ := hp
      exact ⟨_, rfl, q G l rs hx hl hrs⟩

end K17
-- K17_d2
namespace K17
open PySem PySem.Spec PyProof.Rows L2 LC
variable [Tbl]
variable {P : Program} {w : World} {K : PySem.W.Frag} {mg : Str → Option Value} {base : Heap} {f c : Addr} {fd : FuncData} {Ts : List Addr} {TP : Addr}

/-! the same promises where the answer is known -/
def sb_whole : Sp := fun vs H Q _ => ∃ i, vs = [.int i] ∧ Q (.bl true) H
def sb_between : Sp := fun vs H Q _ => ∃ i lo hi, vs = [.int i, .int lo, .int hi] ∧ lo ≤ i ∧ i ≤ hi ∧ Q (.bl true) H
theorem between1 (C : Callee P w K mg base "is_between" 2 ["value", "low", "high"] (sp_is_between K)) : Callee P w K mg base "is_between" 2 ["value", "low", "high"] sb_between := C.imp fun vs H Q E h => by
  obtain ⟨i, lo, hi, rfl, h1, h2, q⟩ := h
  refine ⟨_, _, _, rfl, kd_int, ?_⟩
  rw [btw_int h1 h2]
  exact q

def sb_tuple_of : Sp := fun vs H Q _ => ∃ a xs n, vs = [.ref a, .int n] ∧ H a = some (.tup xs) ∧ (xs.length : Int) = n ∧ Q (.bl true) H
theorem tuple_of1 (C : Callee P w K mg base "is_tuple_of" 1 ["value", "many"] (sp_is_tuple_of K)) : Callee P w K mg base "is_tuple_of" 1 ["value", "many"] sb_tuple_of := C.imp fun vs H Q E h => by
  obtain ⟨a, xs, n, rfl, h1, h2, q⟩ := h
  refine ⟨_, _, rfl, kt_tup h1, ?_⟩
  rw [tupOf_ref h1]
  show Q (.bl (decide ((xs.length : Int) = n))) H
  rw [decide_eq_true h2]
  exact q

def sp_check_tick : Sp := fun vs H Q _ => ∃ i lo, vs = [.int i, .int lo] ∧ lo ≤ i ∧ i ≤ 1000000000000000000000000000000 ∧ Q .non H
theorem ok_check_tick (T : Txt mg) (C_is_between : Callee P w K mg base "is_between" 2 ["value", "low", "high"] sb_between) (F : FunC K "check_tick" s_check_tick f fd c) : FnOk P w K mg base CX0 3 f fd ["tick", "least"] sp_check_tick := by
  refine F.ok sc_check_tick (fun vs H Q E h => ?_) (fun A outer s H vs Q E hr h => ⟨_, (pss_one (ps_if (pt_not (pt_val (pe_callC C_is_between hr (by rfl) (pa_cons (pv 0) (pa_cons (pv 1) (pa_cons (pe_gI rfl T.m_MOST) pa_nil)))))) (pss_one ps_never) pss_nil)), ?_⟩)
  · obtain ⟨i, lo, rfl, _⟩ := h; rfl
  · obtain ⟨i, lo, rfl, h1, h2, q⟩ := h
    refine ⟨_, rfl, _, rfl, i, lo, _, rfl, h1, h2, true, rfl, ?_⟩
    exact iteF q

def sp_is_touch : Sp := fun vs H Q _ => ∃ per e t eds ns, vs = [.int per, .ref e, .ref t] ∧ H e = some (.tup (eds.map V.int)) ∧ H t = some (.tup (ns.map V.int)) ∧ TchOk per eds ns ∧ Q (.bl true) H
theorem ok_is_touch (T : Txt mg) (C_is_between : Callee P w K mg base "is_between" 2 ["value", "low", "high"] sb_between) (C_is_tuple_of : Callee P w K mg base "is_tuple_of" 1 ["value", "many"] sb_tuple_of) (F : FunC K "is_touch" s_is_touch f fd c) : FnOk P w K mg base CX0 3 f fd ["period", "editions", "value"] sp_is_touch := by
  refine F.ok sc_is_touch (fun vs H Q E h => ?_) (fun A outer s H vs Q E hr h => ⟨_, (pss_cons (ps_if (pt_not (pt_val (pe_callC C_is_tuple_of hr (by rfl) (pa_cons (pv 2) (pa_cons pe_int pa_nil))))) (pss_one (ps_ret pe_bl)) pss_nil)
    (pss_cons (ps_asg (pv 2) (pg_tup rfl (pgs_cons (pg_name (i := 4) sc_is_touch.nd rfl (Or.inl rfl)) (pgs_cons (pg_name (i := 5) sc_is_touch.nd rfl (Or.inl rfl)) (pgs_cons (pg_name (i := 6) sc_is_touch.nd rfl (Or.inl rfl)) pgs_nil)))))
    (pss_cons (ps_set (i := 3) sc_is_touch.nd rfl (Or.inl rfl) (pe_op op_sub (pe_callB (crK (K := K) rLenQ cr_len rfl) (by rfl) T.g_len (by decide +kernel) (pa_cons (pv 1) pa_nil)) pe_int))
    (pss_one (ps_ret (pe_and (pe_callC C_is_between hr (by rfl) (pa_cons (pv 4) (pa_cons pe_int (pa_cons (pe_op op_sub (pv 0) pe_int) pa_nil)))) (pe_and (pe_callC C_is_between hr (by rfl) (pa_cons (pv 5) (pa_cons pe_int (pa_cons (pv 3) pa_nil)))) (pe_one (pe_callC C_is_between hr (by rfl) (pa_cons (pv 6) (pa_cons (pe_op op_add (pv 5) pe_int) (pa_cons (pv 3) pa_nil)))))))))))), ?_⟩)
  · obtain ⟨per, e, t, eds, ns, rfl, _⟩ := h; rfl
  · obtain ⟨per, e, t, eds, ns, rfl, he, ht, ⟨p, i, j, rfl, h1, h2, h3, h4, h5⟩, q⟩ := h
    refine ⟨_, rfl, t, _, 3, rfl, ht, rfl, true, rfl, ?_⟩
    refine iteF ?_
    refine ⟨_, rfl, t, _, rfl, SqT.of ht, rfl, _, _, rfl, _, _, rfl, _, _, rfl, rfl, ?_⟩
    refine ⟨_, rfl, e, _, rfl, .inr (SqT.of he), _, _, rfl, rfl, ?_⟩
    rw [List.length_map]
    refine ⟨_, rfl, _, rfl, _, _, rfl, rfl, p, 0, per - 1, rfl, h1, by omega, true, rfl, ?_⟩
    refine iteT ⟨_, rfl, _, rfl, i, 0, (eds.length : Int) - 1, rfl, h3, by omega, true, rfl, ?_⟩
    refine iteT ⟨_, rfl, _, rfl, _, _, rfl, rfl, _, rfl, j, i + 1, (eds.length : Int) - 1, rfl, by omega, by omega, ?_⟩
    exact q


theorem kys_rows {H : Hp} {rs : List V} {xss : List (List Int)} (h : Rows H rs xss) : Kys K H rs xss := ⟨h.1, .inr fun i x e => by
  obtain ⟨b, ns, e1, e2, e3⟩ := h.get e
  exact ⟨b, ns, e1, e3, e2⟩⟩
theorem kys_ints {H : Hp} {ns : List Int} : Kys K H (ns.map V.int) (ns.map fun n => [n]) := ⟨by rw [List.length_map, List.length_map], .inl fun i x e => by
  rw [List.getElem?_map] at e
  cases z : ns[i]? with
  | none => rw [z] at e; cases e
  | some n => rw [z] at e; cases e; exact ⟨n, rfl, by rw [List.getElem?_map, z]; rfl⟩⟩
def sb_rising (K : PySem.W.Frag) : Sp := fun vs H Q _ => ∃ (a : Addr) (xs : List V) (ks : List (List Int)), vs = [.ref a] ∧ (SqL K H a xs ∨ SqT K H a xs) ∧ Kys K H xs ks ∧ xs.length ≤ 1000 ∧ rising ks = true ∧ ∀ H', Xn H H' → Q (.bl true) H'
theorem rising1 (C : Callee P w K mg base "is_rising" 1 ["things"] (sp_is_rising K)) : Callee P w K mg base "is_rising" 1 ["things"] (sb_rising K) := C.imp fun vs H Q E h => by
  obtain ⟨a, xs, ks, rfl, h1, h2, h3, h4, q⟩ := h
  refine ⟨a, xs, ks, rfl, h1, h2, h3, fun H' x => ?_⟩
  rw [h4]
  exact q H' x

def sp_are_editions (Ts : List Addr) : Sp := fun vs H Q _ => ∃ (e : Addr) (eds : List Int), vs = [.ref e] ∧ H e = some (.tup (eds.map V.int)) ∧ 1 ≤ eds.length ∧ eds.length ≤ 12 ∧ (∀ e ∈ eds, 0 ≤ e ∧ e ≤ 4) ∧ eds.sum ≤ 24 ∧ Tabs Ts H ∧ ∀ H', Xn H H' → Q (.bl true) H'
theorem ok_are_editions (T : Txt mg) (TB : GxR.TabB base mg c TP) (hT : TP ∈ Ts) (C_is_between : Callee P w K mg base "is_between" 2 ["value", "low", "high"] sb_between) (F : FunC K "are_editions" s_are_editions f fd c) : FnOk P w K mg base CX0 5 f fd ["value"] (sp_are_editions Ts) := by
  refine F.ok sc_are_editions (fun vs H Q E h => ?_) (fun A outer s H vs Q E hr h => ⟨_, (pss_cons (ps_if (PW.pt (pw_or (pt_not (pt_val (pe_callB (crK (K := K) rIsi call_isi rfl) (by rfl) T.g_isinstance (by decide +kernel) (pa_cons (pv 0) (pa_cons (pe_bltn (v := .ty "tuple") (by rfl) T.g_tuple boot_tuple rfl) pa_nil))))) (pw_or1 (pt_not (pt_chain op_le op_le pe_int (pe_callB (crK (K := K) rLenQ cr_len rfl) (by rfl) T.g_len (by decide +kernel) (pa_cons (pv 0) pa_nil)) (pe_gI rfl T.m_MOST_WHEELS)))))) (pss_one (ps_ret pe_bl)) pss_nil)
    (pss_one (ps_ret (pe_and (pe_allG (own := [("last", 1)]) hr rfl sc_are_editions.nd (by rfl) T.g_all (by decide +kernel) TB rfl (piK (K := K) iTup (pi_tup (pv 0)) rfl) (gscp_by (N := N_are_editions) (sc := defScope s_are_editions) (own := [("last", 1)]) (by decide +kernel)) (fun _ _ _ _ _ _ => (pg_name (i := 1) sc_are_editions.nd rfl (Or.inl rfl))) (fun _ _ _ _ _ _ hr9 => pts_nil) (fun _ _ _ _ _ _ hr9 => (pe_callC C_is_between hr9 (by rfl) (pa_cons (pv 1) (pa_cons pe_int (pa_cons (pe_gI rfl T.m_MOST_EDITION) pa_nil)))))) (pe_one (pe_cmpR op_le (pe_callB (crK (K := K) rSumT (cr_sumT rfl) rfl) (by rfl) T.g_sum (by decide +kernel) (pa_cons (pv 0) pa_nil)) (pe_gI rfl T.m_MOST_EXCHANGES) (nomark _))))))), ?_⟩)
  · obtain ⟨e, eds, rfl, _⟩ := h; rfl
  · obtain ⟨e, eds, rfl, he, h1, h2, h3, h4, hTs, q⟩ := h
    refine ⟨_, rfl, .ref _, .ty "tuple", .type "tuple", .type "tuple", true, rfl, .ty _, .base (.tup he), kit_ty (by decide +kernel), true, rfl, ?_⟩
    refine iteF ⟨_, rfl, e, _, rfl, .inr (SqT.of he), _, _, rfl, rfl, _, rfl, ?_⟩
    rw [List.length_map, decide_eq_true (by omega : (1 : Int) ≤ (eds.length : Int))]
    refine iteT ⟨_, _, rfl, rfl, _, rfl, ?_⟩
    rw [decide_eq_true (by omega : (eds.length : Int) ≤ 12)]
    refine iteF ?_
    refine ⟨_, rfl, e, rfl, ⟨_, SqT.of he⟩, hTs _ hT, fun H4 ht => ?_⟩
    have x4 := Xt.tabbed (S := No) (hTs _ hT) ht
    refine allG_tup (fun _ H' => Xn H H') x4 (fun i H' _ x => SqT.of (x.tups _ _ he)) (fun i v H' ev x => ?_) (fun H' x => ?_)
    · obtain ⟨n, hn, rfl⟩ : ∃ n, n ∈ eds ∧ V.int n = v := by
        have := List.mem_of_getElem? ev
        rw [List.mem_map] at this
        exact this
      obtain ⟨n1, n2⟩ := h3 n hn
      exact ⟨rfl, yes_of ⟨_, rfl, n, 0, 4, rfl, n1, n2, true, rfl, iteT x⟩⟩
    · refine ⟨true, rfl, iteT ⟨_, rfl, e, eds, rfl, .inl (SqT.of (x.tups _ _ he)), _, _, rfl, rfl, ?_⟩⟩
      exact bl_of (Q := Q) (decide_eq_true h4) (q H' x)

end K17
-- K17_d3
namespace K17
open PySem PySem.Spec PyProof.Rows L2 LC
variable [Tbl]
variable {P : Program} {w : World} {K : PySem.W.Frag} {mg : Str → Option Value} {base : Heap} {f c : Addr} {fd : FuncData} {Ts : List Addr} {TP : Addr}

def sp_are_touches (Ts : List Addr) : Sp := fun vs H Q _ => ∃ (per : Int) (e t : Addr) (eds : List Int) (rt : List V) (tch : List (List Int)), vs = [.int per, .ref e, .ref t] ∧ H e = some (.tup (eds.map V.int)) ∧ H t = some (.tup rt) ∧ Rows H rt tch ∧ (∀ t ∈ tch, TchOk per eds t) ∧ rising tch = true ∧ tch.length ≤ 1000 ∧ Tabs Ts H ∧ ∀ H', Xn H H' → Q (.bl true) H'
theorem ok_are_touches (T : Txt mg) (TB : GxR.TabB base mg c TP) (hT : TP ∈ Ts) (C_is_touch : Callee P w K mg base "is_touch" 3 ["period", "editions", "value"] sp_is_touch) (C_is_rising : Callee P w K mg base "is_rising" 1 ["things"] (sb_rising K)) (F : FunC K "are_touches" s_are_touches f fd c) : FnOk P w K mg base CX0 6 f fd ["period", "editions", "value"] (sp_are_touches Ts) := by
  refine F.ok sc_are_touches (fun vs H Q E h => ?_) (fun A outer s H vs Q E hr h => ⟨_, (pss_cons (ps_if (pt_not (pt_val (pe_callB (crK (K := K) rIsi call_isi rfl) (by rfl) T.g_isinstance (by decide +kernel) (pa_cons (pv 2) (pa_cons (pe_bltn (v := .ty "tuple") (by rfl) T.g_tuple boot_tuple rfl) pa_nil))))) (pss_one (ps_ret pe_bl)) pss_nil)
    (pss_one (ps_ret (pe_and (pe_allG (own := [("touch", 3)]) hr rfl sc_are_touches.nd (by rfl) T.g_all (by decide +kernel) TB rfl (piK (K := K) iTup (pi_tup (pv 2)) rfl) (gscp_by (N := N_are_touches) (sc := defScope s_are_touches) (own := [("touch", 3)]) (by decide +kernel)) (fun _ _ _ _ _ _ => (pg_name (i := 3) sc_are_touches.nd rfl (Or.inl rfl))) (fun _ _ _ _ _ _ hr9 => pts_nil) (fun _ _ _ _ _ _ hr9 => (pe_callC C_is_touch hr9 (by rfl) (pa_cons (pv 0) (pa_cons (pv 1) (pa_cons (pv 3) pa_nil)))))) (pe_one (pe_callC C_is_rising hr (by rfl) (pa_cons (pv 2) pa_nil))))))), ?_⟩)
  · obtain ⟨per, e, t, eds, rt, tch, rfl, _⟩ := h; rfl
  · obtain ⟨per, e, t, eds, rt, tch, rfl, he, ht, hrt, hok, hri, hlen, hTs, q⟩ := h
    refine ⟨_, rfl, .ref _, .ty "tuple", .type "tuple", .type "tuple", true, rfl, .ty _, .base (.tup ht), kit_ty (by decide +kernel), true, rfl, ?_⟩
    refine iteF ?_
    refine ⟨_, rfl, t, rfl, ⟨_, SqT.of ht⟩, hTs _ hT, fun H4 htb => ?_⟩
    have x4 := Xt.tabbed (S := No) (hTs _ hT) htb
    refine allG_tup (fun _ H' => Xn H H') x4 (fun i H' _ x => SqT.of (x.tups _ _ ht)) (fun i v H' ev x => ?_) (fun H' x => ?_)
    · obtain ⟨b, ns, rfl, e1, e2⟩ := hrt.get ev
      exact ⟨rfl, yes_of ⟨_, rfl, _, rfl, _, rfl, per, e, b, eds, ns, rfl, x.tups _ _ he, x.tups _ _ e2, hok ns (List.mem_of_getElem? e1), true, rfl, iteT x⟩⟩
    · exact ⟨true, rfl, iteT ⟨_, rfl, t, rt, tch, rfl, .inr (SqT.of (x.tups _ _ ht)), kys_rows (hrt.x x), by rw [hrt.1]; exact hlen, hri, fun H'' x2 => q H'' (x.trans x2)⟩⟩

def sp_are_wheel_gaps (Ts : List Addr) : Sp := fun vs H Q _ => ∃ (per last : Int) (g : Addr) (ns : List Int), vs = [.int per, .int last, .ref g] ∧ H g = some (.tup (ns.map V.int)) ∧ GpsOk per last ns ∧ Tabs Ts H ∧ ∀ H', Xn H H' → Q (.bl true) H'
theorem ok_are_wheel_gaps (T : Txt mg) (TB : GxR.TabB base mg c TP) (hT : TP ∈ Ts) (C_is_between : Callee P w K mg base "is_between" 2 ["value", "low", "high"] sb_between) (C_is_rising : Callee P w K mg base "is_rising" 1 ["things"] (sb_rising K)) (F : FunC K "are_wheel_gaps" s_are_wheel_gaps f fd c) : FnOk P w K mg base CX0 5 f fd ["period", "last", "value"] (sp_are_wheel_gaps Ts) := by
  refine F.ok sc_are_wheel_gaps (fun vs H Q E h => ?_) (fun A outer s H vs Q E hr h => ⟨_, (pss_cons (ps_if (PW.pt (pw_or (pt_not (pt_val (pe_callB (crK (K := K) rIsi call_isi rfl) (by rfl) T.g_isinstance (by decide +kernel) (pa_cons (pv 2) (pa_cons (pe_bltn (v := .ty "tuple") (by rfl) T.g_tuple boot_tuple rfl) pa_nil))))) (pw_or1 (PW.pt (pw_and (pt_cmpR op_gt (pv 1) pe_int (nomark _)) (pw_and1 (pt_not (pt_truth (pv 2) (by intro _; rfl))))))))) (pss_one (ps_ret pe_bl)) pss_nil)
    (pss_one (ps_ret (pe_and (pe_allG (own := [("phase", 3)]) hr rfl sc_are_wheel_gaps.nd (by rfl) T.g_all (by decide +kernel) TB rfl (piK (K := K) iTup (pi_tup (pv 2)) rfl) (gscp_by (N := N_are_wheel_gaps) (sc := defScope s_are_wheel_gaps) (own := [("phase", 3)]) (by decide +kernel)) (fun _ _ _ _ _ _ => (pg_name (i := 3) sc_are_wheel_gaps.nd rfl (Or.inl rfl))) (fun _ _ _ _ _ _ hr9 => pts_nil) (fun _ _ _ _ _ _ hr9 => (pe_callC C_is_between hr9 (by rfl) (pa_cons (pv 3) (pa_cons pe_int (pa_cons (pe_op op_sub (pv 0) pe_int) pa_nil)))))) (pe_one (pe_callC C_is_rising hr (by rfl) (pa_cons (pv 2) pa_nil))))))), ?_⟩)
  · obtain ⟨per, last, g, ns, rfl, _⟩ := h; rfl
  · obtain ⟨per, last, g, ns, rfl, hg, ⟨g1, g2, g3, g4⟩, hTs, q⟩ := h
    refine ⟨_, rfl, .ref _, .ty "tuple", .type "tuple", .type "tuple", true, rfl, .ty _, .base (.tup hg), kit_ty (by decide +kernel), true, rfl, ?_⟩
    refine iteF ⟨_, rfl, _, _, rfl, rfl, _, rfl, ?_⟩
    by_cases h0 : last > 0
    rw [decide_eq_true h0]
    refine iteT ⟨_, rfl, true, .inr (.inl ⟨_, SqT.of hg, ?_⟩), iteF ?_⟩
    · cases ns with
      | nil => exact absurd rfl (g1 h0)
      | cons x xs => rfl
    rotate_left
    rw [decide_eq_false h0]
    refine iteF (iteF ?_)
    all_goals
      refine ⟨_, rfl, g, rfl, ⟨_, SqT.of hg⟩, hTs _ hT, fun H4 htb => ?_⟩
      have x4 := Xt.tabbed (S := No) (hTs _ hT) htb
      refine allG_tup (fun _ H' => Xn H H') x4 (fun i H' _ x => SqT.of (x.tups _ _ hg)) (fun i v H' ev x => ?_) (fun H' x => ?_)
      · obtain ⟨n, hn, rfl⟩ : ∃ n, n ∈ ns ∧ V.int n = v := by
          have := List.mem_of_getElem? ev
          rw [List.mem_map] at this
          exact this
        obtain ⟨n1, n2⟩ := g2 n hn
        exact ⟨rfl, yes_of ⟨_, rfl, _, rfl, _, _, rfl, rfl, n, 0, per - 1, rfl, n1, by omega, true, rfl, iteT x⟩⟩
      · exact ⟨true, rfl, iteT ⟨_, rfl, g, _, _, rfl, .inr (SqT.of (x.tups _ _ hg)), kys_ints, by rw [List.length_map]; exact g4, g3, fun H'' x2 => q H'' (x.trans x2)⟩⟩

def sp_are_gaps (Ts : List Addr) : Sp := fun vs H Q _ => ∃ (per : Int) (e g : Addr) (eds : List Int) (rg : List V) (gps : List (List Int)), vs = [.int per, .ref e, .ref g] ∧ H e = some (.tup (eds.map V.int)) ∧ H g = some (.tup rg) ∧ Rows H rg gps ∧ gps.length = eds.length ∧ eds.length ≤ 12 ∧ (∀ (i : Nat) (e : Int) (g : List Int), eds[i]? = some e → gps[i]? = some g → GpsOk per e g) ∧ Tabs Ts H ∧ ∀ H', Xn H H' → Q (.bl true) H'
theorem ok_are_gaps (T : Txt mg) (C_are_wheel_gaps : Callee P w K mg base "are_wheel_gaps" 5 ["period", "last", "value"] (sp_are_wheel_gaps Ts)) (C_is_tuple_of : Callee P w K mg base "is_tuple_of" 1 ["value", "many"] sb_tuple_of) (F : FunC K "are_gaps" s_are_gaps f fd c) : FnOk P w K mg base CX0 6 f fd ["period", "editions", "value"] (sp_are_gaps Ts) := by
  refine F.ok sc_are_gaps (fun vs H Q E h => ?_) (fun A outer s H vs Q E hr h => ⟨_, (pss_cons (ps_if (pt_not (pt_val (pe_callC C_is_tuple_of hr (by rfl) (pa_cons (pv 2) (pa_cons (pe_callB (crK (K := K) rLenQ cr_len rfl) (by rfl) T.g_len (by decide +kernel) (pa_cons (pv 1) pa_nil)) pa_nil))))) (pss_one (ps_ret pe_bl)) pss_nil)
    (pss_one (ps_ret (pe_callB (crK (K := K) rAll (cr_all rfl) rfl) (by rfl) T.g_all (by decide +kernel) (pa_cons (pe_lc (own := [("last", 3), ("phases", 4)]) rfl sc_are_gaps.nd (piA (K := K) RZ.iZipA (RZ.pi_zipA (by rfl) T.g_zip (pa_cons (pv 1) (pa_cons (pv 2) pa_nil))) rfl) (blkOk_by (N := N_are_gaps) (sc := defScope s_are_gaps) (own := [("last", 3), ("phases", 4)]) (by decide +kernel)) (fun _ _ _ _ _ => (pg_tupK (K := K) (n := 2) rfl rfl (pgs_cons (pg_name (i := 3) sc_are_gaps.nd rfl (Or.inl rfl) (hf := Or.inr rfl)) (pgs_cons (pg_name (i := 4) sc_are_gaps.nd rfl (Or.inl rfl) (hf := Or.inr rfl)) pgs_nil)) rfl rfl)) (fun _ _ _ _ _ => pts_nil) (fun _ _ _ _ _ => (pe_callC C_are_wheel_gaps hr (by rfl) (pa_cons (pv 0) (pa_cons (pv 3) (pa_cons (pv 4) pa_nil)))))) pa_nil))))), ?_⟩)
  · obtain ⟨per, e, g, eds, rg, gps, rfl, _⟩ := h; rfl
  · obtain ⟨per, e, g, eds, rg, gps, rfl, he, hg, hrg, hn, h12, hok, hTs, q⟩ := h
    refine ⟨_, rfl, _, rfl, e, _, rfl, .inr (SqT.of he), g, rg, _, rfl, hg, by rw [List.length_map, hrg.1, hn], true, rfl, ?_⟩
    refine iteF ?_
    refine ⟨_, rfl, _, rfl, e, g, _, _, rfl, .inr ⟨SqT.of he, SqT.of hg, fun D hD => ?_⟩⟩
    refine lc_zipT (xs := eds.map V.int) (ys := rg) (by rw [List.length_map, hrg.1, hn]) (fun i H' => Xn H H' ∧ H' D = some (.lst ((List.replicate i true).map V.bl))) ⟨Xt.new hD, upd_same⟩ (fun i H' _ hp => ⟨SqT.of (hp.1.tups _ _ he), SqT.of (hp.1.tups _ _ hg)⟩) (fun i x y TT H' ex ey hp hTT => ?_) (fun H' hp => ?_)
    · obtain ⟨hx, hD'⟩ := hp
      obtain ⟨b, ns, rfl, e1, e2⟩ := hrg.get ey
      obtain ⟨last, el, rfl⟩ : ∃ n, eds[i]? = some n ∧ V.int n = x := by
        rw [List.getElem?_map] at ex
        cases z : eds[i]? with
        | none => rw [z] at ex; cases ex
        | some n => rw [z] at ex; cases ex; exact ⟨n, rfl, rfl⟩
      have hi : i < eds.length := (List.getElem?_eq_some_iff.mp el).1
      have x1 : Xn H (upd H' TT (.tup [V.int last, V.ref b])) := hx.trans (Xt.new hTT)
      have hDT : D ≠ TT := fun z => by rw [z, hTT] at hD'; cases hD'
      refine ⟨TT, _, rfl, SqT.of upd_same, rfl, _, _, rfl, _, _, rfl, rfl, rfl, yes_of ⟨_, rfl, _, rfl, _, rfl, per, last, b, ns, rfl, x1.tups _ _ e2, hok i last ns el e1, hTs.x x1, fun H2 x2 => ?_⟩⟩
      have hD2 : H2 D = some (.lst ((List.replicate i true).map V.bl)) := x2.keep D _ (fun z => z) (fun _ z => by cases z) (by rw [upd_ne hDT]; exact hD')
      refine ⟨_, hD2, sz_lt (by rw [List.length_map, List.length_replicate]; omega), (x1.trans x2).young hD, ?_⟩
      rw [upd_same, List.replicate_succ', List.map_append]; rfl
    · obtain ⟨hx, hD'⟩ := hp
      refine ⟨D, _, rfl, SqL.of hD', ?_⟩
      exact bl_of (Q := Q) (by rw [List.all_eq_true]; intro b hb; rw [List.eq_of_mem_replicate hb]; rfl) (q H' hx)

def sp_is_entry : Sp := fun vs H Q _ => ∃ (e t : Addr) (eds ns : List Int), vs = [.ref e, .ref t] ∧ H e = some (.tup (eds.map V.int)) ∧ H t = some (.tup (ns.map V.int)) ∧ BokOk eds ns ∧ Q (.bl true) H
theorem ok_is_entry (T : Txt mg) (C_is_between : Callee P w K mg base "is_between" 2 ["value", "low", "high"] sb_between) (C_is_tuple_of : Callee P w K mg base "is_tuple_of" 1 ["value", "many"] sb_tuple_of) (F : FunC K "is_entry" s_is_entry f fd c) : FnOk P w K mg base CX0 3 f fd ["editions", "value"] sp_is_entry := by
  refine F.ok sc_is_entry (fun vs H Q E h => ?_) (fun A outer s H vs Q E hr h => ⟨_, (pss_cons (ps_if (pt_not (pt_val (pe_callC C_is_tuple_of hr (by rfl) (pa_cons (pv 1) (pa_cons pe_int pa_nil))))) (pss_one (ps_ret pe_bl)) pss_nil)
    (pss_cons (ps_asg (pv 1) (pg_tup rfl (pgs_cons (pg_name (i := 3) sc_is_entry.nd rfl (Or.inl rfl)) (pgs_cons (pg_name (i := 4) sc_is_entry.nd rfl (Or.inl rfl)) (pgs_cons (pg_name (i := 5) sc_is_entry.nd rfl (Or.inl rfl)) (pgs_cons (pg_name (i := 6) sc_is_entry.nd rfl (Or.inl rfl)) pgs_nil))))))
    (pss_cons (ps_set (i := 2) sc_is_entry.nd rfl (Or.inl rfl) (pe_op op_sub (pe_callB (crK (K := K) rLenQ cr_len rfl) (by rfl) T.g_len (by decide +kernel) (pa_cons (pv 0) pa_nil)) pe_int))
    (pss_cons (ps_if (PW.pt (pw_or (pt_not (pt_val (pe_callC C_is_between hr (by rfl) (pa_cons (pv 3) (pa_cons pe_int (pa_cons (pv 2) pa_nil)))))) (pw_or (pt_not (pt_val (pe_callC C_is_between hr (by rfl) (pa_cons (pv 5) (pa_cons pe_int (pa_cons (pv 2) pa_nil)))))) (pw_or1 (pt_cmpR op_eq (pv 3) (pv 5) (nomark _)))))) (pss_one (ps_ret pe_bl)) pss_nil)
    (pss_one (ps_ret (pe_and (pe_callC C_is_between hr (by rfl) (pa_cons (pv 4) (pa_cons pe_int (pa_cons (pe_ix (ixK (K := K) rIxT ix_tup rfl) (pv 0) (pv 3) (fun _ _ => rfl)) pa_nil)))) (pe_one (pe_callC C_is_between hr (by rfl) (pa_cons (pv 6) (pa_cons pe_int (pa_cons (pe_ix (ixK (K := K) rIxT ix_tup rfl) (pv 0) (pv 5) (fun _ _ => rfl)) pa_nil)))))))))))), ?_⟩)
  · obtain ⟨e, t, eds, ns, rfl, _⟩ := h; rfl
  · obtain ⟨e, t, eds, ns, rfl, he, ht, ⟨i, a, j, b, rfl, h1, h2, h3, h4, h5, h6, h7, h8, h9⟩, q⟩ := h
    refine ⟨_, rfl, t, _, 4, rfl, ht, rfl, true, rfl, ?_⟩
    refine iteF ?_
    refine ⟨_, rfl, t, _, rfl, SqT.of ht, rfl, _, _, rfl, _, _, rfl, _, _, rfl, _, _, rfl, rfl, ?_⟩
    refine ⟨_, rfl, e, _, rfl, .inr (SqT.of he), _, _, rfl, rfl, ?_⟩
    rw [List.length_map]
    refine ⟨_, rfl, _, rfl, i, 0, (eds.length : Int) - 1, rfl, h1, by omega, true, rfl, ?_⟩
    refine iteF ⟨_, rfl, _, rfl, j, 0, (eds.length : Int) - 1, rfl, h3, by omega, true, rfl, ?_⟩
    refine iteF ⟨_, rfl, _, rfl, rfl, ?_⟩
    rw [show decide (V.int i = V.int j) = false by rw [dec_int]; exact (beq_eq_false_iff_ne.mpr h5)]
    refine ⟨_, rfl, ?_⟩
    have ei : (eds.map V.int)[i.toNat]? = some (.int (eds[i.toNat]?.getD 0)) := by
      rw [List.getElem?_map, List.getElem?_eq_getElem (by omega : i.toNat < eds.length)]; rfl
    have ej : (eds.map V.int)[j.toNat]? = some (.int (eds[j.toNat]?.getD 0)) := by
      rw [List.getElem?_map, List.getElem?_eq_getElem (by omega : j.toNat < eds.length)]; rfl
    refine iteF ⟨_, rfl, _, rfl, _, rfl, rixT_of he (by omega : i = ((i.toNat : Nat) : Int)) ei ⟨a, 1, _, rfl, h6, h7, true, rfl, ?_⟩⟩
    exact iteT ⟨_, rfl, _, rfl, _, rfl, rixT_of he (by omega : j = ((j.toNat : Nat) : Int)) ej ⟨b, 1, _, rfl, h8, h9, q⟩⟩

def sp_is_book (Ts : List Addr) : Sp := fun vs H Q _ => ∃ (e b : Addr) (eds : List Int) (rb : List V) (bok : List (List Int)), vs = [.ref e, .ref b] ∧ H e = some (.tup (eds.map V.int)) ∧ H b = some (.tup rb) ∧ Rows H rb bok ∧ (∀ t ∈ bok, BokOk eds t) ∧ rising (bok.map (·.take 3)) = true ∧ bok.length ≤ 1000 ∧ Tabs Ts H ∧ ∀ H', Xn H H' → Q (.bl true) H'
theorem ok_is_book (T : Txt mg) (TB : GxR.TabB base mg c TP) (hT : TP ∈ Ts) (C_is_entry : Callee P w K mg base "is_entry" 3 ["editions", "value"] sp_is_entry) (C_is_rising : Callee P w K mg base "is_rising" 1 ["things"] (sb_rising K)) (F : FunC K "is_book" s_is_book f fd c) : FnOk P w K mg base CX0 6 f fd ["editions", "value"] (sp_is_book Ts) := by
  refine F.ok sc_is_book (fun vs H Q E h => ?_) (fun A outer s H vs Q E hr h => ⟨_, (pss_cons (ps_if (PW.pt (pw_or (pt_not (pt_val (pe_callB (crK (K := K) rIsi call_isi rfl) (by rfl) T.g_isinstance (by decide +kernel) (pa_cons (pv 1) (pa_cons (pe_bltn (v := .ty "tuple") (by rfl) T.g_tuple boot_tuple rfl) pa_nil))))) (pw_or1 (pt_not (pt_val (pe_allG (own := [("entry", 2)]) hr rfl sc_is_book.nd (by rfl) T.g_all (by decide +kernel) TB rfl (piK (K := K) iTup (pi_tup (pv 1)) rfl) (gscp_by (N := N_is_book) (sc := defScope s_is_book) (own := [("entry", 2)]) (by decide +kernel)) (fun _ _ _ _ _ _ => (pg_name (i := 2) sc_is_book.nd rfl (Or.inl rfl))) (fun _ _ _ _ _ _ hr9 => pts_nil) (fun _ _ _ _ _ _ hr9 => (pe_callC C_is_entry hr9 (by rfl) (pa_cons (pv 0) (pa_cons (pv 2) pa_nil)))))))))) (pss_one (ps_ret pe_bl)) pss_nil)
    (pss_one (ps_ret (pe_callC C_is_rising hr (by rfl) (pa_cons (pe_lc (own := [("entry", 2)]) rfl sc_is_book.nd (piK (K := K) iTup (pi_tup (pv 1)) rfl) (blkOk_by (N := N_is_book) (sc := defScope s_is_book) (own := [("entry", 2)]) (by decide +kernel)) (fun _ _ _ _ _ => (pg_name (i := 2) sc_is_book.nd rfl (Or.inl rfl))) (fun _ _ _ _ _ => pts_nil) (fun _ _ _ _ _ => (pe_slice (slK (K := K) rSlA sl_tupA rfl) (pv 2) po_none (po_some pe_int)))) pa_nil))))), ?_⟩)
  · obtain ⟨e, b, eds, rb, bok, rfl, _⟩ := h; rfl
  · obtain ⟨e, b, eds, rb, bok, rfl, he, hb, hrb, hok, hri, hlen, hTs, q⟩ := h
    refine ⟨_, rfl, .ref _, .ty "tuple", .type "tuple", .type "tuple", true, rfl, .ty _, .base (.tup hb), kit_ty (by decide +kernel), true, rfl, ?_⟩
    refine iteF ⟨_, rfl, b, rfl, ⟨_, SqT.of hb⟩, hTs _ hT, fun H4 htb => ?_⟩
    have x4 := Xt.tabbed (S := No) (hTs _ hT) htb
    refine allG_tup (fun _ H' => Xn H H') x4 (fun i H' _ x => SqT.of (x.tups _ _ hb)) (fun i v H' ev x => ?_) (fun H' x => ?_)
    · obtain ⟨r, ns, rfl, e1, e2⟩ := hrb.get ev
      exact ⟨rfl, yes_of ⟨_, rfl, _, rfl, e, r, eds, ns, rfl, x.tups _ _ he, x.tups _ _ e2, hok ns (List.mem_of_getElem? e1), true, rfl, iteT x⟩⟩
    · refine ⟨true, rfl, iteF ?_⟩
      refine ⟨_, rfl, b, rfl, ⟨_, SqT.of (x.tups _ _ hb)⟩, fun D hD => ?_⟩
      refine lc_tup (xs := rb) (fun i H2 => Xn H' H2 ∧ ∃ acc, H2 D = some (.lst acc) ∧ Rows H2 acc ((bok.take i).map (·.take 3))) ⟨Xt.new hD, [], upd_same, ?_⟩ (fun i H2 _ hp => SqT.of ((x.trans hp.1).tups _ _ hb)) (fun i v H2 ev hp => ?_) (fun H2 hp => ?_)
      · exact Rows.nil
      · obtain ⟨hx, acc, hD', hr2⟩ := hp
        obtain ⟨r, ns, rfl, e1, e2⟩ := hrb.get ev
        have hi : i < bok.length := (List.getElem?_eq_some_iff.mp e1).1
        have hl4 : ns.length = 4 := by
          obtain ⟨i1, a, j, b, rfl, _⟩ := hok ns (List.mem_of_getElem? e1)
          rfl
        refine ⟨rfl, yes_of ⟨_, rfl, 3, rfl, sl_take (k := 3) ((x.trans hx).tups _ _ e2) (by omega) fun p hp => ?_⟩⟩
        have hDp : D ≠ p := fun z => by rw [z, hp] at hD'; cases hD'
        have hD2 : upd H2 p (.tup ((ns.take 3).map V.int)) D = some (.lst acc) := by rw [upd_ne hDp]; exact hD'
        refine ⟨acc, hD2, sz_lt (by rw [hr2.1, List.length_map, List.length_take]; omega), (hx.trans (Xt.new hp)).young hD, _, upd_same, ?_⟩
        rw [take_snocE e1, List.map_append]
        exact (hr2.mono ((Tk.refl.new hp).lst hD2)).snoc (by rw [upd_ne (Ne.symm hDp), upd_same])
      · obtain ⟨hx, acc, hD', hr2⟩ := hp
        have el : rb.length = bok.length := hrb.1
        rw [el, List.take_length] at hr2
        exact ⟨D, acc, _, rfl, .inl (SqL.of hD'), kys_rows hr2, by rw [hr2.1, List.length_map]; exact hlen, hri, fun H3 x3 => q H3 (x.trans (hx.trans x3))⟩

/-! a clock that is one -/
def sp_wrong_part (Ts : List Addr) : Sp := fun vs H Q _ => ∃ (v : V) (k : Clk), vs = [v] ∧ ClkAt H v k ∧ k.Ok ∧ Tabs Ts H ∧ ∀ H', Xn H H' → Q .non H'
theorem ok_wrong_part (T : Txt mg) (C_is_tuple_of : Callee P w K mg base "is_tuple_of" 1 ["value", "many"] sb_tuple_of) (C_is_between : Callee P w K mg base "is_between" 2 ["value", "low", "high"] sb_between) (C_are_editions : Callee P w K mg base "are_editions" 5 ["value"] (sp_are_editions Ts)) (C_are_touches : Callee P w K mg base "are_touches" 6 ["period", "editions", "value"] (sp_are_touches Ts)) (C_are_gaps : Callee P w K mg base "are_gaps" 6 ["period", "editions", "value"] (sp_are_gaps Ts)) (C_is_book : Callee P w K mg base "is_book" 6 ["editions", "value"] (sp_is_book Ts)) (F : FunC K "wrong_part" s_wrong_part f fd c) : FnOk P w K mg base CX0 7 f fd ["clock"] (sp_wrong_part Ts) := by
  refine F.ok sc_wrong_part (fun vs H Q E h => ?_) (fun A outer s H vs Q E hr h => ⟨_, (pss_cons (ps_if (pt_not (pt_val (pe_callC C_is_tuple_of hr (by rfl) (pa_cons (pv 0) (pa_cons pe_int pa_nil))))) (pss_one (ps_ret pe_str)) pss_nil)
    (pss_cons (ps_asg (pv 0) (pg_tup rfl (pgs_cons (pg_name (i := 1) sc_wrong_part.nd rfl (Or.inl rfl)) (pgs_cons (pg_name (i := 2) sc_wrong_part.nd rfl (Or.inl rfl)) (pgs_cons (pg_name (i := 3) sc_wrong_part.nd rfl (Or.inl rfl)) (pgs_cons (pg_name (i := 4) sc_wrong_part.nd rfl (Or.inl rfl)) (pgs_cons (pg_name (i := 5) sc_wrong_part.nd rfl (Or.inl rfl)) pgs_nil)))))))
    (pss_cons (ps_if (pt_not (pt_val (pe_callC C_is_between hr (by rfl) (pa_cons (pv 1) (pa_cons pe_int (pa_cons (pe_gI rfl T.m_MOST_PERIOD) pa_nil)))))) (pss_one (ps_ret pe_str)) pss_nil)
    (pss_cons (ps_if (pt_not (pt_val (pe_callC C_are_editions hr (by rfl) (pa_cons (pv 2) pa_nil)))) (pss_one (ps_ret pe_str)) pss_nil)
    (pss_cons (ps_if (pt_not (pt_val (pe_callC C_are_touches hr (by rfl) (pa_cons (pv 1) (pa_cons (pv 2) (pa_cons (pv 3) pa_nil)))))) (pss_one (ps_ret pe_str)) pss_nil)
    (pss_cons (ps_if (pt_not (pt_val (pe_callC C_are_gaps hr (by rfl) (pa_cons (pv 1) (pa_cons (pv 2) (pa_cons (pv 4) pa_nil)))))) (pss_one (ps_ret pe_str)) pss_nil)
    (pss_cons (ps_if (pt_not (pt_val (pe_callC C_is_book hr (by rfl) (pa_cons (pv 2) (pa_cons (pv 5) pa_nil))))) (pss_one (ps_ret pe_str)) pss_nil)
    (pss_one (ps_ret pe_non))))))))), ?_⟩)
  · obtain ⟨v, k, rfl, _⟩ := h; rfl
  · obtain ⟨v, k, rfl, ⟨⟨a, e, t, g, b, rt, rg, rb, rfl, h1, h2, h3, h4, h5, h6, h7, h8⟩⟩, ok, hTs, q⟩ := h
    refine ⟨_, rfl, a, _, 5, rfl, h1, rfl, true, rfl, ?_⟩
    refine iteF ?_
    refine ⟨_, rfl, a, _, rfl, SqT.of h1, rfl, _, _, rfl, _, _, rfl, _, _, rfl, _, _, rfl, _, _, rfl, rfl, ?_⟩
    refine ⟨_, rfl, k.per, 1, 12, rfl, ok.per.1, ok.per.2, true, rfl, ?_⟩
    refine iteF ⟨_, rfl, e, k.eds, rfl, h2, ok.len.1, ok.len.2, ok.eds, ok.sum, hTs, fun H1 x1 => ⟨true, rfl, iteF ?_⟩⟩
    refine ⟨_, rfl, _, rfl, _, rfl, k.per, e, t, k.eds, rt, k.tch, rfl, x1.tups _ _ h2, x1.tups _ _ h3, h4.x x1, ok.tch, ok.tchR, ok.tchL, hTs.x x1, fun H2 x2 => ⟨true, rfl, iteF ?_⟩⟩
    have x2 := x1.trans x2
    refine ⟨_, rfl, _, rfl, _, rfl, k.per, e, g, k.eds, rg, k.gps, rfl, x2.tups _ _ h2, x2.tups _ _ h5, h6.x x2, ok.gpsN, ok.len.2, ok.gps, hTs.x x2, fun H3 x3 => ⟨true, rfl, iteF ?_⟩⟩
    have x3 := x2.trans x3
    refine ⟨_, rfl, _, rfl, e, b, k.eds, rb, k.bok, rfl, x3.tups _ _ h2, x3.tups _ _ h7, h8.x x3, ok.bok, ok.bokR, ok.bokL, hTs.x x3, fun H4 x4 => ⟨true, rfl, iteF ?_⟩⟩
    exact q H4 (x3.trans x4)

def sp_check_clock (Ts : List Addr) : Sp := fun vs H Q _ => ∃ (v : V) (k : Clk), vs = [v] ∧ ClkAt H v k ∧ k.Ok ∧ Tabs Ts H ∧ ∀ H', Xn H H' → Q .non H'
theorem ok_check_clock (T : Txt mg) (C_wrong_part : Callee P w K mg base "wrong_part" 7 ["clock"] (sp_wrong_part Ts)) (F : FunC K "check_clock" s_check_clock f fd c) : FnOk P w K mg base CX0 8 f fd ["clock"] (sp_check_clock Ts) := by
  refine F.ok sc_check_clock (fun vs H Q E h => ?_) (fun A outer s H vs Q E hr h => ⟨_, (pss_cons (ps_set (i := 1) sc_check_clock.nd rfl (Or.inl rfl) (pe_callC C_wrong_part hr (by rfl) (pa_cons (pv 0) pa_nil)))
    (pss_one (ps_if (pt_cmpR op_notN (pv 1) pe_non (nomark _)) (pss_one ps_never) pss_nil))), ?_⟩)
  · obtain ⟨v, k, rfl, _⟩ := h; rfl
  · obtain ⟨v, k, rfl, h1, ok, hTs, q⟩ := h
    refine ⟨_, rfl, v, k, rfl, h1, ok, hTs, fun H' x => ?_⟩
    exact ⟨_, rfl, rfl, false, rfl, iteF (q H' x)⟩

end K17
-- K17_d4
namespace K17
open PySem PySem.Spec PyProof.Rows L2 LC
variable [Tbl]
variable {P : Program} {w : World} {K : PySem.W.Frag} {mg : Str → Option Value} {base : Heap} {f c : Addr} {fd : FuncData} {Ts : List Addr} {TP : Addr}

def sp_least_needed : Sp := fun vs H Q _ => ∃ (v : V) (k : Clk) (i a j : Int), vs = [v, .int i, .int a, .int j] ∧ ClkAt H v k ∧ k.Ok ∧ ∀ H' m, Xn H H' → LN k.bok i a j m → Q (.int m) H'
theorem ok_least_needed (T : Txt mg) (F : FunC K "least_needed" s_least_needed f fd c) : FnOk P w K mg base CX0 1 f fd ["clock", "wheel", "edition", "other"] sp_least_needed := by
  refine F.ok sc_least_needed (fun vs H Q E h => ?_) (fun A outer s H vs Q E hr h => ⟨_, (pss_cons (ps_setLc (i := 4) (own := [("entry", 5)]) rfl sc_least_needed.nd rfl rfl (sw_true rfl rfl rfl (by decide +kernel)) (piK (K := K) iTup (pi_tup (pe_ix (ixK (K := K) rIxT ix_tup rfl) (pv 0) pe_int (fun _ _ => rfl))) rfl) (blkOk_by (N := N_least_needed) (sc := defScope s_least_needed) (own := [("entry", 5)]) (by decide +kernel)) (fun _ _ _ _ _ => (pg_name (i := 5) sc_least_needed.nd rfl (Or.inl rfl))) (fun _ _ _ _ _ => (pts_one (PW.pt (pw_and (pt_cmpR op_eq (pe_ix (ixK (K := K) rIxT ix_tup rfl) (pv 5) pe_int (fun _ _ => rfl)) (pv 1) (nomark _)) (pw_and1 (pt_cmpR op_eq (pe_ix (ixK (K := K) rIxT ix_tup rfl) (pv 5) pe_int (fun _ _ => rfl)) (pv 3) (nomark _))))))) (fun _ _ _ _ _ => (pv 5)))
    (pss_one (ps_ret (pe_callBK (cr_maxDf rfl) (by rfl) T.g_max (by decide +kernel) (pa_cons (pe_lc (own := [("entry", 5)]) rfl sc_least_needed.nd (piK (K := K) iList (pi_list (pv 4)) rfl) (blkOk_by (N := N_least_needed) (sc := defScope s_least_needed) (own := [("entry", 5)]) (by decide +kernel)) (fun _ _ _ _ _ => (pg_name (i := 5) sc_least_needed.nd rfl (Or.inl rfl))) (fun _ _ _ _ _ => (pts_one (pt_cmpR op_le (pe_ix (ixK (K := K) rIxT ix_tup rfl) (pv 5) pe_int (fun _ _ => rfl)) (pv 2) (nomark _)))) (fun _ _ _ _ _ => (pe_ix (ixK (K := K) rIxT ix_tup rfl) (pv 5) pe_int (fun _ _ => rfl)))) pa_nil) (pk_cons pe_int pk_nil))))), ?_⟩)
  · obtain ⟨v, k, i, a, j, rfl, _⟩ := h; rfl
  · obtain ⟨v, k, i, a, j, rfl, ⟨⟨ca, e, t, g, b, rt, rg, rb, rfl, h1, h2, h3, h4, h5, h6, h7, h8⟩⟩, ok, q⟩ := h
    have hrl : rb.length = k.bok.length := h8.1
    refine ⟨_, rfl, rixV 4 h1 rfl rfl ⟨b, rfl, ⟨_, SqT.of h7⟩, fun D hD => ?_⟩⟩
    refine lc_tup (xs := rb) (fun n H' => Xn H H' ∧ ∃ acc, H' D = some (.lst acc) ∧ Rows H' acc ((k.bok.take n).filter fun t => decide (t[0]?.getD 0 = i) && decide (t[2]?.getD 0 = j))) ⟨Xt.new hD, [], upd_same, Rows.nil⟩ (fun n H' _ hp => SqT.of (hp.1.tups _ _ h7)) (fun n x H' ex hp => ?_) (fun H' hp => ?_)
    · obtain ⟨hx, acc, hD', hr2⟩ := hp
      obtain ⟨r, ns, rfl, e1, e2⟩ := h8.get ex
      obtain ⟨i1, a1, j1, b1, rfl, _⟩ := ok.bok ns (List.mem_of_getElem? e1)
      have e2 := hx.tups _ _ e2
      have hn : n < k.bok.length := (List.getElem?_eq_some_iff.mp e1).1
      have hf : ((k.bok.take n).filter fun t => decide (t[0]?.getD 0 = i) && decide (t[2]?.getD 0 = j)).length ≤ n := Nat.le_trans (List.length_filter_le _ _) (by rw [List.length_take]; omega)
      refine ⟨rfl, ⟨_, rfl, rixC 0 e2 rfl rfl ⟨_, rfl, rfl, ?_⟩⟩⟩
      rw [deceq]
      refine ⟨_, rfl, ?_⟩
      by_cases z1 : i1 = i
      · rw [decide_eq_true z1]
        refine iteT ⟨_, rfl, rixC 2 e2 rfl rfl ⟨_, rfl, rfl, ?_⟩⟩
        rw [deceq]
        refine ⟨_, rfl, ?_⟩
        by_cases z2 : j1 = j
        · rw [decide_eq_true z2]
          refine iteT ⟨_, rfl, acc, hD', sz_lt (by rw [hr2.1]; have := ok.bokL; omega), hx.young hD, _, upd_same, ?_⟩
          rw [filt_yes e1 (by show (decide (i1 = i) && decide (j1 = j)) = true; rw [decide_eq_true z1, decide_eq_true z2]; rfl)]
          exact (hr2.mono (Tk.refl.lst hD')).snoc (by rw [upd_ne (fun z => by rw [z, hD'] at e2; cases e2)]; exact e2)
        · rw [decide_eq_false z2]
          refine iteF ⟨hx, acc, hD', ?_⟩
          rw [filt_no e1 (by show (decide (i1 = i) && decide (j1 = j)) = false; rw [decide_eq_false z2, Bool.and_false])]
          exact hr2
      · rw [decide_eq_false z1]
        refine iteF (iteF ⟨hx, acc, hD', ?_⟩)
        rw [filt_no e1 (by show (decide (i1 = i) && decide (j1 = j)) = false; rw [decide_eq_false z1, Bool.false_and])]
        exact hr2
    · obtain ⟨hx, acc, hD', hr2⟩ := hp
      rw [hrl, List.take_length] at hr2
      generalize hg : (k.bok.filter fun t => decide (t[0]?.getD 0 = i) && decide (t[2]?.getD 0 = j)) = es at hr2
      have hmem : ∀ t, t ∈ es ↔ t ∈ k.bok ∧ (decide (t[0]?.getD 0 = i) && decide (t[2]?.getD 0 = j)) = true := fun t => by rw [← hg, List.mem_filter]
      refine ⟨_, rfl, D, rfl, ⟨_, SqL.of hD'⟩, fun D2 hD2 => ?_⟩
      refine lc_list (xs := acc) (fun n H2 => Xn H' H2 ∧ H2 D2 = some (.lst ((((es.take n).filter fun t => decide (t[1]?.getD 0 ≤ a)).map fun t => t[3]?.getD 0).map V.int))) ⟨Xt.new hD2, upd_same⟩ (fun n H2 _ hp => SqL.of (hp.1.keep D _ (fun z => z) (fun _ z => by cases z) hD')) (fun n x H2 ex hp => ?_) (fun H2 hp => ?_)
      · obtain ⟨hx2, hD3⟩ := hp
        obtain ⟨r, ns, rfl, e1, e2⟩ := hr2.get ex
        obtain ⟨i1, a1, j1, b1, rfl, _⟩ := ok.bok ns ((hmem ns).mp (List.mem_of_getElem? e1)).1
        have e2 := hx2.tups _ _ e2
        have hn : n < es.length := (List.getElem?_eq_some_iff.mp e1).1
        have hes : es.length ≤ k.bok.length := by rw [← hg]; exact List.length_filter_le _ _
        have hf : ((es.take n).filter fun t => decide (t[1]?.getD 0 ≤ a)).length ≤ n := Nat.le_trans (List.length_filter_le _ _) (by rw [List.length_take]; omega)
        refine ⟨rfl, ⟨_, rfl, rixC 1 e2 rfl rfl ⟨_, rfl, _, _, rfl, rfl, _, rfl, ?_⟩⟩⟩
        by_cases z : a1 ≤ a
        · rw [decide_eq_true z]
          refine iteT ⟨_, rfl, rixC 3 e2 rfl rfl ⟨_, hD3, sz_lt (by rw [List.length_map, List.length_map]; have := ok.bokL; omega), hx2.young hD2, ?_⟩⟩
          rw [upd_same, filt_yes e1 (by show decide (a1 ≤ a) = true; exact decide_eq_true z), List.map_append, List.map_append]; rfl
        · rw [decide_eq_false z]
          refine iteF ⟨hx2, ?_⟩
          rw [filt_no e1 (by show decide (a1 ≤ a) = false; exact decide_eq_false z)]
          exact hD3
      · obtain ⟨hx2, hD3⟩ := hp
        rw [hr2.1, List.take_length] at hD3
        refine ⟨D2, _, 0, rfl, rfl, SqL.of hD3, fun m m1 m2 => q H2 m (hx.trans hx2) ⟨fun t ht hok => ?_, ?_⟩⟩
        · unfold entOk at hok
          rw [Bool.and_eq_true] at hok
          have hin : t[3]?.getD 0 ∈ ((es.filter fun t => decide (t[1]?.getD 0 ≤ a)).map fun t => t[3]?.getD 0) := List.mem_map.mpr ⟨t, List.mem_filter.mpr ⟨(hmem t).mpr ⟨ht, hok.1⟩, hok.2⟩, rfl⟩
          exact (m2 (List.ne_nil_of_mem hin)).2 _ hin
        · by_cases z : ((es.filter fun t => decide (t[1]?.getD 0 ≤ a)).map fun t => t[3]?.getD 0) = []
          · exact .inl (m1 z)
          · obtain ⟨t, ht, et⟩ := List.mem_map.mp (m2 z).1
            obtain ⟨h1, h2⟩ := List.mem_filter.mp ht
            obtain ⟨h3, h4⟩ := (hmem t).mp h1
            exact .inr ⟨t, h3, by unfold entOk; rw [h4, h2]; rfl, et⟩


end K17
-- K17_e1
namespace K17
open PySem PySem.Spec PyProof.Rows L2 LC
variable [Tbl]
variable {P : Program} {w : World} {K : PySem.W.Frag} {mg : Str → Option Value} {base : Heap} {f c : Addr} {fd : FuncData} {Ts : List Addr} {TP : Addr}
end K17
-- K17_d7
namespace K17
open PySem PySem.Spec PyProof.Rows L2 LC
variable [Tbl]
variable {P : Program} {w : World} {K : PySem.W.Frag} {mg : Str → Option Value} {base : Heap} {f c : Addr} {fd : FuncData} {Ts : List Addr} {TP : Addr}

def sp_alike (n : Nat) : Sp := fun vs H Q _ => ∃ (x y : V) (d : D), vs = [x, y] ∧ d.dep < n ∧ d.sm = true ∧ At H d x ∧ At H d y ∧ ∀ H', Xn H H' → Q (.bl true) H'
theorem ok_law_alike {n : Nat} (T : Txt mg) (C_law_alike : Callee P w K mg base "_law_alike" n ["found", "wished"] (sp_alike n)) (F : FunC K "_law_alike" s_law_alike f fd c) : FnOk P w K mg base CX0 (n + 1) f fd ["found", "wished"] (sp_alike (n + 1)) := by
  refine F.ok sc_law_alike (fun vs H Q E h => ?_) (fun A outer s H vs Q E hr h => ⟨_, (pss_cons (ps_if (pt_val (pe_callB (crK (K := K) rIsiT call_isiT rfl) (by rfl) T.g_isinstance (by decide +kernel) (pa_cons (pv 1) (pa_cons (pe_tup (pa_cons (pe_bltn (v := .ty "tuple") (by rfl) T.g_tuple boot_tuple rfl) (pa_cons (pe_bltn (v := .ty "list") (by rfl) T.g_list boot_list rfl) pa_nil))) pa_nil)))) (pss_cons (ps_if (PW.pt (pw_or (pt_not (pt_val (pe_callB (crK (K := K) rIsiT call_isiT rfl) (by rfl) T.g_isinstance (by decide +kernel) (pa_cons (pv 0) (pa_cons (pe_tup (pa_cons (pe_bltn (v := .ty "tuple") (by rfl) T.g_tuple boot_tuple rfl) (pa_cons (pe_bltn (v := .ty "list") (by rfl) T.g_list boot_list rfl) pa_nil))) pa_nil))))) (pw_or1 (pt_cmpR op_ne (pe_callB (crK (K := K) rIsi call_isi rfl) (by rfl) T.g_isinstance (by decide +kernel) (pa_cons (pv 0) (pa_cons (pe_bltn (v := .ty "list") (by rfl) T.g_list boot_list rfl) pa_nil))) (pe_callB (crK (K := K) rIsi call_isi rfl) (by rfl) T.g_isinstance (by decide +kernel) (pa_cons (pv 1) (pa_cons (pe_bltn (v := .ty "list") (by rfl) T.g_list boot_list rfl) pa_nil))) (nomark _))))) (pss_one (ps_ret pe_bl)) pss_nil)
    (pss_cons (ps_if (pt_cmpR op_ne (pe_callB (crK (K := K) rLenQ cr_len rfl) (by rfl) T.g_len (by decide +kernel) (pa_cons (pv 0) pa_nil)) (pe_callB (crK (K := K) rLenQ cr_len rfl) (by rfl) T.g_len (by decide +kernel) (pa_cons (pv 1) pa_nil)) (nomark _)) (pss_one (ps_ret pe_bl)) pss_nil)
    (pss_one (ps_ret (pe_cmpR (op_eqD hr.units) (pe_lc (own := [("k", 2)]) rfl sc_law_alike.nd (pi_range1 (by rfl) T.g_range (pa_cons (pe_callB (crK (K := K) rLenQ cr_len rfl) (by rfl) T.g_len (by decide +kernel) (pa_cons (pv 1) pa_nil)) pa_nil)) (blkOk_by (N := N_law_alike) (sc := defScope s_law_alike) (own := [("k", 2)]) (by decide +kernel)) (fun _ _ _ _ _ => (pg_name (i := 2) sc_law_alike.nd rfl (Or.inl rfl))) (fun _ _ _ _ _ => (pts_one (pt_not (pt_val (pe_callC C_law_alike hr (by rfl) (pa_cons (pe_ix (ixK (K := K) rIx ix_seq rfl) (pv 0) (pv 2) (fun _ _ => rfl)) (pa_cons (pe_ix (ixK (K := K) rIx ix_seq rfl) (pv 1) (pv 2) (fun _ _ => rfl)) pa_nil)) (Nat.le_refl _)))))) (fun _ _ _ _ _ => (pv 2))) (pe_lst pa_nil) (nomark _)))))) pss_nil)
    (pss_cons (ps_if (PW.pt (pw_or (pt_cmpR op_isN (pv 1) pe_non (nomark _)) (pw_or1 (pt_val (pe_callB (crK (K := K) rIsi call_isi rfl) (by rfl) T.g_isinstance (by decide +kernel) (pa_cons (pv 1) (pa_cons (pe_bltn (v := .ty "str") (by rfl) T.g_str boot_str rfl) pa_nil))))))) (pss_one (ps_ret (pe_and (pe_cmpR op_eq (pv 0) (pv 1) (nomark _)) (pe_one (pe_cmpR op_eq (pe_callB (crK (K := K) rIsi call_isi rfl) (by rfl) T.g_isinstance (by decide +kernel) (pa_cons (pv 0) (pa_cons (pe_bltn (v := .ty "str") (by rfl) T.g_str boot_str rfl) pa_nil))) (pe_callB (crK (K := K) rIsi call_isi rfl) (by rfl) T.g_isinstance (by decide +kernel) (pa_cons (pv 1) (pa_cons (pe_bltn (v := .ty "str") (by rfl) T.g_str boot_str rfl) pa_nil))) (nomark _)))))) pss_nil)
    (pss_one (ps_ret (pe_and (pe_callB (crK (K := K) rIsi call_isi rfl) (by rfl) T.g_isinstance (by decide +kernel) (pa_cons (pv 0) (pa_cons (pe_bltn (v := .ty "int") (by rfl) T.g_int boot_int rfl) pa_nil))) (pe_and (pe_cmpR op_eq (pe_callB (crK (K := K) rIsi call_isi rfl) (by rfl) T.g_isinstance (by decide +kernel) (pa_cons (pv 0) (pa_cons (pe_bltn (v := .ty "bool") (by rfl) T.g_bool boot_bool rfl) pa_nil))) (pe_callB (crK (K := K) rIsi call_isi rfl) (by rfl) T.g_isinstance (by decide +kernel) (pa_cons (pv 1) (pa_cons (pe_bltn (v := .ty "bool") (by rfl) T.g_bool boot_bool rfl) pa_nil))) (nomark _)) (pe_one (pe_cmpR op_eq (pv 0) (pv 1) (nomark _))))))))), ?_⟩)
  · obtain ⟨x, y, d, rfl, _⟩ := h; rfl
  · obtain ⟨x, y, d, rfl, hd, hs, hx, hy, q⟩ := h
    refine ⟨_, rfl, by show 2 ≤ sizeLine; decide, fun t1 ht1 => ?_⟩
    have x1 : Xn H (upd H t1 (.tup [.ty "tuple", .ty "list"])) := Xt.new ht1
    refine ⟨y, t1, _, .type d.ty, [.type "tuple", .type "list"], d.seq, rfl, upd_same, .cons (.ty _) (.cons (.ty _) .nil), (hy.xn x1).tyx, ?_, ?_⟩
    · exact D.kTL d
    · cases hq : d.seq with
      | true =>
        refine ⟨_, rfl, iteT ?_⟩
        refine ⟨_, rfl, by show 2 ≤ sizeLine; decide, fun t2 ht2 => ?_⟩
        have x2 := x1.trans (Xt.new (o := .tup [.ty "tuple", .ty "list"]) ht2)
        have ax := hx.xn x2
        have ay := hy.xn x2
        refine ⟨x, t2, _, .type d.ty, [.type "tuple", .type "list"], d.seq, rfl, upd_same, .cons (.ty _) (.cons (.ty _) .nil), ax.tyx, D.kTL d, ?_⟩
        rw [hq]
        refine ⟨true, rfl, iteF ?_⟩
        refine ⟨_, rfl, x, .ty "list", .type d.ty, .type "list", d.isL, rfl, .ty _, ax.tyx, D.kL d, ?_⟩
        refine ⟨_, rfl, y, .ty "list", .type d.ty, .type "list", d.isL, rfl, .ty _, ay.tyx, D.kL d, rfl, ?_⟩
        rw [decide_eq_true (rfl : V.bl d.isL = V.bl d.isL)]
        refine ⟨_, rfl, iteF ?_⟩
        obtain ⟨a, xs, rfl, sa, la⟩ := ax.sq (K := K) hq
        obtain ⟨b, ys, rfl, sb, lb⟩ := ay.sq (K := K) hq
        refine ⟨_, rfl, a, xs, rfl, sa, _, rfl, b, ys, rfl, sb, rfl, ?_⟩
        rw [deceq, decide_eq_true (by rw [la.length, lb.length] : (xs.length : Int) = (ys.length : Int))]
        refine ⟨_, rfl, iteF ?_⟩
        have hkl := D.kids_len hq hs
        have hyl : ys.length = d.kids.length := lb.length
        refine ⟨_, rfl, b, ys, rfl, sb, _, rfl, by omega, by omega, fun D0 hD0 => ?_⟩
        refine lc_range (n := ys.length) (fun i H2 => Xn (upd (upd H t1 (.tup [.ty "tuple", .ty "list"])) t2 (.tup [.ty "tuple", .ty "list"])) H2 ∧ H2 D0 = some (.lst [])) ⟨Xt.new hD0, upd_same⟩ (fun i H2 hi hp => ?_) (fun H2 hp => ?_)
        · obtain ⟨hx2, hD2⟩ := hp
          obtain ⟨e, he⟩ : ∃ e, d.kids[i]? = some e := ⟨_, List.getElem?_eq_getElem (by omega)⟩
          obtain ⟨u, hu, au⟩ := la.get he
          obtain ⟨v, hv, av⟩ := lb.get he
          refine ⟨rfl, ⟨_, rfl, _, rfl, rix_of (sa.imp (sqL_x hx2) (sqT_x hx2)) (Int.zero_add _) hu ⟨_, rfl, _, rfl, rix_of (sb.imp (sqL_x hx2) (sqT_x hx2)) (Int.zero_add _) hv ?_⟩⟩⟩
          exact ⟨u, v, e, rfl, D.kid_dep hq hd he, D.kid_sm hq hs he, au.xn hx2, av.xn hx2, fun H3 x3 => ⟨true, rfl, iteF ⟨hx2.trans x3, x3.keep D0 _ (fun z => z) (fun _ z => by cases z) hD2⟩⟩⟩
        · obtain ⟨hx2, hD2⟩ := hp
          refine ⟨by show 0 ≤ sizeLine; decide, fun e he => eqD_nil (upd_old hD2 he) upd_same ?_⟩
          exact q _ ((x2.trans hx2).trans (Xt.new he))
      | false =>
        refine ⟨_, rfl, iteF ?_⟩
        have ax := hx.xn x1
        have ay := hy.xn x1
        have qq := q _ x1
        have tx := ax.tyx (K := K)
        have ty := ay.tyx (K := K)
        have eqb : ∀ b : Bool, decide (V.bl b = V.bl b) = true := fun b => decide_eq_true rfl
        cases d with
        | non =>
          unfold At at ax ay
          subst ax ay
          refine ⟨_, rfl, rfl, true, rfl, iteT ?_⟩
          refine iteT ⟨_, rfl, _, rfl, rfl, true, rfl, iteT ?_⟩
          refine ⟨_, rfl, _, .ty "str", _, .type "str", _, rfl, .ty _, tx, D.kS .non, ?_⟩
          refine ⟨_, rfl, _, .ty "str", _, .type "str", _, rfl, .ty _, ty, D.kS .non, rfl, ?_⟩
          exact qq
        | str z =>
          unfold At at ax ay
          subst ax ay
          refine ⟨_, rfl, rfl, false, rfl, iteF ?_⟩
          refine ⟨_, rfl, _, .ty "str", _, .type "str", _, rfl, .ty _, ty, D.kS (.str z), true, rfl, iteT ?_⟩
          refine ⟨_, rfl, _, rfl, rfl, true, by rw [decide_eq_true rfl], iteT ?_⟩
          refine ⟨_, rfl, _, .ty "str", _, .type "str", _, rfl, .ty _, tx, D.kS (.str z), ?_⟩
          refine ⟨_, rfl, _, .ty "str", _, .type "str", _, rfl, .ty _, ty, D.kS (.str z), rfl, ?_⟩
          exact qq
        | bl z =>
          unfold At at ax ay
          subst ax ay
          refine ⟨_, rfl, rfl, false, rfl, iteF ?_⟩
          refine ⟨_, rfl, _, .ty "str", _, .type "str", _, rfl, .ty _, ty, D.kS (.bl z), false, rfl, iteF ?_⟩
          refine ⟨_, rfl, _, .ty "int", _, .type "int", _, rfl, .ty _, tx, D.kI (.bl z) true rfl, true, rfl, iteT ?_⟩
          refine ⟨_, rfl, _, .ty "bool", _, .type "bool", _, rfl, .ty _, tx, D.kB (.bl z), ?_⟩
          refine ⟨_, rfl, _, .ty "bool", _, .type "bool", _, rfl, .ty _, ty, D.kB (.bl z), rfl, true, rfl, iteT ?_⟩
          refine ⟨_, rfl, _, rfl, rfl, ?_⟩
          rw [eqb]
          exact qq
        | int z =>
          unfold At at ax ay
          subst ax ay
          refine ⟨_, rfl, rfl, false, rfl, iteF ?_⟩
          refine ⟨_, rfl, _, .ty "str", _, .type "str", _, rfl, .ty _, ty, D.kS (.int z), false, rfl, iteF ?_⟩
          refine ⟨_, rfl, _, .ty "int", _, .type "int", _, rfl, .ty _, tx, D.kI (.int z) true rfl, true, rfl, iteT ?_⟩
          refine ⟨_, rfl, _, .ty "bool", _, .type "bool", _, rfl, .ty _, tx, D.kB (.int z), ?_⟩
          refine ⟨_, rfl, _, .ty "bool", _, .type "bool", _, rfl, .ty _, ty, D.kB (.int z), rfl, true, rfl, iteT ?_⟩
          refine ⟨_, rfl, _, rfl, rfl, ?_⟩
          rw [deceq, decide_eq_true rfl]
          exact qq
        | tup _ => cases hq
        | lst _ => cases hq
/-- at level 0 nothing is promised -/
theorem ok_law_alike0 : FnOk P w K mg base CX0 0 f fd ["found", "wished"] (sp_alike 0) :=
  ⟨fun _ _ _ _ h => (by obtain ⟨_, _, _, _, hd, _⟩ := h; omega), fun _ _ _ _ _ _ _ _ _ _ _ _ _ h => (by obtain ⟨_, _, _, _, hd, _⟩ := h; omega)⟩

def sp_law_needed : Sp := fun vs H Q _ => ∃ (v : V) (k : Clk) (i a j : Int), vs = [v, .int i, .int a, .int j] ∧ ClkAt H v k ∧ k.Ok ∧ ∀ H' m, Xn H H' → LN k.bok i a j m → Q (.int m) H'
theorem ok_law_needed (T : Txt mg) (F : FunC K "_law_needed" s_law_needed f fd c) : FnOk P w K mg base CX0 1 f fd ["clock", "wheel", "edition", "other"] sp_law_needed := by
  refine F.ok sc_law_needed (fun vs H Q E h => ?_) (fun A outer s H vs Q E hr h => ⟨_, (pss_cons (ps_set (i := 4) sc_law_needed.nd rfl (Or.inl rfl) pe_int)
    (pss_cons (ps_for PassesOwn.never rfl (piK (K := K) iTup (pi_tup (pe_ix (ixK (K := K) rIxT ix_tup rfl) (pv 0) pe_int (fun _ _ => rfl))) rfl) (pg_tup rfl (pgs_cons (pg_name (i := 5) sc_law_needed.nd rfl (Or.inl rfl)) (pgs_cons (pg_name (i := 6) sc_law_needed.nd rfl (Or.inl rfl)) (pgs_cons (pg_name (i := 7) sc_law_needed.nd rfl (Or.inl rfl)) (pgs_cons (pg_name (i := 8) sc_law_needed.nd rfl (Or.inl rfl)) pgs_nil))))) (pss_one (ps_if (PW.pt (pw_and (pt_cmpR (op_eqD hr.units) (pe_tup (pa_cons (pv 5) (pa_cons (pv 7) pa_nil))) (pe_tup (pa_cons (pv 1) (pa_cons (pv 3) pa_nil))) (nomark _)) (pw_and (pt_cmpR op_le (pv 6) (pv 2) (nomark _)) (pw_and1 (pt_cmpR op_gt (pv 8) (pv 4) (nomark _)))))) (pss_one (ps_set (i := 4) sc_law_needed.nd rfl (Or.inl rfl) (pv 8))) pss_nil)))
    (pss_one (ps_ret (pv 4))))), ?_⟩)
  · obtain ⟨v, k, i, a, j, rfl, _⟩ := h; rfl
  · obtain ⟨v, k, i, a, j, rfl, ⟨⟨ca, e, t, g, b, rt, rg, rb, rfl, h1, h2, h3, h4, h5, h6, h7, h8⟩⟩, ok, q⟩ := h
    refine ⟨_, rfl, rixV 4 h1 rfl rfl ⟨b, rfl, ⟨_, SqT.of h7⟩, ?_⟩⟩
    refine for_tup (xs := rb) (fun n σ H' => Xn H H' ∧ ∃ m x5 x6 x7 x8, σ = [some (.ref ca), some (.int i), some (.int a), some (.int j), some (.int m), x5, x6, x7, x8] ∧ LN (k.bok.take n) i a j m) ⟨Xt.refl, 0, _, _, _, _, rfl, LN.zero⟩ (fun n σ H' _ hp => SqT.of (hp.1.tups _ _ h7)) (fun n x σ H' ex hp => ?_) (fun σ H' hp => ?_)
    · obtain ⟨hx, m, x5, x6, x7, x8, rfl, hm⟩ := hp
      obtain ⟨r, ns, rfl, e1, e2⟩ := h8.get ex
      obtain ⟨i1, a1, j1, b1, rfl, hb⟩ := ok.bok ns (List.mem_of_getElem? e1)
      refine ⟨r, _, rfl, SqT.of (hx.tups _ _ e2), rfl, _, _, rfl, _, _, rfl, _, _, rfl, _, _, rfl, rfl, ?_⟩
      refine ⟨_, rfl, _, rfl, by show 2 ≤ sizeLine; decide, fun t1 ht1 => ⟨_, rfl, _, rfl, by show 2 ≤ sizeLine; decide, fun t2 ht2 => eqD_pair (upd_old upd_same ht2) upd_same ⟨_, rfl, ?_⟩⟩⟩
      have x2 := (hx.trans (Xt.new (o := .tup [.int i1, .int j1]) ht1)).trans (Xt.new (o := .tup [.int i, .int j]) ht2)
      have tk : (k.bok.take (n + 1)) = k.bok.take n ++ [[i1, a1, j1, b1]] := take_snocE e1
      have eo : entOk i a j [i1, a1, j1, b1] = (decide (i1 = i) && decide (j1 = j) && decide (a1 ≤ a)) := rfl
      cases c1 : (decide (i1 = i) && decide (j1 = j)) with
      | false =>
        refine iteF (iteF ⟨x2, m, _, _, _, _, rfl, ?_⟩)
        rw [tk]
        refine hm.skip fun z => ?_
        rw [eo, c1] at z; cases z
      | true =>
        refine iteT ⟨_, rfl, _, rfl, _, _, rfl, rfl, _, rfl, ?_⟩
        by_cases c2 : a1 ≤ a
        · rw [decide_eq_true c2]
          refine iteT ⟨_, rfl, _, rfl, _, _, rfl, rfl, _, rfl, ?_⟩
          by_cases c3 : b1 > m
          · rw [decide_eq_true c3]
            refine iteT ⟨_, rfl, x2, b1, _, _, _, _, rfl, ?_⟩
            rw [tk]
            exact hm.take (by rw [eo, c1, decide_eq_true c2]; rfl) rfl (by omega)
          · rw [decide_eq_false c3]
            refine iteF ⟨x2, m, _, _, _, _, rfl, ?_⟩
            rw [tk]
            refine hm.skip fun z => ?_
            show b1 ≤ m
            omega
        · rw [decide_eq_false c2]
          refine iteF (iteF ⟨x2, m, _, _, _, _, rfl, ?_⟩)
          rw [tk]
          refine hm.skip fun z => ?_
          rw [eo, c1, decide_eq_false c2] at z; cases z
    · obtain ⟨hx, m, x5, x6, x7, x8, rfl, hm⟩ := hp
      rw [h8.1, List.take_length] at hm
      exact ⟨_, rfl, q H' m hx hm⟩


end K17
-- K17_e4
namespace K17
open PySem PySem.Spec PyProof.Rows L2 LC
variable [Tbl]
variable {P : Program} {w : World} {K : PySem.W.Frag} {mg : Str → Option Value} {base : Heap} {f c : Addr} {fd : FuncData} {Ts : List Addr} {TP : Addr}

def sp_law_standing : Sp := fun vs H Q _ => ∃ (v : V) (pl : List (List Int)) (t : Int), vs = [v, .int t] ∧ PlnAt H v pl ∧ pl.length ≤ 1000 ∧ (∀ ts ∈ pl, ts.length ≤ 1000) ∧ ∀ H' p, Xn H H' → H' p = some (.lst ((stand pl t).map V.int)) → Q (.ref p) H'
theorem ok_law_standing (T : Txt mg) (F : FunC K "_law_standing" s_law_standing f fd c) : FnOk P w K mg base CX0 1 f fd ["plan", "tick"] sp_law_standing := by
  refine F.ok sc_law_standing (fun vs H Q E h => ?_) (fun A outer s H vs Q E hr h => ⟨_, (pss_one (ps_ret (pe_lc (own := [("ticks", 2)]) rfl sc_law_standing.nd (piK (K := K) iTup (pi_tup (pv 0)) rfl) (blkOk_by (N := N_law_standing) (sc := defScope s_law_standing) (own := [("ticks", 2)]) (by decide +kernel)) (fun _ _ _ _ _ => (pg_name (i := 2) sc_law_standing.nd rfl (Or.inl rfl))) (fun _ _ _ _ _ => pts_nil) (fun _ _ _ _ _ => (pe_callB (crK (K := K) rLenQ cr_len rfl) (by rfl) T.g_len (by decide +kernel) (pa_cons (pe_lc (own := [("one", 3)]) rfl sc_law_standing.nd (piK (K := K) iTup (pi_tup (pv 2)) rfl) (LC.blkOk_re (blkOk_by (N := N_law_standing) (sc := LC.retScope (defBody s_law_standing)) (own := [("one", 3)]) (by decide +kernel))) (fun _ _ _ _ _ => (pg_name (i := 3) sc_law_standing.nd rfl (Or.inl rfl))) (fun _ _ _ _ _ => (pts_one (pt_cmpR op_le (pv 3) (pv 1) (nomark _)))) (fun _ _ _ _ _ => (pv 3))) pa_nil)))))), ?_⟩)
  · obtain ⟨v, pl, t, rfl, _⟩ := h; rfl
  · obtain ⟨v, pl, t, rfl, ⟨⟨a, rs, rfl, h1, h2⟩⟩, hl, hl2, q⟩ := h
    refine ⟨_, rfl, a, rfl, ⟨_, SqT.of h1⟩, fun D hD => ?_⟩
    refine lc_tup (xs := rs) (fun n H' => Xn H H' ∧ H' D = some (.lst ((stand (pl.take n) t).map V.int))) ⟨Xt.new hD, upd_same⟩ (fun n H' _ hp => SqT.of (hp.1.tups _ _ h1)) (fun n x H' ex hp => ?_) (fun H' hp => ?_)
    · obtain ⟨hx, hD'⟩ := hp
      obtain ⟨b, ts, rfl, e1, e2⟩ := h2.get ex
      have hn : n < pl.length := (List.getElem?_eq_some_iff.mp e1).1
      have e2 := hx.tups _ _ e2
      refine ⟨rfl, yes_of ⟨_, rfl, b, rfl, ⟨_, SqT.of e2⟩, fun D2 hD2 => ?_⟩⟩
      refine lc_tup (xs := ts.map V.int) (fun m H3 => Xn H' H3 ∧ H3 D2 = some (.lst (((ts.take m).filter fun x => decide (x ≤ t)).map V.int))) ⟨Xt.new hD2, upd_same⟩ (fun m H3 _ hp => SqT.of (hp.1.tups _ _ e2)) (fun m x H3 ex hp => ?_) (fun H3 hp => ?_)
      · obtain ⟨hx3, hD3⟩ := hp
        obtain ⟨y, ey, rfl⟩ := getI ex
        have hm : m < ts.length := (List.getElem?_eq_some_iff.mp ey).1
        have hl3 := hl2 ts (List.mem_of_getElem? e1)
        refine ⟨rfl, ⟨_, rfl, _, rfl, _, _, rfl, rfl, _, rfl, ?_⟩⟩
        by_cases z : y ≤ t
        · rw [decide_eq_true z]
          refine iteT ⟨_, rfl, _, hD3, sz_lt (by rw [List.length_map]; exact Nat.lt_of_le_of_lt (List.length_filter_le _ _) (by rw [List.length_take]; omega)), hx3.young hD2, ?_⟩
          rw [upd_same, filt_yes ey (decide_eq_true z), List.map_append]; rfl
        · rw [decide_eq_false z]
          refine iteF ⟨hx3, ?_⟩
          rw [filt_no ey (decide_eq_false z)]; exact hD3
      · obtain ⟨hx3, hD3⟩ := hp
        rw [List.length_map, List.take_length] at hD3
        have hD4 := hx3.keep D _ (fun z => z) (fun _ z => by cases z) hD'
        refine ⟨D2, _, rfl, .inl (SqL.of hD3), _, hD4, sz_lt (by rw [List.length_map, stand_len, List.length_take]; omega), (hx.trans hx3).young hD, ?_⟩
        rw [upd_same, take_snocE e1, List.length_map]
        unfold stand
        rw [List.map_append, List.map_append]; rfl
    · obtain ⟨hx, hD'⟩ := hp
      rw [h2.1, List.take_length] at hD'
      exact q H' D hx hD'

def sp_law_bad : Sp := fun vs H Q _ => ∃ (v : V) (k : Clk) (st : Addr) (es : List Int) (t : Int), vs = [v, .ref st, .int t] ∧ ClkAt H v k ∧ k.Ok ∧ H st = some (.lst (es.map V.int)) ∧ es.length = k.eds.length ∧ ∀ H' p rs, Xn H H' → H' p = some (.lst rs) → Rows H' rs (badAt k es t) → Q (.ref p) H'
theorem ok_law_bad (T : Txt mg) (C_law_needed : Callee P w K mg base "_law_needed" 1 ["clock", "wheel", "edition", "other"] sp_law_needed) (F : FunC K "_law_bad" s_law_bad f fd c) : FnOk P w K mg base CX0 2 f fd ["clock", "standing", "tick"] sp_law_bad := by
  refine F.ok sc_law_bad (fun vs H Q E h => ?_) (fun A outer s H vs Q E hr h => ⟨_, (pss_cons (ps_set (i := 3) sc_law_bad.nd rfl (Or.inl rfl) (pe_lst pa_nil))
    (pss_cons (ps_for PassesOwn.never rfl (piK (K := K) iTup (pi_tup (pe_ix (ixK (K := K) rIxT ix_tup rfl) (pv 0) pe_int (fun _ _ => rfl))) rfl) (pg_tup rfl (pgs_cons (pg_name (i := 4) sc_law_bad.nd rfl (Or.inl rfl)) (pgs_cons (pg_name (i := 5) sc_law_bad.nd rfl (Or.inl rfl)) (pgs_cons (pg_name (i := 6) sc_law_bad.nd rfl (Or.inl rfl)) pgs_nil)))) (pss_one (ps_if (pt_cmpR op_eq (pv 4) (pe_op op_modN (pe_callTy call_int1 (by rfl) T.g_int (by decide +kernel) (pa_cons (pv 2) pa_nil)) (pe_ix (ixK (K := K) rIxT ix_tup rfl) (pv 0) pe_int (fun _ _ => rfl))) (nomark _)) (pss_cons (ps_set (i := 7) sc_law_bad.nd rfl (Or.inl rfl) (pe_cmpR op_lt (pe_ix (ixK (K := K) rIxL ix_list rfl) (pv 1) (pv 6) (fun _ _ => rfl)) (pe_callC C_law_needed hr (by rfl) (pa_cons (pv 0) (pa_cons (pv 5) (pa_cons (pe_ix (ixK (K := K) rIxL ix_list rfl) (pv 1) (pv 5) (fun _ _ => rfl)) (pa_cons (pv 6) pa_nil))))) (nomark _)))
    (pss_one (ps_if (PW.pt (pw_or (pt_truth (pv 7) (by intro _; rfl)) (pw_or1 (pt_cmpR op_lt (pe_ix (ixK (K := K) rIxL ix_list rfl) (pv 1) (pv 5) (fun _ _ => rfl)) (pe_callC C_law_needed hr (by rfl) (pa_cons (pv 0) (pa_cons (pv 6) (pa_cons (pe_ix (ixK (K := K) rIxL ix_list rfl) (pv 1) (pv 6) (fun _ _ => rfl)) (pa_cons (pv 5) pa_nil))))) (nomark _))))) (pss_one (ps_expr (pe_bm PySem.F.plainAttrs_list PySem.F.slot_list_append PySem.F.type_list_append mt_append (pv 3) (pa_cons (pe_tup (pa_cons (pv 5) (pa_cons (pv 6) pa_nil))) pa_nil)))) pss_nil))) pss_nil)))
    (pss_one (ps_ret (pv 3))))), ?_⟩)
  · obtain ⟨v, k, st, es, t, rfl, _⟩ := h; rfl
  · obtain ⟨v, k, st, es, t, rfl, hC, ok, hst, hel, q⟩ := h
    obtain ⟨⟨ca, e, tt, g, b, rt, rg, rb, rfl, h1, h2, h3, h4, h5, h6, h7, h8⟩⟩ := id hC
    have p0 := ok.per.1
    refine ⟨by show 0 ≤ sizeLine; decide, fun L hL => ?_⟩
    refine ⟨_, rfl, rixV 2 (upd_old h1 hL) rfl rfl ⟨tt, rfl, ⟨_, SqT.of (upd_old h3 hL)⟩, ?_⟩⟩
    refine for_tup (xs := rt) (fun n σ H' => ∃ x4 x5 x6 x7 rs, σ = [some (.ref ca), some (.ref st), some (.int t), some (.ref L), x4, x5, x6, x7] ∧ Xn H H' ∧ H' L = some (.lst rs) ∧ Rows H' rs (badOf k.bok es (k.tch.take n) (t % k.per))) ⟨_, _, _, _, [], rfl, Xt.new hL, upd_same, Rows.nil⟩ (fun n σ H' _ hp => ?_) (fun n x σ H' ex hp => ?_) (fun σ H' hp => ?_)
    · obtain ⟨_, _, _, _, _, _, hx, _⟩ := hp
      exact SqT.of (hx.tups _ _ h3)
    · obtain ⟨x4, x5, x6, x7, rs, rfl, hx, hLs, hrs⟩ := hp
      obtain ⟨r, ns, rfl, e1, e2⟩ := h4.get ex
      obtain ⟨p, i, j, rfl, p1, p2, i0, ij, j1⟩ := ok.tch ns (List.mem_of_getElem? e1)
      have hn : n < k.tch.length := (List.getElem?_eq_some_iff.mp e1).1
      have hrl : rs.length < sizeLine := sz_lt (by rw [hrs.1]; have := @badOf_len _ k.bok es (k.tch.take n) (t % k.per); rw [List.length_take] at this; have := ok.tchL; omega)
      have hs1 := hx.keep st _ (fun z => z) (fun _ z => by cases z) hst
      refine ⟨r, _, rfl, SqT.of (hx.tups _ _ e2), rfl, _, _, rfl, _, _, rfl, _, _, rfl, rfl, ?_⟩
      refine ⟨_, rfl, _, rfl, .inl ⟨_, rfl, _, rfl, rixV 0 (hx.tups _ _ h1) rfl rfl ⟨_, _, rfl, rfl, by omega, rfl, ?_⟩⟩⟩
      rw [deceq, Int.fmod_eq_emod_of_nonneg _ (by omega)]
      refine ⟨_, rfl, ?_⟩
      by_cases c1 : p = t % k.per
      rotate_left
      · rw [decide_eq_false c1]
        refine iteF ⟨_, _, _, _, rs, rfl, hx, hLs, ?_⟩
        rw [bad_no e1 c1]
        exact hrs
      rw [decide_eq_true c1]
      obtain ⟨ei, hi⟩ : ∃ z, es[i.toNat]? = some z := ⟨_, List.getElem?_eq_getElem (by omega)⟩
      obtain ⟨ej, hj⟩ : ∃ z, es[j.toNat]? = some z := ⟨_, List.getElem?_eq_getElem (by omega)⟩
      have si : sg es i = ei := by unfold sg; rw [hi]; rfl
      have sj : sg es j = ej := by unfold sg; rw [hj]; rfl
      refine iteT ⟨_, rfl, _, rfl, rixL j.toNat (SqL.of hs1) (by omega) (getV hj) ?_⟩
      refine ⟨_, rfl, _, rfl, _, rfl, _, rfl, rixL i.toNat (SqL.of hs1) (by omega) (getV hi) ?_⟩
      refine ⟨_, rfl, _, k, i, ei, j, rfl, hC.x hx, ok, fun H1 m x1 l1 => ?_⟩
      have em := l1.nd ok.bok
      subst em
      refine ⟨_, _, rfl, rfl, ?_⟩
      have hs2 := x1.keep st _ (fun z => z) (fun _ z => by cases z) hs1
      have hL1 := x1.keep L _ (fun z => z) (fun _ z => by cases z) hLs
      have hx1 := hx.trans x1
      have hrs1 := hrs.x x1
      have fin : ∀ (H2 : Hp), Xn H H2 → H2 L = some (.lst rs) → Rows H2 rs (badOf k.bok es (k.tch.take n) (t % k.per)) → unfit k.bok es [i, j] = true → ∀ p0 : Addr, H2 p0 = none → ∃ x4 x5 x6 x7 rs', ([some (.ref ca), some (.ref st), some (.int t), some (.ref L), some (.int p), some (.int i), some (.int j), some (.bl (decide (ej < nd k.bok i ei j)))] : L2.St) = [some (.ref ca), some (.ref st), some (.int t), some (.ref L), x4, x5, x6, x7] ∧ Xn H (upd (upd H2 p0 (.tup [V.int i, V.int j])) L (.lst (rs ++ [V.ref p0]))) ∧ upd (upd H2 p0 (.tup [V.int i, V.int j])) L (.lst (rs ++ [V.ref p0])) L = some (.lst rs') ∧ Rows (upd (upd H2 p0 (.tup [V.int i, V.int j])) L (.lst (rs ++ [V.ref p0]))) rs' (badOf k.bok es (k.tch.take (n + 1)) (t % k.per)) := fun H2 hx2 hL2 hr2 hu p0 hp0 => by
        have hL3 := upd_old (u := .tup [V.int i, V.int j]) hL2 hp0
        refine ⟨_, _, _, _, _, rfl, (hx2.trans (Xt.new hp0)).young hL, upd_same, ?_⟩
        rw [bad_yes e1 c1 hu]
        exact (hr2.mono ((Tk.refl.new hp0).lst hL3)).snoc (by rw [upd_ne (Ne.symm (ne_none hL2 hp0)), upd_same]; rfl)
      have eu : unfit k.bok es [i, j] = !(decide (nd k.bok i ei j ≤ ej) && decide (nd k.bok j ej i ≤ ei)) := by
        show (!fits k.bok es i j) = _
        unfold fits; rw [si, sj]
      cases c2 : decide (ej < nd k.bok i ei j) with
      | true =>
        have hu : unfit k.bok es [i, j] = true := by rw [eu, decide_eq_false (by have := of_decide_eq_true c2; omega)]; rfl
        refine ⟨_, rfl, true, c2.symm, iteT (iteT ⟨_, rfl, .inl ⟨rfl, _, SqL.of hL1⟩, _, rfl, _, rfl, by show 2 ≤ sizeLine; decide, fun p0 hp0 => ⟨L, rs, _, rfl, rfl, upd_old hL1 hp0, hrl, ?_⟩⟩)⟩
        exact fin _ hx1 hL1 hrs1 hu p0 hp0
      | false =>
        have c3 := of_decide_eq_false c2
        refine ⟨_, rfl, false, c2.symm, iteF ⟨_, rfl, _, rfl, rixL i.toNat (SqL.of hs2) (by omega) (getV hi) ?_⟩⟩
        refine ⟨_, rfl, _, rfl, _, rfl, _, rfl, rixL j.toNat (SqL.of hs2) (by omega) (getV hj) ?_⟩
        refine ⟨_, rfl, _, k, j, ej, i, rfl, hC.x hx1, ok, fun H2 m x2 l2 => ?_⟩
        have em := l2.nd ok.bok
        subst em
        have hL2 := x2.keep L _ (fun z => z) (fun _ z => by cases z) hL1
        have hx2 := hx1.trans x2
        have hrs2 := hrs1.x x2
        refine ⟨_, _, rfl, rfl, _, rfl, ?_⟩
        by_cases c4 : ei < nd k.bok j ej i
        · rw [decide_eq_true c4]
          have hu : unfit k.bok es [i, j] = true := by rw [eu, decide_eq_true (by omega : nd k.bok i ei j ≤ ej), decide_eq_false (by omega)]; rfl
          refine iteT ⟨_, rfl, .inl ⟨rfl, _, SqL.of hL2⟩, _, rfl, _, rfl, by show 2 ≤ sizeLine; decide, fun p0 hp0 => ⟨L, rs, _, rfl, rfl, upd_old hL2 hp0, hrl, ?_⟩⟩
          exact fin _ hx2 hL2 hrs2 hu p0 hp0
        · rw [decide_eq_false c4]
          have hu : unfit k.bok es [i, j] = false := by rw [eu, decide_eq_true (by omega : nd k.bok i ei j ≤ ej), decide_eq_true (by omega : nd k.bok j ej i ≤ ei)]; rfl
          refine iteF ⟨_, _, _, _, rs, rfl, hx2, hL2, ?_⟩
          rw [bad_fit e1 c1 hu]
          exact hrs2
    · obtain ⟨x4, x5, x6, x7, rs, rfl, hx, hLs, hrs⟩ := hp
      rw [h4.1, List.take_length] at hrs
      exact ⟨_, rfl, q H' L rs hx hLs hrs⟩

end K17
-- YC
namespace LC
variable [Tbl]
open PySem PySem.Spec PyProof.Rows L2 RZ
/-! a list of plans -/
structure Plns (H : Hp) (rs : List V) (pls : List (List (List Int))) : Prop where
  len : rs.length = pls.length
  at_ : ∀ (i : Nat) (pl : List (List Int)), pls[i]? = some pl → ∃ v, rs[i]? = some v ∧ PlnAt H v pl
theorem Plns.x {S : Addr → Prop} {H H1 : Hp} {rs : List V} {pls : List (List (List Int))} (h : Plns H rs pls) (x : Xt S H H1) : Plns H1 rs pls := ⟨h.len, fun i pl e => by
  obtain ⟨v, e1, e2⟩ := h.at_ i pl e
  exact ⟨v, e1, e2.x x⟩⟩
theorem Plns.nil {H : Hp} : Plns H [] [] := ⟨rfl, fun i pl e => by simp at e⟩
theorem Plns.app {H : Hp} {rs ss : List V} {p q : List (List (List Int))} (h : Plns H rs p) (g : Plns H ss q) : Plns H (rs ++ ss) (p ++ q) := ⟨by rw [List.length_append, List.length_append, h.len, g.len], fun i ns e => by
  by_cases z : i < p.length
  · rw [List.getElem?_append_left z] at e
    rw [List.getElem?_append_left (by rw [h.len]; exact z)]
    exact h.at_ i ns e
  · rw [List.getElem?_append_right (by omega)] at e
    rw [List.getElem?_append_right (by rw [h.len]; omega), h.len]
    exact g.at_ _ ns e⟩
theorem Plns.one {H : Hp} {v : V} {pl : List (List Int)} (h : PlnAt H v pl) : Plns H [v] [pl] := ⟨rfl, fun i ns e => by
  match i, e with
  | 0, e => cases e; exact ⟨v, rfl, h⟩
  | i + 1, e => simp at e⟩
theorem Plns.snoc {H : Hp} {rs : List V} {v : V} {p : List (List (List Int))} {pl : List (List Int)} (h : Plns H rs p) (g : PlnAt H v pl) : Plns H (rs ++ [v]) (p ++ [pl]) := h.app (Plns.one g)
theorem Plns.get {H : Hp} {rs : List V} {pls : List (List (List Int))} (h : Plns H rs pls) {i : Nat} {v : V} (e : rs[i]? = some v) : ∃ pl, pls[i]? = some pl ∧ PlnAt H v pl := by
  have hi := (List.getElem?_eq_some_iff.mp e).1
  obtain ⟨pl, ep⟩ : ∃ pl, pls[i]? = some pl := ⟨_, List.getElem?_eq_getElem (by rw [← h.len]; exact hi)⟩
  obtain ⟨v', e1, e2⟩ := h.at_ i pl ep
  rw [e] at e1; cases e1
  exact ⟨pl, ep, e2⟩
theorem lp_len {k : Clk} {start hi : Int} {B : Nat} (hB : (hi - start).toNat ≤ B) : ∀ n, (lp k start hi n).length ≤ B ^ ((k.eds.take n).map Int.toNat).sum
  | 0 => Nat.le_refl _
  | n + 1 => by
    show ((lp k start hi n).flatMap _).length ≤ _
    refine Nat.le_trans (flat_le (B := B ^ (k.eds[n]?.getD 0).toNat) fun pl _ => by rw [List.length_map]; exact lr_len hB _) ?_
    refine Nat.le_trans (Nat.mul_le_mul_right _ (lp_len hB n)) ?_
    rw [← Nat.pow_add]
    cases e : k.eds[n]? with
    | none =>
      have hn : k.eds.length ≤ n := List.getElem?_eq_none_iff.mp e
      rw [List.take_of_length_le hn, List.take_of_length_le (by omega : k.eds.length ≤ n + 1)]
      exact Nat.le_refl _
    | some x =>
      rw [take_snocE e, List.map_append, List.sum_append]
      exact Nat.le_of_eq (by simp)
theorem take_sum_le {es : List Int} (h : ∀ e ∈ es, 0 ≤ e) : ∀ n, (((es.take n).map Int.toNat).sum : Int) ≤ es.sum := fun n => by
  have e : ((es.map Int.toNat).sum : Int) = es.sum := by
    clear n
    induction es with
    | nil => rfl
    | cons x es ih =>
      have := ih fun y hy => h y (List.mem_cons_of_mem _ hy)
      have := h x List.mem_cons_self
      rw [List.map_cons, List.sum_cons, List.sum_cons]; omega
  have e2 : (es.map Int.toNat).sum = ((es.take n).map Int.toNat).sum + ((es.drop n).map Int.toNat).sum := by
    rw [← List.sum_append, ← List.map_append, List.take_append_drop]
  omega
/-- of few editions there are few plans -/
theorem lp_few {k : Clk} (ok : k.Ok) (h3 : k.eds.sum ≤ 3) {hi : Int} (h : hi ≤ 40) (n : Nat) : (lp k 0 hi n).length ≤ 64000 := by
  refine Nat.le_trans (lp_len (B := 40) (by omega) n) ?_
  have := take_sum_le (es := k.eds) (fun e he => (ok.eds e he).1) n
  generalize ((k.eds.take n).map Int.toNat).sum = s at this
  have hs : s ≤ 3 := by omega
  match s, hs with
  | 0, _ => decide
  | 1, _ => decide
  | 2, _ => decide
  | 3, _ => decide
  | n + 4, h => exact absurd h (by omega)
theorem for_zipT {K : PySem.W.Frag} {a b : Addr} {xs ys : List V} {g : TG} {tb : TS} {D : Ends} {σ : L2.St} {H : Hp} (hn : xs.length = ys.length) (Pv : Nat → L2.St → Hp → Prop) (h0 : Pv 0 σ H) (hl : ∀ i σ H, i ≤ xs.length → Pv i σ H → SqT K H a xs ∧ SqT K H b ys)
    (hs : ∀ i x y T σ H, xs[i]? = some x → ys[i]? = some y → Pv i σ H → H T = none → g (.ref T) σ (upd H T (.tup [x, y])) fun σ2 H2 => tb { D with nx := Pv (i + 1), ct := Pv (i + 1), bk := D.nx } σ2 H2) (hd : ∀ σ H, Pv xs.length σ H → D.nx σ H) :
    ∃ W : Nat → Nat → L2.St → Hp → Prop, (∃ m, W 0 m σ H) ∧ ∀ i m σ H, W i m σ H →
      ((ItzT K a b).stop i H ∧ D.nx σ H) ∨ ((ItzT K a b).go i H ∧ ∃ N : L2.St → Hp → Prop, (∀ σ' H', N σ' H' → ∃ m', m' < m ∧ W (i + 1) m' σ' H') ∧ ∀ x H', (ItzT K a b).yld i H x H' → g x σ H' fun σ2 H2 => tb { D with nx := N, ct := N, bk := D.nx } σ2 H2) := by
  refine ⟨fun i m σ H => m = xs.length - i ∧ i ≤ xs.length ∧ Pv i σ H, ⟨xs.length, by simp, Nat.zero_le _, h0⟩, ?_⟩
  rintro i m σ H ⟨rfl, hi, p⟩
  obtain ⟨q1, q2⟩ := hl i σ H hi p
  by_cases hlt : i < xs.length
  · refine .inr ⟨⟨xs, ys, xs[i], ys[i]'(by omega), q1, q2, by simp [hlt], List.getElem?_eq_getElem _⟩, Pv (i + 1), fun σ' H' p' => ⟨xs.length - (i + 1), by omega, rfl, hlt, p'⟩, fun x H' y => ?_⟩
    obtain ⟨T, u, v, rfl, hT, rfl, e1, e2⟩ := y
    exact hs i u v T σ H (e1 xs q1) (e2 ys q2) p hT
  · have e : i = xs.length := by omega
    subst e
    exact .inl ⟨⟨xs, ys, q1, q2, .inl (Nat.le_refl _)⟩, hd σ H p⟩
theorem minP_lens {f g : List (List Int)} {ls : List Nat} (h : f.map List.length = ls) (e : g.map List.length = ls) : (minP f g).map List.length = ls := by
  refine List.ext_getElem? fun i => ?_
  unfold minP
  rw [List.getElem?_map, List.getElem?_zipWith]
  have h1 : (f.map List.length)[i]? = ls[i]? := by rw [h]
  have h2 : (g.map List.length)[i]? = ls[i]? := by rw [e]
  rw [List.getElem?_map] at h1 h2
  cases ea : f[i]? with
  | none => rw [ea] at h1; exact h1
  | some a =>
    rw [ea] at h1
    cases eb : g[i]? with
    | none => rw [eb] at h2; exact h2
    | some b =>
      rw [eb] at h2
      show some (minR a b).length = ls[i]?
      have h1 : some a.length = ls[i]? := h1
      have h2 : some b.length = ls[i]? := h2
      rw [← h2] at h1
      have := Option.some.inj h1
      rw [← h2]
      unfold minR
      rw [List.length_zipWith, this, Nat.min_self]
/-- plans as data -/
def planP (pl : List (List Int)) : PyData := .tuple (rowsP pl)
theorem dpPl {K : PySem.W.Frag} {H : Hp} {v : V} {pl : List (List Int)} (h : PlnAt H v pl) : Dp K H v (planP pl) := by
  obtain ⟨a, rs, rfl, h1, h2⟩ := h.ex
  exact .tup (SqT.of h1) (dpP h2)
theorem dpPls {K : PySem.W.Frag} {H : Hp} : ∀ {rs : List V} {pls : List (List (List Int))}, Plns H rs pls → DpAll K H rs (pls.map planP)
  | [], [], _ => .nil
  | [], _ :: _, h => nomatch h.1
  | _ :: _, [], h => nomatch h.1
  | r :: rs, pl :: pls, h => by
    obtain ⟨v, e1, e2⟩ := h.2 0 pl rfl
    cases e1
    exact .cons (dpPl e2) (dpPls ⟨Nat.succ.inj h.1, fun i ms e => h.2 (i + 1) ms e⟩)
theorem layPl : ∀ pls : List (List (List Int)), PyData.canLayAll0 (pls.map planP) = true
  | [] => rfl
  | pl :: pls => by
    have ih := layPl pls
    have := layP pl
    show PyData.canLayAll0 (PyData.tuple (rowsP pl) :: pls.map planP) = true
    simp [PyData.canLayAll0, PyData.canLay0, ih, this]
theorem depPl : ∀ pls : List (List (List Int)), PyData.depthAll (pls.map planP) ≤ 2
  | [] => by show PyData.depthAll [] ≤ 2; simp [PyData.depthAll]
  | pl :: pls => by
    have ih := depPl pls
    have := depP pl
    show PyData.depthAll (PyData.tuple (rowsP pl) :: pls.map planP) ≤ 2
    simp [PyData.depthAll, PyData.depth]
    omega
theorem shpPls (pls : List (List (List Int))) : SeqAt.shaped (.list (pls.map planP)) = true := by
  have h1 := layPl pls
  have h2 := depPl pls
  simp [SeqAt.shaped, PyData.canLay0, PyData.depth, h1]
  omega
theorem shpPl (pl : List (List Int)) : SeqAt.shaped (planP pl) = true := by
  have h1 := layP pl
  have h2 := depP pl
  unfold planP
  simp [SeqAt.shaped, PyData.canLay0, PyData.depth, h1]
  omega
theorem eqPls_nil {K : PySem.W.Frag} {H : Hp} {S T : Addr} {rs : List V} {pls : List (List (List Int))} {Q : VK} (h : H S = some (.lst rs)) (r : Plns H rs pls) (e : H T = some (.lst [])) (q : Q (.bl pls.isEmpty) H) : rEqD K (.ref S) (.ref T) H Q := by
  refine ⟨.list (pls.map planP), .list [], .lst (SqL.of h) (dpPls r), .lst (SqL.of e) .nil, shpPls pls, PySem.W.ke_shaped_ints [], ?_⟩
  cases pls with
  | nil => exact q
  | cons x xs => exact q
theorem due_sum {k : Clk} (ok : k.Ok) : ((dueA k).length : Int) ≤ k.eds.sum := by
  have h : ∀ n, (due k.eds n).length = ((k.eds.take n).map Int.toNat).sum := fun n => by
    induction n with
    | zero => rfl
    | succ n ih =>
      rw [due_succ, List.length_append, ih, dueW_len]
      cases e : k.eds[n]? with
      | none =>
        have hn : k.eds.length ≤ n := List.getElem?_eq_none_iff.mp e
        rw [List.take_of_length_le hn, List.take_of_length_le (by omega : k.eds.length ≤ n + 1)]
        rfl
      | some x =>
        rw [take_snocE e, List.map_append, List.sum_append]
        simp
  have := take_sum_le (es := k.eds) (fun e he => (ok.eds e he).1) k.eds.length
  rw [← h] at this
  exact this
/-- the earliest plan is among all plans, and below every right one -/
theorem least_mem {k : Clk} (ok : k.Ok) {N : List Int → Int} (h : LeastN k (dueA k) (gapOf k 0) N) : rowsN k (dueA k) N ∈ lp k 0 (2 * k.per * k.eds.sum + 1) k.eds.length := by
  refine mem_all ok ⟨least_plOk ok h, fun ts hts x hx => ?_⟩
  obtain ⟨i, hi⟩ := List.mem_iff_getElem?.mp hts
  have il : i < k.eds.length := by rw [← rowsN_len (k := k) (N := N)]; exact (List.getElem?_eq_some_iff.mp hi).1
  rw [rowsN_get il] at hi
  cases hi
  obtain ⟨u, hu, rfl⟩ := List.mem_map.mp hx
  have hud : u ∈ dueA k := by
    unfold dueW at hu
    obtain ⟨j, hj, rfl⟩ := List.mem_map.mp hu
    rw [List.mem_range] at hj
    exact due_mem il (by omega)
  have hb := (least_bd ok h u hud).2
  have hs := due_sum ok
  have p0 := ok.per.1
  have : 2 * k.per * ((dueA k).length : Int) ≤ 2 * k.per * k.eds.sum := Int.mul_le_mul_of_nonneg_left hs (by omega)
  omega
theorem least_leP {k : Clk} (ok : k.Ok) {N : List Int → Int} (h : LeastN k (dueA k) (gapOf k 0) N) {pl : List (List Int)} (po : PlOk k pl) (hr : FB k pl none) : leP (rowsN k (dueA k) N) pl :=
  leP_plans ok (least_plOk ok h) po fun x hx => by rw [numOf_rows hx]; exact least_le ok h po hr x hx
noncomputable def isR (k : Clk) (pl : List (List Int)) : Bool := @decide (FB k pl none) (Classical.propDecidable _)
theorem isR_iff {k : Clk} {pl : List (List Int)} : isR k pl = true ↔ FB k pl none := by unfold isR; exact @decide_eq_true_iff _ (Classical.propDecidable _)
theorem least_fold {k : Clk} (ok : k.Ok) (h5 : 2 * k.per * k.eds.sum + 1 ≤ 100000) {N : List Int → Int} (h : LeastN k (dueA k) (gapOf k 0) N) {p : List (List Int)} {ps : List (List (List Int))} (e : (lp k 0 (2 * k.per * k.eds.sum + 1) k.eds.length).filter (isR k) = p :: ps) : (p :: ps).foldl minP p = rowsN k (dueA k) N := by
  have all : ∀ q ∈ p :: ps, leP (rowsN k (dueA k) N) q := fun q hq => by
    rw [← e] at hq
    obtain ⟨h1, h2⟩ := List.mem_filter.mp hq
    exact least_leP ok h (all_ok ok h5 h1) (isR_iff.mp h2)
  refine fold_least (all p List.mem_cons_self) all (.inr ?_)
  rw [← e]
  exact List.mem_filter.mpr ⟨least_mem ok h, isR_iff.mpr (least_right ok h)⟩
theorem in_plans {K : PySem.W.Frag} {H : Hp} {S : Addr} {v : V} {rs : List V} {pls : List (List (List Int))} {pl : List (List Int)} {Q : VK} (hv : PlnAt H v pl) (h : H S = some (.lst rs)) (r : Plns H rs pls) (m : pl ∈ pls) (q : Q (.bl true) H) : rInD K v (.ref S) H Q := by
  refine ⟨planP pl, pls.map planP, dpPl hv, .lst (SqL.of h) (dpPls r), shpPl pl, shpPls pls, ?_⟩
  have : ((pls.map planP).any fun z => PyData.eqv z (planP pl)) = true := by
    rw [List.any_eq_true]
    exact ⟨planP pl, List.mem_map.mpr ⟨pl, m, rfl⟩, SeqAt.eqv_refl _ (SeqAt.canLay_of_shaped (shpPl pl))⟩
  rw [this]; exact q
end LC
-- YE
namespace LZ
open PySem PySem.Spec PySem.W PyProof.Rows L2 RZ
theorem zip_no_len : typeLookup (.type "zip") "__len__" = pure none := am_miss_of_fast (by decide +kernel)
theorem zip_no_hint : typeLookup (.type "zip") "__length_hint__" = pure none := am_miss_of_fast (by decide +kernel)
section
variable {prog : Program} {w : World} {A : Around} {E : Value → Shared → Prop} {s : Shared}
/-- zip of two tuples while its last pair is still held by someone -/
theorem heldT_item {z TI TO T i1 i2 l1 l2 : Addr} {f : Bool} {oT : Obj} {k : Nat} {xs ys : Array Value} {x y : Value} {Q : Option Value → Shared → Prop} (D : ZipApart z TI TO i1 i2 l1 l2)
    (hz : IsZipHeld s.heap z TI TO T f) (hT : s.heap.get? T = some oT) (hTI : IsPair s.heap TI (.ref i1) (.ref i2))
    (h1 : s.heap.IsTupleIter i1 l1 k) (h2 : s.heap.IsTupleIter i2 l2 k) (hl1 : s.heap.IsTuple l1 xs) (hl2 : s.heap.IsTuple l2 ys) (hx : xs[k]? = some x) (hy : ys[k]? = some y)
    (hQ : ∀ h', IsZipHeld h' z TI TO T true → h'.IsTupleIter i1 l1 (k + 1) → h'.IsTupleIter i2 l2 (k + 1) → IsPair h' s.heap.objs.size x y →
      (∀ c o, c ≠ z → c ≠ i1 → c ≠ i2 → s.heap.get? c = some o → h'.get? c = some o) → Q (some (.ref s.heap.objs.size)) { s with heap := h' }) :
    wpAny (model prog w) A (pyNext (.ref z)) Q E s := by
  have hTy : s.TypeIs (.ref z) "zip" := ⟨_, hz, rfl⟩
  unfold pyNext
  refine wpAny_bind (wpAny_attempt (wpAny_callSpecial?_slot (name := Str.ofString "__next__") hTy F.slot_zip_next
    (wpAny_call_entry F.slot_zip_next hTy F.entry_zip_next ?_ (F.args_zip_next_1 _))))
  show wpAny _ _ (field (.ref z) 2 >>= _) _ _ _
  refine wpAny_bind (wpAny_field hz rfl (x := .bool false) rfl ?_)
  show wpAny _ _ (field (.ref z) 3 >>= _) _ _ _
  refine wpAny_bind (wpAny_field hz rfl (x := .ref TI) rfl ?_)
  refine wpAny_bind (wpAny_seqItems hTI rfl ?_)
  show wpAny _ _ (Builtin.SmallTypes.ownedTupleIsFree (.ref z) >>= _) _ _ _
  refine wpAny_bind (wpAny_tupleHeld_zip hz hT fun h₁ hz₁ hs₁ => ?_)
  simp only [Bool.false_eq_true, if_false]
  refine wpAny_bind ?_
  rw [← Array.forIn_toList]
  simp only [List.forIn_cons, List.forIn_nil]
  refine wpAny_bind (wpAny_bind (wpAny_holding ?_))
  show wpAny _ _ (Builtin.SmallTypes.nextOf (.ref i1) >>= _) _ _ _
  refine wpAny_bind (nextOf_tuple_item (s := { s with heap := h₁ }) (h1.extBut hs₁.extBut D.i1z) (hl1.extBut hs₁.extBut D.l1z) hx fun h₂ h1₂ hs₂ => wpAny_pure ?_)
  refine wpAny_pure ?_
  refine wpAny_bind (wpAny_bind (wpAny_holding ?_))
  show wpAny _ _ (Builtin.SmallTypes.nextOf (.ref i2) >>= _) _ _ _
  refine wpAny_bind (nextOf_tuple_item (s := { s with heap := h₂ }) ((h2.extBut hs₁.extBut D.i2z).extBut hs₂.extBut D.i12.symm) ((hl2.extBut hs₁.extBut D.l2z).extBut hs₂.extBut D.l2i1) hy fun h₃ h2₃ hs₃ => wpAny_pure ?_)
  refine wpAny_pure (wpAny_pure ?_)
  show wpAny _ _ (newTuple [x, y] >>= _) _ _ _
  refine wpAny_bind (wpAny_newTuple ?_)
  have hsz : h₃.objs.size = s.heap.objs.size := by rw [hs₃.1, hs₂.1, hs₁.1]
  have hz₃ : IsZipHeld h₃ z TI TO T true := hs₃.extBut _ _ D.i2z.symm (hs₂.extBut _ _ D.i1z.symm hz₁)
  have hk : ∀ c o, c ≠ z → c ≠ i1 → c ≠ i2 → s.heap.get? c = some o → h₃.get? c = some o := fun c o c1 c2 c3 e => hs₃.extBut _ _ c3 (hs₂.extBut _ _ c2 (hs₁.extBut _ _ c1 e))
  have h1₃ : h₃.IsTupleIter i1 l1 (k + 1) := h1₂.extBut hs₃.extBut D.i12
  refine wpAny_pure ⟨_, rfl, ?_⟩
  have hp : IsPair (h₃.push { cls := .type "tuple", data := .seq #[x, y] }) h₃.objs.size x y := Heap.get?_push_size _ rfl
  show wpAny _ _ (pure (some (Value.ref h₃.objs.size))) _ _ _
  rw [hsz] at hp ⊢
  exact wpAny_pure (hQ _ (Heap.get?_push_of_some _ hz₃) (h1₃.at fun o e => Heap.get?_push_of_some _ e) (h2₃.at fun o e => Heap.get?_push_of_some _ e) hp fun c o c1 c2 c3 e => Heap.get?_push_of_some _ (hk c o c1 c2 c3 e))
theorem heldT_end {z TI TO T i1 i2 l1 l2 : Addr} {f : Bool} {oT : Obj} {k : Nat} {xs ys : Array Value} {Q : Option Value → Shared → Prop} (hh : A.handled = none) (D : ZipApart z TI TO i1 i2 l1 l2)
    (hz : IsZipHeld s.heap z TI TO T f) (hT : s.heap.get? T = some oT) (hTI : IsPair s.heap TI (.ref i1) (.ref i2))
    (h1 : s.heap.IsTupleIter i1 l1 k) (hl1 : s.heap.IsTuple l1 xs) (hx : xs[k]? = none)
    (hQ : ∀ h', (∀ c o, c ≠ z → c ≠ i1 → c ≠ i2 → s.heap.get? c = some o → h'.get? c = some o) → Q none { s with heap := h' }) :
    wpAny (model prog w) A (pyNext (.ref z)) Q E s := by
  have hTy : s.TypeIs (.ref z) "zip" := ⟨_, hz, rfl⟩
  unfold pyNext
  refine wpAny_bind (wpAny_attempt (wpAny_callSpecial?_slot (name := Str.ofString "__next__") hTy F.slot_zip_next
    (wpAny_call_entry F.slot_zip_next hTy F.entry_zip_next ?_ (F.args_zip_next_1 _))))
  show wpAny _ _ (field (.ref z) 2 >>= _) _ _ _
  refine wpAny_bind (wpAny_field hz rfl (x := .bool false) rfl ?_)
  show wpAny _ _ (field (.ref z) 3 >>= _) _ _ _
  refine wpAny_bind (wpAny_field hz rfl (x := .ref TI) rfl ?_)
  refine wpAny_bind (wpAny_seqItems hTI rfl ?_)
  show wpAny _ _ (Builtin.SmallTypes.ownedTupleIsFree (.ref z) >>= _) _ _ _
  refine wpAny_bind (wpAny_tupleHeld_zip hz hT fun h₁ hz₁ hs₁ => ?_)
  simp only [Bool.false_eq_true, if_false]
  refine wpAny_bind ?_
  rw [← Array.forIn_toList]
  simp only [List.forIn_cons, List.forIn_nil]
  refine wpAny_bind (wpAny_bind (wpAny_holding ?_))
  show wpAny _ _ (Builtin.SmallTypes.nextOf (.ref i1) >>= _) _ _ _
  refine wpAny_bind (nextOf_tuple_end (s := { s with heap := h₁ }) hh (h1.extBut hs₁.extBut D.i1z) (hl1.extBut hs₁.extBut D.l1z) hx fun h₂ e hs₂ he => ?_)
  obtain ⟨o, ho, hc⟩ := he
  refine wpAny_bind (wpAny_isInstance (T := "StopIteration") (b := true) ⟨o, ho, hc⟩ isSubtype_stop ?_)
  exact wpAny_pure (hQ _ (fun c o c1 c2 _ x => hs₂ _ _ c2 (hs₁.extBut _ _ c1 x)))
end
structure ZS (h : Heap) (z TI TO i1 i2 l1 l2 S : Addr) (k : Nat) : Prop where
  f : (IsZip h z TI TO .none ∧ ∃ a b, IsPair h TO a b) ∨ ∃ (T : Addr) (b : Bool) (o : Obj), IsZipHeld h z TI TO T b ∧ h.get? T = some o ∧ T ≠ z ∧ T ≠ TO ∧ T ≠ i1 ∧ T ≠ i2 ∧ T ≠ S
  pr : IsPair h TI (.ref i1) (.ref i2)
  i1 : h.IsTupleIter i1 l1 k
  i2 : h.IsTupleIter i2 l2 k
/-- the pairs, at their places -/
structure ZG (xs ys : Array Value) (lo : Addr) (h : Heap) (as : List Addr) : Prop where
  rise : as.Pairwise (· < ·)
  above : ∀ a ∈ as, lo < a
  pairs : ∀ (j : Nat) (a : Addr), as[j]? = some a → ∃ x y, xs[j]? = some x ∧ ys[j]? = some y ∧ IsPair h a x y
theorem ZG.there {xs ys : Array Value} {lo : Addr} {h : Heap} {as : List Addr} (g : ZG xs ys lo h as) {a : Addr} (ha : a ∈ as) : a < h.objs.size := by
  obtain ⟨j, hj⟩ := List.mem_iff_getElem?.mp ha
  obtain ⟨_, _, _, _, e⟩ := g.pairs j a hj
  exact Heap.lt_size e
section
variable {prog : Program} {w : World} {A : Around} {E : Value → Shared → Prop} {s : Shared} {xs ys : Array Value} {z TI TO i1 i2 l1 l2 S : Addr} {k : Nat}
theorem ZS.item {x y : Value} {Q : Option Value → Shared → Prop} (D : ZipApart z TI TO i1 i2 l1 l2) (g : ZS s.heap z TI TO i1 i2 l1 l2 S k) (hS : S < s.heap.objs.size) (hl1 : s.heap.IsTuple l1 xs) (hl2 : s.heap.IsTuple l2 ys) (hx : xs[k]? = some x) (hy : ys[k]? = some y)
    (hQ : ∀ h', ZS h' z TI TO i1 i2 l1 l2 S (k + 1) → IsPair h' s.heap.objs.size x y → (∀ c o, c ≠ z → c ≠ TO → c ≠ i1 → c ≠ i2 → s.heap.get? c = some o → h'.get? c = some o) → Q (some (.ref s.heap.objs.size)) { s with heap := h' }) :
    wpAny (model prog w) A (pyNext (.ref z)) Q E s := by
  obtain ⟨_, q1, _⟩ := id g.i1
  obtain ⟨_, q2, _⟩ := id g.i2
  have n1 := Heap.lt_size q1
  have n2 := Heap.lt_size q2
  rcases g.f with ⟨hz, a, b, hTO⟩ | ⟨T, b, o, hz, hT, t1, t2, t3, t4, t5⟩
  · have nz := Heap.lt_size hz
    have nTO := Heap.lt_size hTO
    refine pyNext_zipT_item D hz g.pr hTO g.i1 g.i2 hl1 hl2 hx hy fun h' hz' hTO' h1' h2' hp hsz hk => hQ h' ⟨.inr ⟨s.heap.objs.size, false, _, hz', hp, Nat.ne_of_gt nz, Nat.ne_of_gt nTO, Nat.ne_of_gt n1, Nat.ne_of_gt n2, Nat.ne_of_gt hS⟩, hk _ _ D.TIz D.TITO D.TIi1 D.TIi2 g.pr, h1', h2'⟩ hp hk
  · refine heldT_item D hz hT g.pr g.i1 g.i2 hl1 hl2 hx hy fun h' hz' h1' h2' hp hk => hQ h' ⟨.inr ⟨T, true, o, hz', hk T o t1 t3 t4 hT, t1, t2, t3, t4, t5⟩, hk _ _ D.TIz D.TIi1 D.TIi2 g.pr, h1', h2'⟩ hp fun c o c1 _ c3 c4 e => hk c o c1 c3 c4 e
theorem ZS.done {Q : Option Value → Shared → Prop} (hh : A.handled = none) (D : ZipApart z TI TO i1 i2 l1 l2) (g : ZS s.heap z TI TO i1 i2 l1 l2 S k) (hl1 : s.heap.IsTuple l1 xs) (hl2 : s.heap.IsTuple l2 ys) (hx : xs[k]? = none)
    (hQ : ∀ h', (∀ c o, c ≠ z → c ≠ TO → c ≠ i1 → c ≠ i2 → s.heap.get? c = some o → h'.get? c = some o) → Q none { s with heap := h' }) :
    wpAny (model prog w) A (pyNext (.ref z)) Q E s := by
  rcases g.f with ⟨hz, a, b, hTO⟩ | ⟨T, b, o, hz, hT, _⟩
  · exact pyNext_zipT_end hh D hz g.pr hTO g.i1 g.i2 hl1 hl2 (.inl hx) hQ
  · exact heldT_end (ys := ys) hh D hz hT g.pr g.i1 hl1 hx fun h' hk => hQ h' fun c o c1 _ c3 c4 e => hk c o c1 c3 c4 e
theorem ZS.keep {h h' : Heap} (g : ZS h z TI TO i1 i2 l1 l2 S k) (hk : ∀ c o, c ≠ S → h.get? c = some o → h'.get? c = some o) (a1 : z ≠ S) (a2 : TI ≠ S) (a3 : TO ≠ S) (a4 : i1 ≠ S) (a5 : i2 ≠ S) : ZS h' z TI TO i1 i2 l1 l2 S k := by
  refine ⟨?_, hk _ _ a2 g.pr, g.i1.at fun o e => hk _ o a4 e, g.i2.at fun o e => hk _ o a5 e⟩
  rcases g.f with ⟨hz, a, b, hTO⟩ | ⟨T, b, o, hz, hT, t1, t2, t3, t4, t5⟩
  · exact .inl ⟨hk _ _ a1 hz, a, b, hk _ _ a3 hTO⟩
  · exact .inr ⟨T, b, o, hk _ _ a1 hz, hk _ _ t5 hT, t1, t2, t3, t4, t5⟩
variable {R : Result → Shared → Prop} {n : Nat}
theorem zip_loop (hh : A.handled = none) (D : ZipApart z TI TO i1 i2 l1 l2) (a1 : z < S) (a2 : TI < S) (a3 : TO < S) (a4 : i1 < S) (a5 : i2 < S) (b1 : l1 ≠ S) (b2 : l2 ≠ S) (hn : n ≤ sizeLine) (nx : xs.size = n) (ny : ys.size = n) (res : Value) {h₁ : Heap}
    (hR : ∀ h' tk acc c as, (∀ b o, b ≠ S → b ≠ z → b ≠ TO → b ≠ i1 → b ≠ i2 → h₁.get? b = some o → h'.get? b = some o) → h'.get? S = some { cls := .type "list", dict := none, data := .seq acc c, slots := #[] } → as.length = n → ZG xs ys S h' as →
      acc.toList = as.map Value.ref → R (.ok (.ret res)) { s with heap := h', toks := tk }) :
    ∀ (k i : Nat) (h : Heap) (tk c : Nat) (acc : Array Value) (as : List Addr), n - i = k → i ≤ n → ZS h z TI TO i1 i2 l1 l2 S i → h.IsTuple l1 xs → h.IsTuple l2 ys → (∀ b o, b ≠ S → b ≠ z → b ≠ TO → b ≠ i1 → b ≠ i2 → h₁.get? b = some o → h.get? b = some o) →
      h.get? S = some { cls := .type "list", dict := none, data := .seq acc c, slots := #[] } → acc.toList = as.map Value.ref → as.length = i → ZG xs ys S h as →
      codeAny (model prog w) A (.builtin "list.extend.loop" ⟨[.ref S, .ref z, res], []⟩) R { s with heap := h, toks := tk } := by
  intro k
  induction k with
  | zero =>
    intro i h tk c acc as hk hi hst hl1 hl2 hkeep hS hacc hal hG
    refine codeAny_builtin PySem.F.entry_extend_loop ?_
    rw [Around.under_plainId PySem.F.plain_extend_loop _]
    show wpAny _ A.in1 (pyNext (.ref z) >>= _) _ _ _
    refine wpAny_bind (ZS.done (s := { s with heap := h, toks := tk }) (A := A.in1) hh D hst hl1 hl2 (by rw [Array.getElem?_eq_none (by omega)]) fun h' he => ?_)
    refine wpAny_pure (hR h' tk acc c as (fun b o n1 n2 n3 n4 n5 e => he b o n2 n3 n4 n5 (hkeep b o n1 n2 n3 n4 n5 e)) (he S _ (Nat.ne_of_gt a1) (Nat.ne_of_gt a3) (Nat.ne_of_gt a4) (Nat.ne_of_gt a5) hS) (by omega) ⟨hG.rise, hG.above, fun j a hj => ?_⟩ hacc)
    obtain ⟨x, y, e1, e2, e3⟩ := hG.pairs j a hj
    have := hG.above a (List.mem_of_getElem? hj)
    exact ⟨x, y, e1, e2, he a _ (Nat.ne_of_gt (Nat.lt_trans a1 this)) (Nat.ne_of_gt (Nat.lt_trans a3 this)) (Nat.ne_of_gt (Nat.lt_trans a4 this)) (Nat.ne_of_gt (Nat.lt_trans a5 this)) e3⟩
  | succ k ih =>
    intro i h tk c acc as hk hi hst hl1 hl2 hkeep hS hacc hal hG
    have hlt : i < n := by omega
    obtain ⟨x, hx⟩ : ∃ p, xs[i]? = some p := ⟨xs[i]'(by omega), Array.getElem?_eq_getElem (by omega)⟩
    obtain ⟨y, hy⟩ : ∃ p, ys[i]? = some p := ⟨ys[i]'(by omega), Array.getElem?_eq_getElem (by omega)⟩
    have hsz : acc.size = i := by rw [← Array.length_toList, hacc, List.length_map, hal]
    have hSl : S < h.objs.size := Heap.lt_size hS
    refine codeAny_builtin PySem.F.entry_extend_loop ?_
    rw [Around.under_plainId PySem.F.plain_extend_loop _]
    show wpAny _ A.in1 (pyNext (.ref z) >>= _) _ _ _
    refine wpAny_bind (ZS.item (s := { s with heap := h, toks := tk }) (S := S) D hst hSl hl1 hl2 hx hy fun h' hst' ht hkp => ?_)
    dsimp only at ht hkp ⊢
    have hS' := hkp S _ (Nat.ne_of_gt a1) (Nat.ne_of_gt a3) (Nat.ne_of_gt a4) (Nat.ne_of_gt a5) hS
    have up : ∀ b o, b ≠ S → h'.get? b = some o → (h'.update S (Obj.mapSeq (·.push (Value.ref h.objs.size)))).get? b = some o := fun b o hb e => (Heap.get?_update_other _ _ (Ne.symm hb)).trans e
    have hl1' : h'.IsTuple l1 xs := by obtain ⟨o, ho, r⟩ := hl1; exact ⟨o, hkp _ _ D.l1z D.l1TO D.l1i1 D.l1i2 ho, r⟩
    have hl2' : h'.IsTuple l2 ys := by obtain ⟨o, ho, r⟩ := hl2; exact ⟨o, hkp _ _ D.l2z D.l2TO D.l2i1 D.l2i2 ho, r⟩
    show wpAny _ A.in1 (updateSeq S (·.push (Value.ref h.objs.size)) >>= _) _ _ _
    refine wpAny_bind ?_
    refine wpAny_updateSeq hS' rfl (wpAny_pure ⟨plainId_quiet PySem.F.plain_extend_loop _, ih (i + 1) _ tk _ (acc.push (Value.ref h.objs.size)) (as ++ [h.objs.size]) (by omega) hlt (hst'.keep (fun c o e1 e2 => up c o e1 e2) (Nat.ne_of_lt a1) (Nat.ne_of_lt a2) (Nat.ne_of_lt a3) (Nat.ne_of_lt a4) (Nat.ne_of_lt a5))
      (by obtain ⟨o, ho, r⟩ := hl1'; exact ⟨o, up _ _ b1 ho, r⟩) (by obtain ⟨o, ho, r⟩ := hl2'; exact ⟨o, up _ _ b2 ho, r⟩)
      (fun b o n1 n2 n3 n4 n5 e => up b o n1 (hkp b o n2 n3 n4 n5 (hkeep b o n1 n2 n3 n4 n5 e))) (Heap.get?_update_self _ hS' rfl) (by rw [Array.toList_push, hacc, List.map_append]; rfl) (by rw [List.length_append, hal]; rfl) ⟨?_, ?_, ?_⟩⟩) (by rw [hsz]; omega) (by show (acc.push (Value.ref h.objs.size)).size ≤ sizeLine + 1; rw [Array.size_push, hsz]; omega)
    · refine List.pairwise_append.mpr ⟨hG.rise, List.pairwise_singleton _ _, fun a ha b hb => ?_⟩
      rw [List.mem_singleton.mp hb]
      exact hG.there ha
    · intro a ha
      rcases List.mem_append.mp ha with ha | ha
      · exact hG.above a ha
      · rw [List.mem_singleton.mp ha]; exact hSl
    · intro j b hj
      rcases Nat.lt_trichotomy j as.length with h1 | h1 | h1
      · rw [List.getElem?_append_left h1] at hj
        obtain ⟨x', y', e1, e2, e3⟩ := hG.pairs j b hj
        have hb := hG.above b (List.mem_of_getElem? hj)
        exact ⟨x', y', e1, e2, up b _ (Nat.ne_of_gt hb) (hkp b _ (Nat.ne_of_gt (Nat.lt_trans a1 hb)) (Nat.ne_of_gt (Nat.lt_trans a3 hb)) (Nat.ne_of_gt (Nat.lt_trans a4 hb)) (Nat.ne_of_gt (Nat.lt_trans a5 hb)) e3)⟩
      · subst h1
        have hb : h.objs.size = b := by simpa using hj
        subst hb
        exact ⟨x, y, by rw [hal]; exact hx, by rw [hal]; exact hy, up _ _ (Nat.ne_of_gt hSl) ht⟩
      · have hnone : (as ++ [h.objs.size])[j]? = none := List.getElem?_eq_none (by rw [List.length_append, List.length_singleton]; omega)
        rw [hnone] at hj; cases hj
/-- list(a zip of two tuples of one length) -/
theorem call_listZip {Q : Value → Shared → Prop} (hh : A.handled = none) (D : ZipApart z TI TO i1 i2 l1 l2) (hz : IsZip s.heap z TI TO .none) (hTI : IsPair s.heap TI (.ref i1) (.ref i2)) {a0 b0 : Value} (hTO : IsPair s.heap TO a0 b0) (hi1 : s.heap.IsTupleIter i1 l1 0) (hi2 : s.heap.IsTupleIter i2 l2 0)
    (hl1 : s.heap.IsTuple l1 xs) (hl2 : s.heap.IsTuple l2 ys) (hn : n ≤ sizeLine) (nx : xs.size = n) (ny : ys.size = n)
    (hQ : ∀ h' tk acc c as, (∀ b o, b ≠ z → b ≠ TO → b ≠ i1 → b ≠ i2 → s.heap.get? b = some o → h'.get? b = some o) → h'.get? s.heap.objs.size = some { cls := .type "list", dict := none, data := .seq acc c, slots := #[] } → as.length = n → ZG xs ys s.heap.objs.size h' as →
      acc.toList = as.map Value.ref → Q (.ref s.heap.objs.size) { s with heap := h', toks := tk }) :
    wpAny (model prog w) A (call (.type "list") [.ref z]) Q E s := by
  refine callType_codes (Q₁ := fun obj s₁ => obj = .ref s.heap.objs.size ∧ s₁ = { s with heap := s.heap.push { cls := .type "list", data := .seq #[] } }) PySem.F.called_list (PySem.F.typeCall_list_1 _) PySem.F.entry_list_init
    (code_list_new _ ⟨rfl, rfl⟩) fun obj s₁ h₁ => ?_
  obtain ⟨rfl, rfl⟩ := h₁
  have hS : (s.heap.push { cls := .type "list", data := .seq #[] }).get? s.heap.objs.size = some { cls := .type "list", data := .seq #[] } := Heap.get?_push_size _ rfl
  have c1 := Heap.lt_size hz
  have c2 := Heap.lt_size hTI
  have c3 := Heap.lt_size hTO
  have c4 : i1 < s.heap.objs.size := by obtain ⟨_, e, _⟩ := id hi1; exact Heap.lt_size e
  have c5 : i2 < s.heap.objs.size := by obtain ⟨_, e, _⟩ := id hi2; exact Heap.lt_size e
  have c6 : l1 < s.heap.objs.size := by obtain ⟨_, e, _⟩ := id hl1; exact Heap.lt_size e
  have c7 : l2 < s.heap.objs.size := by obtain ⟨_, e, _⟩ := id hl2; exact Heap.lt_size e
  refine ⟨⟨_, hS, rfl⟩, PySem.F.args_list_init_2 _ _, ?_⟩
  obtain ⟨S, eS⟩ : ∃ S, S = s.heap.objs.size := ⟨_, rfl⟩
  rw [← eS] at hS hQ c1 c2 c3 c4 c5 c6 c7 ⊢
  have low : ∀ b o, b ≠ S → s.heap.get? b = some o → (s.heap.push { cls := .type "list", data := .seq #[] }).get? b = some o := fun b o _ e => Heap.get?_push_of_some _ e
  generalize s.heap.push { cls := .type "list", data := .seq #[] } = h0 at hS low ⊢
  show wpAny _ _ (do let old ← Builtin.List.listItems (.ref S); Builtin.List.listUpdate (.ref S) (fun _ => #[]); letGo old.toList.reverse; Builtin.List.listExtendWith (.ref S) (.ref z) .none) _ _ _
  refine wpAny_bind ?_
  unfold Builtin.List.listItems
  refine wpAny_bind (wpAny_seqItems hS rfl (wpAny_pure ?_))
  show wpAny _ _ (updateSeq S (fun _ => #[]) >>= fun _ => letGo (#[] : Array Value).toList.reverse >>= fun _ => Builtin.List.listExtendWith (.ref S) (.ref z) .none) _ _ _
  refine wpAny_bind (wpAny_updateSeq hS rfl ?_)
  have hS2 := Heap.get?_update_self (Obj.mapSeq (fun _ => (#[] : Array Value))) hS rfl
  have low2 : ∀ b o, b ≠ S → s.heap.get? b = some o → (h0.update S (Obj.mapSeq (fun _ => (#[] : Array Value)))).get? b = some o := fun b o hb e => (Heap.get?_update_other _ _ (Ne.symm hb)).trans (low b o hb e)
  refine wpAny_bind (wpAny_letGo ?_)
  dsimp only
  generalize h0.update S (Obj.mapSeq (fun _ => (#[] : Array Value))) = h2 at hS2 low2 ⊢
  have hz2 : IsZip h2 z TI TO .none := low2 _ _ (Nat.ne_of_lt c1) hz
  unfold Builtin.List.listExtendWith
  have h1 : Builtin.List.listSameRef (.ref S) (.ref z) = false := by simp [Builtin.List.listSameRef, Nat.ne_of_gt c1]
  have h3 : (Value.type "zip" == Value.type "list") = false := by decide
  have h4 : (Value.type "zip" == Value.type "tuple") = false := by decide
  refine wpAny_bind (wpAny_typeOf (T := "zip") ⟨_, hz2, rfl⟩ ?_)
  simp only [h1, h3, h4, Bool.or_false, Bool.false_eq_true, if_false]
  refine wpAny_bind (wpAny_pyIter_zip hz2 ?_)
  refine wpAny_bind (wpAny_holding ?_)
  unfold Builtin.List.listLengthHint
  refine wpAny_bind (wpAny_specialOf (T := "zip") ⟨_, hz2, rfl⟩ zip_no_len ?_)
  show wpAny _ _ (specialOf (Value.ref z) (Str.ofString "__length_hint__") >>= _) _ _ _
  refine wpAny_bind (wpAny_specialOf (T := "zip") ⟨_, hz2, rfl⟩ zip_no_hint ?_)
  refine wpAny_pure ?_
  show wpAny _ _ (rule "list.extend.makes-room" >>= fun _ => Builtin.List.listTouch (.ref S) >>= fun _ =>
    again (.builtin "list.extend.loop" ⟨[.ref S, .ref z, .none], []⟩)) _ _ _
  refine wpAny_bind (wpAny_rule ?_)
  refine wpAny_bind ?_
  show wpAny _ _ (updateSeq S (·.push .none) >>= fun _ => updateSeq S (·.pop)) _ _ _
  refine wpAny_bind (wpAny_updateSeq hS2 rfl ?_)
  have hS3 := Heap.get?_update_self (Obj.mapSeq (·.push Value.none)) hS2 rfl
  refine wpAny_updateSeq (hz := by seq_fits) hS3 rfl ?_
  have hS4 := Heap.get?_update_self (Obj.mapSeq (·.pop)) hS3 rfl
  have low4 : ∀ b o, b ≠ S → s.heap.get? b = some o → ((h2.update S (Obj.mapSeq (·.push Value.none))).update S (Obj.mapSeq (·.pop))).get? b = some o := fun b o hb e => (Heap.get?_update_other _ _ (Ne.symm hb)).trans ((Heap.get?_update_other _ _ (Ne.symm hb)).trans (low2 b o hb e))
  refine wpAny_pure ⟨plainId_quiet PySem.F.plain_extend_loop _, ?_⟩
  dsimp only
  generalize (h2.update S (Obj.mapSeq (·.push Value.none))).update S (Obj.mapSeq (·.pop)) = h5 at hS4 low4 ⊢
  refine zip_loop (s := s) (A := A.in1) (h₁ := s.heap) (n := n) (xs := xs) (ys := ys) hh D c1 c2 c3 c4 c5 (Nat.ne_of_lt c6) (Nat.ne_of_lt c7) hn nx ny .none (fun h' tk acc c as hk hS' hl hG hacc => ⟨rfl, hQ h' tk acc c as (fun b o n2 n3 n4 n5 e => hk b o (by rw [eS]; exact Nat.ne_of_lt (Heap.lt_size e)) n2 n3 n4 n5 e) hS' hl hG hacc⟩)
    n 0 h5 s.toks _ #[] [] (Nat.sub_zero _) (Nat.zero_le _) ⟨.inl ⟨low4 _ _ (Nat.ne_of_lt c1) hz, _, _, low4 _ _ (Nat.ne_of_lt c3) hTO⟩, low4 _ _ (Nat.ne_of_lt c2) hTI, hi1.at fun o e => low4 _ o (Nat.ne_of_lt c4) e, hi2.at fun o e => low4 _ o (Nat.ne_of_lt c5) e⟩ ?_ ?_ (fun b o n1 _ _ _ _ e => low4 b o n1 e) hS4 rfl rfl ⟨List.Pairwise.nil, (fun _ ha => nomatch ha), (fun j a hj => by simp at hj)⟩
  · obtain ⟨o, ho, r⟩ := hl1; exact ⟨o, low4 _ _ (Nat.ne_of_lt c6) ho, r⟩
  · obtain ⟨o, ho, r⟩ := hl2; exact ⟨o, low4 _ _ (Nat.ne_of_lt c7) ho, r⟩
end
end LZ
-- YF
namespace LC
variable [Tbl]
open PySem PySem.Spec PyProof.Rows L2 RZ
/-- pairs put at their places -/
def putZ : Hp → List Addr → List (V × V) → Hp
  | H, a :: as, p :: ps => putZ (upd H a (.tup [p.1, p.2])) as ps
  | H, _, _ => H
theorem putZ_off {b : Addr} : ∀ (as : List Addr) (ps : List (V × V)) (H : Hp), b ∉ as → putZ H as ps b = H b
  | [], _, _, _ => rfl
  | _ :: _, [], _, _ => rfl
  | a :: as, p :: ps, H, h => by
    show putZ (upd H a (.tup [p.1, p.2])) as ps b = H b
    rw [putZ_off as ps _ (fun z => h (List.mem_cons_of_mem _ z)), upd_ne (fun z => h (by rw [z]; exact List.mem_cons_self))]
theorem putZ_at : ∀ (as : List Addr) (ps : List (V × V)) (H : Hp), as.Nodup → ∀ (j : Nat) (t : Addr) (p : V × V), as[j]? = some t → ps[j]? = some p → putZ H as ps t = some (.tup [p.1, p.2])
  | [], _, _, _, _, _, _, e, _ => by simp at e
  | _ :: _, [], _, _, _, _, _, _, e => by simp at e
  | a :: as, p :: ps, H, hn, 0, t, q, e1, e2 => by
    simp at e1 e2; subst e1 e2
    show putZ (upd H a (.tup [p.1, p.2])) as ps a = _
    rw [putZ_off as ps _ (List.nodup_cons.mp hn).1, upd_same]
  | a :: as, p :: ps, H, hn, j + 1, t, q, e1, e2 => putZ_at as ps _ (List.nodup_cons.mp hn).2 j t q (by simpa using e1) (by simpa using e2)
theorem putZ_xn : ∀ (as : List Addr) (ps : List (V × V)) (H : Hp), as.Nodup → (∀ t ∈ as, H t = none) → Xn H (putZ H as ps)
  | [], _, H, _, _ => Xt.refl
  | _ :: _, [], H, _, _ => Xt.refl
  | a :: as, p :: ps, H, hn, hf => (Xt.new (hf a List.mem_cons_self)).trans (putZ_xn as ps _ (List.nodup_cons.mp hn).2 fun t ht => by
      have ne : t ≠ a := fun z => (List.nodup_cons.mp hn).1 (by rw [← z]; exact ht)
      rw [upd_ne ne]
      exact hf t (List.mem_cons_of_mem _ ht))
variable {X : Cx}
theorem zip_laid {pins : List (Addr × Obj)} {σ : L2.St} {H : Hp} {s : Shared} {h' : Heap} {tk : Nat} {xs ys : List V} {its its2 : List Value} {acc : Array Value} {c : Nat} {S : Addr} {as : List Addr} (I : Inv X pins σ H s) (hz : xs.length ≤ sizeLine) (rx : Vals xs its) (ry : Vals ys its2) (hxy : xs.length = ys.length) (hSs : s.heap.objs.size ≤ S)
    (hk : ∀ b o, s.heap.get? b = some o → h'.get? b = some o) (hS : h'.get? S = some { cls := .type "list", dict := none, data := .seq acc c, slots := #[] }) (hl : as.length = xs.length) (hG : LZ.ZG its.toArray its2.toArray S h' as) (hacc : acc.toList = as.map Value.ref) :
    ∃ H' : Hp, Xn H H' ∧ H S = none ∧ H' S = some (.lst (as.map V.ref)) ∧ (∀ (j : Nat) (t : Addr) (x y : V), as[j]? = some t → xs[j]? = some x → ys[j]? = some y → H' t = some (.tup [x, y])) ∧ Inv X pins σ H' { s with heap := h', toks := tk } := by
  have hSn : S ∉ as := fun z => Nat.lt_irrefl _ (hG.above _ z)
  have nd : as.Nodup := List.Pairwise.imp (fun {a b} (h : a < b) => Nat.ne_of_lt h) hG.rise
  have new : ∀ t ∈ as, H t = none := fun t ht => I.hok.fresh (Nat.le_trans hSs (Nat.le_of_lt (hG.above t ht)))
  have newS : H S = none := I.hok.fresh hSs
  have new2 : ∀ t ∈ as, upd H S (.lst (as.map V.ref)) t = none := fun t ht => by
    have ne : t ≠ S := fun z => hSn (by rw [← z]; exact ht)
    rw [upd_ne ne]; exact new t ht
  have off : ∀ b, b ∉ as → b ≠ S → putZ (upd H S (.lst (as.map V.ref))) as (xs.zip ys) b = H b := fun b h1 h2 => by rw [putZ_off as _ _ h1, upd_ne h2]
  have low : ∀ b o, s.heap.get? b = some o → b ∉ as ∧ b ≠ S := fun b o e => ⟨fun z => absurd (Nat.lt_of_lt_of_le (Heap.lt_size e) hSs) (Nat.not_lt.mpr (Nat.le_of_lt (hG.above b z))), Nat.ne_of_lt (Nat.lt_of_lt_of_le (Heap.lt_size e) hSs)⟩
  have kp : ∀ b u, H b = some u → (putZ (upd H S (.lst (as.map V.ref))) as (xs.zip ys)) b = some u := fun b u e => by
    rw [off b (fun z => by rw [new b z] at e; cases e) (fun z => by rw [z, newS] at e; cases e)]
    exact e
  have eS : putZ (upd H S (.lst (as.map V.ref))) as (xs.zip ys) S = some (.lst (as.map V.ref)) := by rw [putZ_off as _ _ hSn, upd_same]
  have atP := putZ_at as (xs.zip ys) (upd H S (.lst (as.map V.ref))) nd
  refine ⟨putZ (upd H S (.lst (as.map V.ref))) as (xs.zip ys), (Xt.new newS).trans (putZ_xn as _ _ nd new2), newS, eS, fun j t x y e1 e2 e3 => atP j t (x, y) e1 (by rw [List.getElem?_zip_eq_some]; exact ⟨e2, e3⟩), ?_⟩
  refine I.call' (ch := []) rfl ⟨fun b o q _ _ _ => hk b o q, fun b o q _ _ _ => ⟨o.slots, hk b o q⟩, fun b o q n _ => ?_, fun b o q _ => ⟨o, hk b o q⟩, fun b xs q => kp b _ q, fun b o u q => kp b _ q, fun b ps q => ⟨#[], by rw [kp b _ q]; simp⟩⟩ (fun b u q => ?_) I.bare fun b z => by simp at z
  · obtain ⟨z1, z2⟩ := low b o q
    rw [off b z1 z2]
    exact n
  · by_cases hb : b ∈ as
    · obtain ⟨j, ej⟩ := List.mem_iff_getElem?.mp hb
      have hj : j < xs.length := by rw [← hl]; exact (List.getElem?_eq_some_iff.mp ej).1
      obtain ⟨x, ex⟩ : ∃ x, xs[j]? = some x := ⟨_, List.getElem?_eq_getElem hj⟩
      obtain ⟨y, ey⟩ : ∃ y, ys[j]? = some y := ⟨_, List.getElem?_eq_getElem (by rw [← hxy]; exact hj)⟩
      rw [atP j b (x, y) ej (by rw [List.getElem?_zip_eq_some]; exact ⟨ex, ey⟩)] at q
      cases q
      obtain ⟨u, v, f1, f2, f3⟩ := hG.pairs j b ej
      obtain ⟨u', g1, g2⟩ := LiI.paired_get rx ex
      obtain ⟨v', g3, g4⟩ := LiI.paired_get ry ey
      have e1 : u' = u := by have f1 : its[j]? = some u := by simpa using f1
                             rw [f1] at g1; exact (Option.some.inj g1).symm
      have e2 : v' = v := by have f2 : its2[j]? = some v := by simpa using f2
                             rw [f2] at g3; exact (Option.some.inj g3).symm
      subst e1 e2
      exact ⟨by show 2 ≤ sizeLine; decide, [u', v'], .cons g2 (.cons g4 .nil), ⟨_, f3, rfl, _, rfl⟩⟩
    · by_cases hb2 : b = S
      · rw [hb2] at q ⊢
        rw [eS] at q
        cases q
        refine ⟨by rw [List.length_map]; omega, acc.toList, c, by rw [hacc]; exact LiI.vals_refs as, ?_⟩
        rw [Array.toArray_toList]
        exact hS
      · rw [off b hb hb2] at q
        exact (I.hok b u q).stay (fun d v _ y => hk d v y) (fun d y => kp d _ y) fun d xs y => kp d _ y
/-- list(zip(..)) of two tuples of one length -/
def tListZip (K : PySem.W.Frag) (ta : TA) : TE := fun σ H Q => ta σ H fun vs H1 => ∃ a b xs ys, vs = [.ref a, .ref b] ∧ SqT K H1 a xs ∧ SqT K H1 b ys ∧ xs.length = ys.length ∧ xs.length ≤ 1000 ∧
  ∀ (H' : Hp) (p : Addr) (ts : List Addr), Xn H1 H' → H1 p = none → H' p = some (.lst (ts.map V.ref)) → ts.length = xs.length → (∀ (j : Nat) (t : Addr) (x y : V), ts[j]? = some t → xs[j]? = some x → ys[j]? = some y → H' t = some (.tup [x, y])) → Q (.ref p) H'
theorem pe_listZip {e e2 : Expr} {ta : TA} {p p2 pos pos2 : Pos} (hc : X.calm = true) (hgl : Gl X "list") (hml : X.mg "list" = none) (hg : Gl X "zip") (hm : X.mg "zip" = none) (ha : PA X [e, e2] ta)
    (hs : starEach [e, e2] X.env = (false, eval e X.env) :: starEach [e2] X.env := by rfl) (hpl : (backTo pos2 (starEach [e2] X.env)).any (·.1) = false := by rfl)
    (na : starEach [.Call (.Name "zip" p2) [e, e2] [] pos2] X.env = (false, eval (.Call (.Name "zip" p2) [e, e2] [] pos2) X.env) :: starEach [] X.env := by rfl) :
    PE X (.Call (.Name "list" p) [.Call (.Name "zip" p2) [e, e2] [] pos2] [] pos) (tListZip X.K ta) := by
  constructor
  intro pins s σ H Q inv reading
  refine Call_ (ld_blt inv hgl hml boot_list (PyProof.Rows.callWith_type1 (args_cons ?_ na) na))
  refine Call_ (ld_blt inv hg hm PyProof.Rows.boot_zip (PyProof.Rows.callWith_type1 (thn (ha.run pos2 pins s σ H _ inv reading) fun us s1 ⟨vs, H1, I1, r1, q1⟩ => ?_) hs hpl))
  obtain ⟨a, b, xs, ys, rfl, hqx, hqy, hxy, hz, q⟩ := q1
  cases r1 with
  | cons r rr =>
    cases rr with
    | cons r' rr =>
      cases rr
      cases r
      cases r'
      obtain ⟨its, rv, p1, _⟩ := I1.tuple hqx
      obtain ⟨its2, rv2, p2', _⟩ := I1.tuple hqy
      obtain ⟨o1, ho1, _⟩ := id p1
      obtain ⟨o2, ho2, _⟩ := id p2'
      have hl1 : xs.length = its.length := Paired.length rv
      have hl2 : ys.length = its2.length := Paired.length rv2
      have D := PySem.W.ktu_apart s1.heap.objs.size a b (Heap.lt_size ho1) (Heap.lt_size ho2)
      have hq1 : s1.heap.IsTuple a its.toArray := p1
      have hq2 : s1.heap.IsTuple b its2.toArray := p2'
      refine call_zipT hq1 hq2 fun h' hz' hTI hTO h1 h2 hsz hk => ?_
      refine args_nil ?_
      refine LZ.call_listZip (s := { s1 with heap := h' }) (n := xs.length) (xs := its.toArray) (ys := its2.toArray) (I1.ok.hd hc) D hz' hTI hTO h1 h2 (by obtain ⟨o, ho, r⟩ := hq1; exact ⟨o, hk _ _ ho, r⟩) (by obtain ⟨o, ho, r⟩ := hq2; exact ⟨o, hk _ _ ho, r⟩) (by rw [sizeLine_eq]; omega) (by simp; omega) (by simp; omega) ?_
      intro h2' tk acc c as hk2 hS hl hG hacc
      have up : ∀ b o, s1.heap.get? b = some o → h2'.get? b = some o := fun b o e => by
        have := Heap.lt_size e
        exact hk2 b o (Nat.ne_of_lt (Nat.lt_of_lt_of_le this (Nat.le_add_right _ _))) (Nat.ne_of_lt (Nat.lt_of_lt_of_le this (Nat.le_add_right _ _))) (Nat.ne_of_lt this) (Nat.ne_of_lt (Nat.lt_of_lt_of_le this (Nat.le_add_right _ _))) (hk b o e)
      obtain ⟨H', k1, k2, k3, k4, J⟩ := zip_laid (tk := tk) I1 (by rw [sizeLine_eq]; omega) rv rv2 hxy (show s1.heap.objs.size ≤ h'.objs.size by rw [hsz]; exact Nat.le_add_right _ _) up hS hl hG hacc
      exact ⟨.ref _, H', J, rfl, q H' _ as k1 k2 k3 hl k4⟩
end LC
namespace LC
variable [Tbl]
open PySem L2
theorem lzK {X : Cx} {K : PySem.W.Frag} {e : Expr} {ta : TA} (h : PE X e (tListZip X.K ta)) (hk : X.K = K) : PE X e (tListZip K ta) := hk ▸ h
end LC
-- YG
namespace LC
variable [Tbl]
open PySem PySem.Spec PyProof.Rows L2
/-! two plans mixed place by place; plans some rounds later -/
structure OpOk (op : Int → Int → Int) : Prop where
  sel : ∀ a b, op a b = a ∨ op a b = b
  str : ∀ a b c d, a < c → b < d → op a b < op c d
  mor : ∀ (g : Int → Int), (∀ s t, s ≤ t → g s ≤ g t) → ∀ a b c d, g a ≤ c → g b ≤ d → g (op a b) ≤ op c d
theorem op_min : OpOk min := ⟨fun a b => by omega, fun a b c d h1 h2 => by omega, fun g hg a b c d h1 h2 => by
  have e1 := hg (min a b) a (by omega)
  have e2 := hg (min a b) b (by omega)
  omega⟩
theorem op_max : OpOk max := ⟨fun a b => by omega, fun a b c d h1 h2 => by omega, fun g hg a b c d h1 h2 => by
  by_cases z : a ≤ b
  · rw [show max a b = b by omega]; omega
  · rw [show max a b = a by omega]; omega⟩
def zipO (op : Int → Int → Int) (f g : List (List Int)) : List (List Int) := List.zipWith (List.zipWith op) f g
section
variable {op : Int → Int → Int} {k : Clk} {pl ql : List (List Int)}
theorem zipO_get {i : Nat} {a b : List Int} (ha : pl[i]? = some a) (hb : ql[i]? = some b) : (zipO op pl ql)[i]? = some (List.zipWith op a b) := by
  unfold zipO; rw [List.getElem?_zipWith, ha, hb]
theorem zipO_ok (h : OpOk op) (po : PlOk k pl) (qo : PlOk k ql) : PlOk k (zipO op pl ql) := by
  refine ⟨by unfold zipO; rw [List.length_zipWith, po.len, qo.len, Nat.min_self], fun i ts e => ?_⟩
  have hi : i < pl.length ∧ i < ql.length := by
    have := (List.getElem?_eq_some_iff.mp e).1
    unfold zipO at this
    rw [List.length_zipWith] at this
    omega
  obtain ⟨a, ea⟩ : ∃ a, pl[i]? = some a := ⟨_, List.getElem?_eq_getElem hi.1⟩
  obtain ⟨b, eb⟩ : ∃ b, ql[i]? = some b := ⟨_, List.getElem?_eq_getElem hi.2⟩
  rw [zipO_get ea eb] at e
  cases e
  obtain ⟨a1, a2, a3⟩ := po.row i a ea
  obtain ⟨b1, b2, b3⟩ := qo.row i b eb
  have hl : a.length = b.length := by omega
  refine ⟨by rw [List.length_zipWith, hl, Nat.min_self]; exact b1, fun x hx => ?_, ?_⟩
  · obtain ⟨j, ej⟩ := List.mem_iff_getElem?.mp hx
    rw [List.getElem?_zipWith] at ej
    cases eu : a[j]? with
    | none => rw [eu] at ej; cases ej
    | some u =>
      cases ev : b[j]? with
      | none => rw [eu, ev] at ej; cases ej
      | some v =>
        rw [eu, ev] at ej
        cases ej
        rcases h.sel u v with z | z
        · rw [z]; exact a2 u (List.mem_of_getElem? eu)
        · rw [z]; exact b2 v (List.mem_of_getElem? ev)
  · rw [List.pairwise_iff_getElem] at a3 b3 ⊢
    intro i j hi hj hij
    rw [List.length_zipWith] at hi hj
    rw [List.getElem_zipWith, List.getElem_zipWith]
    exact h.str _ _ _ _ (a3 i j (by omega) (by omega) hij) (b3 i j (by omega) (by omega) hij)
theorem numOf_zipO (po : PlOk k pl) (qo : PlOk k ql) {x : List Int} (hx : x ∈ dueA k) : numOf (zipO op pl ql) x = op (numOf pl x) (numOf ql x) := by
  obtain ⟨i, a, rfl, i0, a0⟩ := due_is hx
  obtain ⟨ts, e1, e2, _⟩ := tk_get po i0 a0
  obtain ⟨us, f1, f2, _⟩ := tk_get qo i0 a0
  show tk (zipO op pl ql) i a = op (tk pl i a) (tk ql i a)
  have : tk (zipO op pl ql) i a = ((zipO op pl ql)[i.toNat]?.getD [])[(a - 1).toNat]?.getD 0 := rfl
  rw [this, zipO_get e1 f1]
  show (List.zipWith op ts us)[(a - 1).toNat]?.getD 0 = _
  rw [List.getElem?_zipWith, e2, f2]; rfl
theorem right_zipO (h : OpOk op) (ok : k.Ok) (po : PlOk k pl) (qo : PlOk k ql) (hp : FB k pl none) (hq : FB k ql none) : FB k (zipO op pl ql) none := by
  have cp := (right_closed ok po).mp hp
  have cq := (right_closed ok qo).mp hq
  refine (right_closed ok (zipO_ok h po qo)).mpr fun x hx p hpm hk => ?_
  rw [numOf_zipO po qo hx, numOf_zipO po qo hk]
  exact h.mor (sn p.2) (tab_mono ok x p hpm) _ _ _ _ (cp x hx p hpm hk) (cq x hx p hpm hk)
/-- some rounds later -/
def shP (c : Int) (pl : List (List Int)) : List (List Int) := pl.map fun ts => ts.map fun x => x + c
theorem sh_row {c m : Int} (hc : c = k.per * m) (m0 : 0 ≤ m) (p0 : 1 ≤ k.per) {l : Int} {g ts : List Int} (h : (ts.length : Int) = l ∧ (∀ x ∈ ts, 0 ≤ x ∧ x ≤ 100000 ∧ x % k.per ∈ g) ∧ ts.Pairwise (· < ·)) (hb : ∀ x ∈ ts, x + c ≤ 100000) :
    ((ts.map fun x => x + c).length : Int) = l ∧ (∀ x ∈ ts.map (fun x => x + c), 0 ≤ x ∧ x ≤ 100000 ∧ x % k.per ∈ g) ∧ (ts.map fun x => x + c).Pairwise (· < ·) := by
  obtain ⟨h1, h2, h3⟩ := h
  have c0 : 0 ≤ c := by rw [hc]; exact Int.mul_nonneg (by omega) m0
  refine ⟨by rw [List.length_map]; exact h1, fun x hx => ?_, ?_⟩
  · obtain ⟨y, hy, rfl⟩ := List.mem_map.mp hx
    obtain ⟨g1, g2, g3⟩ := h2 y hy
    refine ⟨by omega, hb y hy, ?_⟩
    rw [hc, Int.add_mul_emod_self_left]; exact g3
  · rw [List.pairwise_map]
    exact h3.imp fun {a b} h => by omega
theorem shP_ok {c m : Int} (hc : c = k.per * m) (m0 : 0 ≤ m) (ok : k.Ok) (po : PlOk k pl) (hb : ∀ ts ∈ pl, ∀ x ∈ ts, x + c ≤ 100000) : PlOk k (shP c pl) := by
  refine ⟨by unfold shP; rw [List.length_map]; exact po.len, fun i ts e => ?_⟩
  unfold shP at e
  rw [List.getElem?_map] at e
  cases ea : pl[i]? with
  | none => rw [ea] at e; cases e
  | some a =>
    rw [ea] at e; cases e
    exact sh_row hc m0 ok.per.1 (po.row i a ea) (hb a (List.mem_of_getElem? ea))
theorem numOf_shP {c : Int} (po : PlOk k pl) {x : List Int} (hx : x ∈ dueA k) : numOf (shP c pl) x = numOf pl x + c := by
  obtain ⟨i, a, rfl, i0, a0⟩ := due_is hx
  obtain ⟨ts, e1, e2, _⟩ := tk_get po i0 a0
  show ((shP c pl)[i.toNat]?.getD [])[(a - 1).toNat]?.getD 0 = tk pl i a + c
  unfold shP
  rw [List.getElem?_map, e1]
  show (ts.map fun x => x + c)[(a - 1).toNat]?.getD 0 = _
  rw [List.getElem?_map, e2]; rfl
theorem tab_shift (ok : k.Ok) (m : Int) : ∀ x, ∀ p ∈ tabC k (leans k) x, ∀ t : Int, sn p.2 (t + k.per * m) = sn p.2 t + k.per * m := fun x p hp t => by
  obtain ⟨i, a, j, b, rfl, _, hl⟩ := tab_mem ok hp
  exact (sn_row ok hl (t + k.per * m)).uniq (pu_shift m (sn_row ok hl t))
theorem right_shP {c m : Int} (hc : c = k.per * m) (m0 : 0 ≤ m) (ok : k.Ok) (po : PlOk k pl) (hb : ∀ ts ∈ pl, ∀ x ∈ ts, x + c ≤ 100000) (hp : FB k pl none) : FB k (shP c pl) none := by
  have cp := (right_closed ok po).mp hp
  refine (right_closed ok (shP_ok hc m0 ok po hb)).mpr fun x hx p hpm hk => ?_
  rw [numOf_shP po hx, numOf_shP po hk, hc, tab_shift ok m x p hpm]
  have := cp x hx p hpm hk
  omega
/-- one wheel some rounds later -/
theorem set_ok {c m : Int} (hc : c = k.per * m) (m0 : 0 ≤ m) (ok : k.Ok) (po : PlOk k pl) {at_ : Nat} {us : List Int} (hu : pl[at_]? = some us) (hb : ∀ x ∈ us, x + c ≤ 100000) : PlOk k (pl.set at_ (us.map fun x => x + c)) := by
  refine ⟨by rw [List.length_set]; exact po.len, fun i ts e => ?_⟩
  rw [List.getElem?_set] at e
  by_cases z : at_ = i
  · subst z
    rw [if_pos rfl, if_pos (List.getElem?_eq_some_iff.mp hu).1] at e
    cases e
    exact sh_row hc m0 ok.per.1 (po.row at_ us hu) hb
  · rw [if_neg z] at e
    exact po.row i ts e
theorem set_eq {at_ : Nat} {v : List Int} (h : at_ < pl.length) : pl.take at_ ++ [v] ++ pl.drop (at_ + 1) = pl.set at_ v := by
  rw [List.set_eq_take_append_cons_drop, if_pos h, List.append_assoc]; rfl
/-- the earliest plan stays far below the greatest tick -/
theorem least_far (ok : k.Ok) {N : List Int → Int} (h : LeastN k (dueA k) (gapOf k 0) N) : ∀ ts ∈ rowsN k (dueA k) N, ∀ x ∈ ts, x < 1152 := fun ts hts x hx => by
  obtain ⟨i, hi⟩ := List.mem_iff_getElem?.mp hts
  have il : i < k.eds.length := by rw [← rowsN_len (k := k) (N := N)]; exact (List.getElem?_eq_some_iff.mp hi).1
  rw [rowsN_get il] at hi
  cases hi
  obtain ⟨u, hu, rfl⟩ := List.mem_map.mp hx
  have hud : u ∈ dueA k := by
    unfold dueW at hu
    obtain ⟨j, hj, rfl⟩ := List.mem_map.mp hu
    rw [List.mem_range] at hj
    exact due_mem il (by omega)
  have hb := (least_bd ok h u hud).2
  have hl := dueA_len ok
  have p12 := ok.per.2
  have : 2 * k.per * ((dueA k).length : Int) ≤ 24 * 48 := Int.mul_le_mul (by omega) (by omega) (by omega) (by omega)
  omega
end
end LC
-- Z1
namespace LC
variable [Tbl]
open PySem PySem.Spec PyProof.Rows L2
/-! rests: plans of what a standing lacks -/
/-- a standing of a clock -/
structure StOk (k : Clk) (st : List Int) : Prop where
  len : st.length = k.eds.length
  bd : ∀ (i : Nat) (s e : Int), st[i]? = some s → k.eds[i]? = some e → 0 ≤ s ∧ s ≤ e
/-- the clock of what is still to be done, without a book -/
def leftC (k : Clk) (st : List Int) : Clk := ⟨k.per, List.zipWith (fun e s => e - s) k.eds st, k.tch, k.gps, []⟩
def rst (st : List Int) (pl : List (List Int)) (t : Int) : List Int := List.zipWith (fun s x => s + x) st (stand pl t)
/-- a rest from a tick on at which no touch is wrong -/
def RR (k : Clk) (st : List Int) (s0 : Int) (pl : List (List Int)) : Prop := ∀ t, s0 ≤ t → badAt k (rst st pl t) t = []
def numR (st : List Int) (pl : List (List Int)) (x : List Int) : Int := tk pl (x[0]?.getD 0) (x[1]?.getD 0 - sg st (x[0]?.getD 0))
def und (k : Clk) (st : List Int) : List (List Int) := (dueA k).filter fun x => decide (sg st (x[0]?.getD 0) < x[1]?.getD 0)
/-- no entry whose earlier side stands comes too late -/
def InTime (k : Clk) (st : List Int) (s0 : Int) (N : List Int → Int) : Prop := ∀ i a j b : Int, [i, a, j, b] ∈ k.bok → a ≤ sg st i → sg st j < b → ∀ c, s0 ≤ c → c % k.per ∈ phs k.tch i j → N [j, b] ≤ c
section
variable {k : Clk} {st : List Int} {s0 : Int} {pl : List (List Int)}
theorem left_len (so : StOk k st) : (leftC k st).eds.length = k.eds.length := by
  show (List.zipWith _ _ _).length = _
  rw [List.length_zipWith, so.len, Nat.min_self]
theorem left_get (so : StOk k st) {i : Nat} {e : Int} (h : k.eds[i]? = some e) : (leftC k st).eds[i]? = some (e - sg st i) := by
  show (List.zipWith _ _ _)[i]? = _
  obtain ⟨s, es⟩ : ∃ s, st[i]? = some s := ⟨_, List.getElem?_eq_getElem (by rw [so.len]; exact (List.getElem?_eq_some_iff.mp h).1)⟩
  rw [List.getElem?_zipWith, h, es]
  unfold sg
  rw [Int.toNat_natCast, es]; rfl
theorem st_bd (so : StOk k st) {i : Int} (h : 0 ≤ i ∧ i < k.eds.length) : 0 ≤ sg st i ∧ sg st i ≤ k.eds[i.toNat]?.getD 0 := by
  have hl : i.toNat < k.eds.length := by omega
  have e1 := List.getElem?_eq_getElem hl
  have e2 := List.getElem?_eq_getElem (show i.toNat < st.length by rw [so.len]; exact hl)
  have := so.bd _ _ _ e2 e1
  unfold sg
  rw [e1, e2]; exact this
theorem left_ed (so : StOk k st) {i : Int} (h : 0 ≤ i ∧ i < k.eds.length) : (leftC k st).eds[i.toNat]?.getD 0 = k.eds[i.toNat]?.getD 0 - sg st i := by
  have hl : i.toNat < k.eds.length := by omega
  have e1 := List.getElem?_eq_getElem hl
  rw [left_get so e1, e1, Int.toNat_of_nonneg h.1]; rfl
theorem zip_sum : ∀ {es ss : List Int}, es.length = ss.length → (List.zipWith (fun e s => e - s) es ss).sum = es.sum - ss.sum
  | [], [], _ => rfl
  | e :: es, s :: ss, h => by
    have := zip_sum (es := es) (ss := ss) (by simpa using h)
    rw [List.zipWith_cons_cons, List.sum_cons, List.sum_cons, List.sum_cons, this]; omega
theorem st_sum : ∀ {es ss : List Int}, es.length = ss.length → (∀ (i : Nat) (s e : Int), ss[i]? = some s → es[i]? = some e → 0 ≤ s ∧ s ≤ e) → 0 ≤ ss.sum ∧ ss.sum ≤ es.sum
  | [], [], _, _ => ⟨Int.le_refl _, Int.le_refl _⟩
  | e :: es, s :: ss, h, hb => by
    have := st_sum (es := es) (ss := ss) (by simpa using h) fun i s e hs he => hb (i + 1) s e (by simpa using hs) (by simpa using he)
    have := hb 0 s e rfl rfl
    rw [List.sum_cons, List.sum_cons]; omega
theorem left_ok (ok : k.Ok) (so : StOk k st) : (leftC k st).Ok := by
  refine Clk.Ok.mk ok.per (by rw [left_len so]; exact ok.len) (fun e he => ?_) ?_ (fun t ht => ?_) ok.tchR ok.tchL (by rw [left_len so]; exact ok.gpsN) (fun i e g he hg => ?_) (fun t ht => nomatch ht) rfl (Nat.zero_le _)
  · obtain ⟨i, hi⟩ := List.mem_iff_getElem?.mp he
    have hl : i < k.eds.length := by rw [← left_len so]; exact (List.getElem?_eq_some_iff.mp hi).1
    have e1 := List.getElem?_eq_getElem hl
    rw [left_get so e1] at hi
    have := st_bd so (i := i) (by omega)
    rw [Int.toNat_natCast, e1] at this
    have this : 0 ≤ sg st i ∧ sg st i ≤ k.eds[i] := this
    have := ok.eds _ (List.mem_of_getElem? e1)
    have := Option.some.inj hi
    omega
  · show (List.zipWith _ _ _).sum ≤ _
    rw [zip_sum so.len.symm]
    have := st_sum so.len.symm so.bd
    have := ok.sum
    omega
  · obtain ⟨p, i, j, e1, e2, e3, e4, e5, e6⟩ := ok.tch t ht
    exact ⟨p, i, j, e1, e2, e3, e4, e5, by rw [left_len so]; exact e6⟩
  · have hl : i < k.eds.length := by rw [← left_len so]; exact (List.getElem?_eq_some_iff.mp he).1
    have e1 := List.getElem?_eq_getElem hl
    rw [left_get so e1] at he
    obtain ⟨g1, g2⟩ := ok.gps i _ g e1 hg
    have := st_bd so (i := i) (by omega)
    rw [Int.toNat_natCast, e1] at this
    have this : 0 ≤ sg st i ∧ sg st i ≤ k.eds[i] := this
    have := Option.some.inj he
    exact ⟨fun z => g1 (by omega), g2⟩
theorem mem_und {x : List Int} : x ∈ und k st ↔ ∃ i a : Int, x = [i, a] ∧ (0 ≤ i ∧ i < k.eds.length) ∧ (1 ≤ a ∧ a ≤ k.eds[i.toNat]?.getD 0) ∧ sg st i < a := by
  unfold und
  rw [List.mem_filter]
  constructor
  · rintro ⟨h1, h2⟩
    obtain ⟨i, a, rfl, i0, a0⟩ := due_is h1
    exact ⟨i, a, rfl, i0, a0, of_decide_eq_true h2⟩
  · rintro ⟨i, a, rfl, i0, a0, h⟩
    exact ⟨due_of i0 a0, decide_eq_true h⟩
theorem und_due {x : List Int} (h : x ∈ und k st) : x ∈ dueA k := (List.mem_filter.mp h).1
theorem numR_get (so : StOk k st) (po : PlOk (leftC k st) pl) {i a : Int} (h : 0 ≤ i ∧ i < k.eds.length) (ha : sg st i < a ∧ a ≤ k.eds[i.toNat]?.getD 0) :
    ∃ ts, pl[i.toNat]? = some ts ∧ ts[(a - sg st i - 1).toNat]? = some (numR st pl [i, a]) ∧ ts.Pairwise (· < ·) ∧ numR st pl [i, a] % k.per ∈ k.gps[i.toNat]?.getD [] := by
  obtain ⟨ts, e1, e2, e3, _, _, e4⟩ := tk_get po (i := i) (a := a - sg st i) (by rw [left_len so]; exact h) ⟨by omega, by rw [left_ed so h]; omega⟩
  exact ⟨ts, e1, e2, e3, e4⟩
theorem rst_len (so : StOk k st) (po : PlOk (leftC k st) pl) (t : Int) : (rst st pl t).length = k.eds.length := by
  unfold rst
  rw [List.length_zipWith, stand_len, po.len, left_len so, so.len, Nat.min_self]
theorem sg_rst (so : StOk k st) (po : PlOk (leftC k st) pl) {i t : Int} (h : 0 ≤ i ∧ i < k.eds.length) : sg (rst st pl t) i = sg st i + sg (stand pl t) i := by
  have hl : i.toNat < k.eds.length := by omega
  have e2 := List.getElem?_eq_getElem (show i.toNat < st.length by rw [so.len]; exact hl)
  have e3 := List.getElem?_eq_getElem (show i.toNat < (stand pl t).length by rw [stand_len, po.len, left_len so]; exact hl)
  unfold sg rst
  rw [List.getElem?_zipWith, e2, e3]; rfl
theorem sgr_iff (so : StOk k st) (po : PlOk (leftC k st) pl) {i a t : Int} (h : 0 ≤ i ∧ i < k.eds.length) (ha : sg st i < a ∧ a ≤ k.eds[i.toNat]?.getD 0) : a ≤ sg (rst st pl t) i ↔ numR st pl [i, a] ≤ t := by
  have := sg_iff (t := t) po (i := i) (a := a - sg st i) (by rw [left_len so]; exact h) ⟨by omega, by rw [left_ed so h]; omega⟩
  rw [sg_rst so po h]
  show _ ↔ tk pl i (a - sg st i) ≤ t
  omega
theorem sgr_bd (so : StOk k st) (po : PlOk (leftC k st) pl) {i t : Int} (h : 0 ≤ i ∧ i < k.eds.length) : sg st i ≤ sg (rst st pl t) i ∧ sg (rst st pl t) i ≤ k.eds[i.toNat]?.getD 0 := by
  have := sg_bd (t := t) po (i := i) (by rw [left_len so]; exact h)
  rw [left_ed so h] at this
  rw [sg_rst so po h]; omega
theorem pu_other {i j t r x : Int} (hne : i ≠ j) (h : PU k i j t r) (hx : x % k.per ∈ k.gps[i.toNat]?.getD []) : r ≤ x ↔ ∀ c, c < t → c % k.per ∈ phs k.tch i j → c < x := by
  obtain ⟨d, h1, h2⟩ := h
  rcases h1 with ⟨h1, _⟩ | ⟨_, h1⟩
  · exact absurd h1 hne
  · constructor
    · intro hle c hc hp
      have := h1.2.2 c hc hp
      have := h2.1
      omega
    · intro hall
      have := hall (d - 1) (by have := h1.1; omega) h1.2.1
      exact h2.2.2 _ (by omega) hx
theorem pu_self {i t r x : Int} (h : PU k i i t r) (hx : x % k.per ∈ k.gps[i.toNat]?.getD []) : r ≤ x ↔ t < x := by
  obtain ⟨d, h1, h2⟩ := h
  rcases h1 with ⟨_, h1⟩ | ⟨h1, _⟩
  · constructor
    · intro hle
      have := h2.1
      omega
    · intro hlt
      exact h2.2.2 _ (by omega) hx
  · exact absurd rfl h1
theorem ge_num (so : StOk k st) (po : PlOk (leftC k st) pl) (hge : ∀ ts ∈ pl, ∀ x ∈ ts, s0 ≤ x) {x : List Int} (hx : x ∈ und k st) : s0 ≤ numR st pl x := by
  obtain ⟨i, a, rfl, i0, a0, h⟩ := mem_und.mp hx
  obtain ⟨ts, e1, e2, _⟩ := numR_get so po i0 ⟨h, a0.2⟩
  exact hge ts (List.mem_of_getElem? e1) _ (List.mem_of_getElem? e2)
/-- two wheels that touch: what a standing asks of them -/
theorem fit_of {i j c : Int} {ss : List Int} (ok : k.Ok) (h : badAt k ss c = []) (hp : c % k.per ∈ phs k.tch i j) : nd k.bok i (sg ss i) j ≤ sg ss j := by
  have hf := bad_nil.mp h _ (phs_mem ok hp) rfl
  have hf : unfit k.bok ss [min i j, max i j] = false := hf
  rw [unfit_no] at hf
  by_cases y : i ≤ j
  · rw [Int.min_eq_left y, Int.max_eq_right y] at hf; exact hf.1
  · rw [Int.min_eq_right (by omega), Int.max_eq_left (by omega)] at hf; exact hf.2
theorem nd_ge {i a j b a' : Int} (h : [i, a, j, b] ∈ k.bok) (ha : a ≤ a') : b ≤ nd k.bok i a' j := by
  refine (nd_ln k.bok i a' j).1 _ h ?_
  unfold entOk
  show ((decide (i = i) && decide (j = j)) && decide (a ≤ a')) = true
  rw [decide_eq_true ha, decide_eq_true rfl, decide_eq_true rfl]; rfl
/-- a rest is right exactly if its numbers are closed and in time -/
theorem right_rest (ok : k.Ok) (so : StOk k st) (po : PlOk (leftC k st) pl) (hge : ∀ ts ∈ pl, ∀ x ∈ ts, s0 ≤ x) : RR k st s0 pl ↔ Closed k (und k st) (numR st pl) ∧ InTime k st s0 (numR st pl) := by
  have p0 := ok.per.1
  constructor
  · intro h
    refine ⟨fun x hx p hp hk => ?_, fun i a j b hm ha hb c hc hp => ?_⟩
    · obtain ⟨i, a, j, b, rfl, rfl, hl⟩ := tab_mem ok hp
      obtain ⟨j', b', ej, j0, b0, hb⟩ := mem_und.mp hx
      cases ej
      obtain ⟨i', a', ei, i0, a0, ha⟩ := mem_und.mp hk
      cases ei
      have h1 := sn_row ok hl (numR st pl [j, b])
      obtain ⟨ts, e1, e2, e3, e4⟩ := numR_get so po i0 ⟨ha, a0.2⟩
      show sn (rowC k i j) (numR st pl [j, b]) ≤ numR st pl [i, a]
      rcases hl.st with ⟨z, hb1⟩ | ⟨z, _, hb1⟩
      · subst z
        rw [pu_self h1 e4]
        obtain ⟨ts2, f1, f2, _⟩ := numR_get so po i0 ⟨hb, b0.2⟩
        rw [e1] at f1; cases f1
        obtain ⟨l1, e5⟩ := List.getElem?_eq_some_iff.mp e2
        obtain ⟨l2, f5⟩ := List.getElem?_eq_some_iff.mp f2
        have := List.pairwise_iff_getElem.mp e3 _ _ l2 l1 (by omega)
        rw [e5, f5] at this
        exact this
      · rw [pu_other (fun y => z y.symm) h1 e4]
        intro c hc hp
        by_cases w : c < numR st pl [i, a]
        · exact w
        · exfalso
          have g0 : s0 ≤ numR st pl [i, a] := ge_num so po hge hk
          have hf := fit_of ok (h c (by omega)) hp
          have h1 := (sgr_iff (t := c) so po i0 ⟨ha, a0.2⟩).mpr (by omega)
          have h2 := nd_mono k.bok (i := i) (j := j) h1
          have h4 := (sgr_iff (t := c) so po j0 ⟨hb, b0.2⟩).mp (by omega)
          omega
    · obtain ⟨i', a', j', b', e, i0, i1, j0, j1, _, a1, a2, b1, b2⟩ := ok.bok _ hm
      cases e
      have hf := fit_of ok (h c hc) hp
      have hb1 := sgr_bd (t := c) so po (i := i) ⟨i0, i1⟩
      have h2 := nd_ge (a' := sg (rst st pl c) i) hm (by omega)
      exact (sgr_iff (t := c) so po (i := j) ⟨j0, j1⟩ ⟨hb, b2⟩).mp (by omega)
  · rintro ⟨hc, hin⟩ t t0
    rw [bad_nil]
    intro u hu e
    obtain ⟨p, x, y, rfl, p1, p2, x0, xy, y1⟩ := ok.tch u hu
    have e : p = t % k.per := e
    show unfit k.bok (rst st pl t) [x, y] = false
    rw [unfit_no]
    have one : ∀ i j : Int, 0 ≤ i ∧ i < k.eds.length → 0 ≤ j ∧ j < k.eds.length → j ≠ i → [x, y] = [min i j, max i j] → nd k.bok i (sg (rst st pl t) i) j ≤ sg (rst st pl t) j := fun i j hi hj hne hxy => by
      have hsj := sgr_bd (t := t) so po hj
      have hsi := sgr_bd (t := t) so po hi
      by_cases z : nd k.bok i (sg (rst st pl t) i) j ≤ sg st j
      · omega
      · have hp : p ∈ phs k.tch i j := mem_phs hu hxy
        have st0 := st_bd so hj
        have st1 := st_bd so hi
        have zp : 0 < nd k.bok i (sg (rst st pl t) i) j := by omega
        obtain ⟨n1, a0, n2, n3⟩ := nd_le ok.bok zp
        have jb : [j, nd k.bok i (sg (rst st pl t) i) j] ∈ und k st := mem_und.mpr ⟨j, _, rfl, hj, ⟨by omega, n1⟩, by omega⟩
        refine (sgr_iff (t := t) so po hj ⟨by omega, n1⟩).mpr ?_
        by_cases w : sg st i < sg (rst st pl t) i
        · have hl : IsLean k i (sg (rst st pl t) i) j (nd k.bok i (sg (rst st pl t) i) j) := ⟨hi, ⟨by omega, hsi.2⟩, hj, ⟨by omega, n1⟩, .inr ⟨hne, fun w => (by rw [w] at hp; exact nomatch hp), rfl⟩⟩
          have ia : [i, sg (rst st pl t) i] ∈ und k st := mem_und.mpr ⟨i, _, rfl, hi, ⟨by omega, hsi.2⟩, w⟩
          have h1 := hc _ jb _ (mem_tab (leans_mem hl)) ia
          have h1 : sn (rowC k i j) (numR st pl [j, nd k.bok i (sg (rst st pl t) i) j]) ≤ numR st pl [i, sg (rst st pl t) i] := h1
          obtain ⟨_, _, _, _, e4⟩ := numR_get so po hi ⟨w, hsi.2⟩
          rw [pu_other (fun y => hne y.symm) (sn_row ok hl _) e4] at h1
          have h3 := (sgr_iff (t := t) so po hi ⟨w, hsi.2⟩).mp (Int.le_refl _)
          by_cases v : t < numR st pl [j, nd k.bok i (sg (rst st pl t) i) j]
          · have := h1 t v (by rw [← e]; exact hp); omega
          · omega
        · rcases (nd_ln k.bok i (sg (rst st pl t) i) j).2 with h | ⟨q, hq, ho, eq⟩
          · omega
          · obtain ⟨i', a', j', b', rfl, _⟩ := ok.bok q hq
            unfold entOk at ho
            rw [Bool.and_eq_true] at ho
            have h2 : a' ≤ sg (rst st pl t) i := of_decide_eq_true ho.2
            have h1 := ho.1
            rw [Bool.and_eq_true] at h1
            obtain rfl : i' = i := of_decide_eq_true h1.1
            obtain rfl : j' = j := of_decide_eq_true h1.2
            have eq : b' = nd k.bok i' (sg (rst st pl t) i') j' := eq
            rw [← eq]
            exact hin i' a' j' b' hq (by omega) (by omega) t t0 (by rw [← e]; exact hp)
    exact ⟨one x y ⟨x0, by omega⟩ ⟨by omega, y1⟩ (by omega) (by rw [Int.min_eq_left (by omega), Int.max_eq_right (by omega)]), one y x ⟨by omega, y1⟩ ⟨x0, by omega⟩ (by omega) (by rw [Int.min_eq_right (by omega), Int.max_eq_left (by omega)])⟩
end
end LC
-- Z2
namespace LC
variable [Tbl]
open PySem PySem.Spec PyProof.Rows L2
/-! the rest of the least numbers -/
/-- first gaps, each wheel from its own tick on -/
noncomputable def gapL (k : Clk) (lo : Int → Int) (x : List Int) : Int := gapOf k (lo (x[0]?.getD 0)) x
def loH (s0 : Int) (hs : List Int) (i : Int) : Int := if i ∈ hs then s0 + 1 else s0
theorem loH_bd (s0 : Int) (hs : List Int) (i : Int) : s0 ≤ loH s0 hs i ∧ loH s0 hs i ≤ s0 + 1 := by
  unfold loH; split <;> omega
section
variable {k : Clk} {st : List Int} {s0 : Int} {pl : List (List Int)} {N : List Int → Int} {lo : Int → Int}
theorem gapL_bd (ok : k.Ok) (hlo : ∀ i, s0 ≤ lo i ∧ lo i ≤ s0 + 1) {x : List Int} (hx : x ∈ dueA k) : s0 ≤ gapL k lo x ∧ lo (x[0]?.getD 0) ≤ gapL k lo x ∧ gapL k lo x ≤ s0 + k.per := by
  have h1 := gapOf_bd ok (lo (x[0]?.getD 0)) hx
  have h2 := hlo (x[0]?.getD 0)
  unfold gapL
  omega
theorem range_cut (s d : Nat) : (List.range (s + d)).filter (fun a => decide (s ≤ a)) = (List.range d).map (s + ·) := by
  rw [List.range_add, List.filter_append]
  have e1 : (List.range s).filter (fun a => decide (s ≤ a)) = [] := List.filter_eq_nil_iff.mpr fun a ha => by
    have := List.mem_range.mp ha
    rw [decide_eq_true_eq]; omega
  have e2 : ((List.range d).map (s + ·)).filter (fun a => decide (s ≤ a)) = (List.range d).map (s + ·) := List.filter_eq_self.mpr fun a ha => by
    obtain ⟨b, _, rfl⟩ := List.mem_map.mp ha
    exact decide_eq_true (Nat.le_add_right _ _)
  rw [e1, e2, List.nil_append]
/-- the exchanges of one wheel that are still to be done -/
theorem dueW_und (so : StOk k st) {i : Nat} {e : Int} (h : k.eds[i]? = some e) : (dueW i e.toNat).filter (fun x => decide (sg st (x[0]?.getD 0) < x[1]?.getD 0)) = (dueW i (e - sg st i).toNat).map fun x => [x[0]?.getD 0, x[1]?.getD 0 + sg st (x[0]?.getD 0)] := by
  have hb := st_bd so (i := (i : Int)) (by have := (List.getElem?_eq_some_iff.mp h).1; omega)
  rw [Int.toNat_natCast, h] at hb
  have hb : 0 ≤ sg st i ∧ sg st i ≤ e := hb
  unfold dueW
  rw [List.filter_map]
  have e1 : ((fun x : List Int => decide (sg st (x[0]?.getD 0) < x[1]?.getD 0)) ∘ fun (a : Nat) => [(i : Int), 1 + (a : Int)]) = fun a => decide ((sg st i).toNat ≤ a) := by
    funext a
    show decide (sg st (i : Int) < 1 + (a : Int)) = _
    by_cases z : (sg st i).toNat ≤ a
    · rw [decide_eq_true z, decide_eq_true (by omega)]
    · rw [decide_eq_false z, decide_eq_false (by omega)]
  rw [e1, show e.toNat = (sg st i).toNat + (e - sg st i).toNat by omega, range_cut, List.map_map, List.map_map]
  refine List.map_congr_left fun a _ => ?_
  show [(i : Int), 1 + (((sg st i).toNat + a : Nat) : Int)] = [(i : Int), 1 + (a : Int) + sg st i]
  congr 2
  omega
theorem und_eq (so : StOk k st) : und k st = (dueA (leftC k st)).map fun x => [x[0]?.getD 0, x[1]?.getD 0 + sg st (x[0]?.getD 0)] := by
  have h : ∀ n, n ≤ k.eds.length → (due k.eds n).filter (fun x => decide (sg st (x[0]?.getD 0) < x[1]?.getD 0)) = (due (leftC k st).eds n).map fun x => [x[0]?.getD 0, x[1]?.getD 0 + sg st (x[0]?.getD 0)] := fun n => by
    induction n with
    | zero => exact fun _ => rfl
    | succ n ih =>
      intro hn
      have e1 := List.getElem?_eq_getElem (show n < k.eds.length by omega)
      rw [due_succ, due_succ, List.filter_append, List.map_append, ih (by omega), e1, left_get so e1]
      congr 1
      exact dueW_und so e1
  unfold und
  rw [h _ (Nat.le_refl _)]
  show _ = (due (leftC k st).eds (leftC k st).eds.length).map _
  rw [left_len so]
theorem und_nodup (k : Clk) (st : List Int) (nd : (dueA k).Nodup) : (und k st).Nodup := nd.filter _
theorem und_len (ok : k.Ok) (so : StOk k st) : ((und k st).length : Int) ≤ k.eds.sum - st.sum := by
  rw [und_eq so, List.length_map, ← zip_sum so.len.symm]
  exact due_sum (left_ok ok so)
theorem mem_und2 {x : List Int} : x ∈ und k st ↔ x ∈ dueA k ∧ sg st (x[0]?.getD 0) < x[1]?.getD 0 := by
  unfold und
  rw [List.mem_filter, decide_eq_true_iff]
theorem rowsU_get (so : StOk k st) {i : Nat} {e : Int} (h : k.eds[i]? = some e) : (rowsN k (und k st) N)[i]? = some ((List.range (e - sg st i).toNat).map fun (m : Nat) => N [(i : Int), sg st i + 1 + (m : Int)]) := by
  have hi := (List.getElem?_eq_some_iff.mp h).1
  unfold rowsN
  rw [List.getElem?_map, List.getElem?_range hi]
  show some (rowN k (und k st) N (dueA k) i) = _
  unfold rowN
  have e1 : (dueA k).filter (fun x => decide (x[0]?.getD 0 = (i : Int)) && decide (x ∈ und k st)) = ((dueA k).filter fun x => decide (x[0]?.getD 0 = (i : Int))).filter fun x => decide (sg st (x[0]?.getD 0) < x[1]?.getD 0) := by
    rw [List.filter_filter]
    refine List.filter_congr fun x hx => ?_
    rw [Bool.and_comm]
    congr 1
    by_cases z : sg st (x[0]?.getD 0) < x[1]?.getD 0
    · rw [decide_eq_true z, decide_eq_true (mem_und2.mpr ⟨hx, z⟩)]
    · rw [decide_eq_false z, decide_eq_false fun y => z (mem_und2.mp y).2]
  rw [e1, due_filter, if_pos hi, h]
  show some (((dueW i e.toNat).filter _).map N) = _
  rw [dueW_und so h, List.map_map]
  unfold dueW
  rw [List.map_map]
  refine congrArg some (List.map_congr_left fun m _ => ?_)
  show N [(i : Int), 1 + (m : Int) + sg st i] = _
  rw [show 1 + (m : Int) + sg st i = sg st i + 1 + (m : Int) by omega]
theorem rowsU_len : (rowsN k (und k st) N).length = k.eds.length := by unfold rowsN; rw [List.length_map, List.length_range]
theorem clR_next (ok : k.Ok) (so : StOk k st) (h : Closed k (und k st) N) {i a : Int} (i0 : 0 ≤ i ∧ i < k.eds.length) (a1 : sg st i < a) (a2 : a + 1 ≤ k.eds[i.toNat]?.getD 0) : N [i, a] + 1 ≤ N [i, a + 1] := by
  have sb := st_bd so i0
  have hl : IsLean k i (a + 1) i a := ⟨i0, by omega, i0, by omega, .inl ⟨rfl, by omega⟩⟩
  have h1 := h [i, a] (mem_und.mpr ⟨i, a, rfl, i0, by omega, a1⟩) _ (mem_tab (leans_mem hl)) (mem_und.mpr ⟨i, a + 1, rfl, i0, by omega, by omega⟩)
  obtain ⟨b, h2, h3⟩ := sn_row ok hl (N [i, a])
  have h1 : sn (rowC k i i) (N [i, a]) ≤ N [i, a + 1] := h1
  rcases h2 with ⟨_, h2⟩ | ⟨h2, _⟩
  · have := h3.1; omega
  · exact absurd rfl h2
theorem clR_rise (ok : k.Ok) (so : StOk k st) (h : Closed k (und k st) N) {i : Nat} {e : Int} (he : k.eds[i]? = some e) : ∀ (d m : Nat), m + d < (e - sg st i).toNat → N [(i : Int), sg st i + 1 + (m : Int)] + (d : Int) ≤ N [(i : Int), sg st i + 1 + ((m + d : Nat) : Int)]
  | 0, m, _ => by rw [Nat.add_zero]; show _ + 0 ≤ _; omega
  | d + 1, m, hd => by
    have hi := (List.getElem?_eq_some_iff.mp he).1
    have h1 := clR_rise ok so h he d m (by omega)
    have h2 := clR_next ok so h (i := i) (a := sg st i + 1 + ((m + d : Nat) : Int)) (by omega) (by omega) (by rw [Int.toNat_natCast, he]; show _ ≤ e; omega)
    rw [show sg st i + 1 + ((m + (d + 1) : Nat) : Int) = sg st i + 1 + ((m + d : Nat) : Int) + 1 by omega]
    omega
theorem leastR_bd (ok : k.Ok) (hlo : ∀ i, s0 ≤ lo i ∧ lo i ≤ s0 + 1) (h : LeastN k (und k st) (gapL k lo) N) : ∀ x ∈ und k st, lo (x[0]?.getD 0) ≤ N x ∧ N x < s0 + 2 * k.per * ((und k st).length : Int) := fun x hx => by
  have h1 := least_low (mx := s0) ok (fun y hy => by have := gapL_bd ok hlo (und_due hy); omega) h x hx
  have h2 := h.ge x hx
  have h3 := gapL_bd ok hlo (und_due hx)
  omega
theorem srcR_gap (ok : k.Ok) {x : List Int} (hx : x ∈ und k st) (h : Src k (gapL k lo) N x) : N x % k.per ∈ k.gps[(x[0]?.getD 0).toNat]?.getD [] :=
  src_gap ok (und_due hx) (lo (x[0]?.getD 0)) h
theorem und_mem (so : StOk k st) {i : Nat} {e : Int} (he : k.eds[i]? = some e) {m : Nat} (hm : m < (e - sg st i).toNat) : [(i : Int), sg st i + 1 + (m : Int)] ∈ und k st := by
  have hi := (List.getElem?_eq_some_iff.mp he).1
  have sb := st_bd so (i := (i : Int)) (by omega)
  exact mem_und.mpr ⟨i, _, rfl, by omega, by rw [Int.toNat_natCast, he]; show _ ∧ _ ≤ e; omega, by omega⟩
theorem und_few (ok : k.Ok) (st : List Int) : (und k st).length ≤ 48 := Nat.le_trans (List.length_filter_le _ _) (dueA_len ok)
/-- every tick of the rest of the least numbers -/
theorem tick_of (so : StOk k st) {i : Nat} {ts : List Int} (e : (rowsN k (und k st) N)[i]? = some ts) {x : Int} (hx : x ∈ ts) : ∃ u ∈ und k st, x = N u ∧ u[0]?.getD 0 = (i : Int) := by
  have hi : i < k.eds.length := by have := (List.getElem?_eq_some_iff.mp e).1; rw [rowsU_len] at this; exact this
  have el := List.getElem?_eq_getElem hi
  rw [rowsU_get so el] at e
  cases e
  obtain ⟨m, hm, rfl⟩ := List.mem_map.mp hx
  exact ⟨_, und_mem so el (List.mem_range.mp hm), rfl, rfl⟩
theorem leastR_plOk (ok : k.Ok) (so : StOk k st) (s1 : 0 ≤ s0) (s2 : s0 ≤ 50000) (hlo : ∀ i, s0 ≤ lo i ∧ lo i ≤ s0 + 1) (h : LeastN k (und k st) (gapL k lo) N) : PlOk (leftC k st) (rowsN k (und k st) N) where
  len := by rw [rowsU_len, left_len so]
  row := fun i ts e => by
    have hi : i < k.eds.length := by have := (List.getElem?_eq_some_iff.mp e).1; rw [rowsU_len] at this; exact this
    have el := List.getElem?_eq_getElem hi
    have sb := st_bd so (i := (i : Int)) (by omega)
    rw [Int.toNat_natCast, el] at sb
    have sb : 0 ≤ sg st i ∧ sg st i ≤ k.eds[i] := sb
    have e' := e
    rw [rowsU_get so el] at e
    cases e
    refine ⟨by rw [List.length_map, List.length_range, left_get so el]; show (_ : Int) = k.eds[i] - sg st i; omega, fun x hx => ?_, ?_⟩
    · obtain ⟨u, hu, rfl, ui⟩ := tick_of so e' hx
      have h1 := leastR_bd ok hlo h u hu
      have h2 := und_few ok st
      have h3 := ok.per
      have h4 : 2 * k.per * ((und k st).length : Int) ≤ 2 * 12 * ((und k st).length : Int) := Int.mul_le_mul_of_nonneg_right (by omega) (by omega)
      have h5 := hlo (u[0]?.getD 0)
      refine ⟨by omega, by omega, ?_⟩
      have := srcR_gap ok hu (h.sr _ hu)
      rw [ui, Int.toNat_natCast] at this
      exact this
    · rw [List.pairwise_iff_getElem]
      intro m n hm hn hmn
      rw [List.length_map, List.length_range] at hm hn
      rw [List.getElem_map, List.getElem_map, List.getElem_range, List.getElem_range]
      have := clR_rise ok so h.cl el (n - m) m (by omega)
      rw [show m + (n - m) = n by omega] at this
      omega
theorem numR_rows (so : StOk k st) {x : List Int} (hx : x ∈ und k st) : numR st (rowsN k (und k st) N) x = N x := by
  obtain ⟨i, a, rfl, i0, a0, h⟩ := mem_und.mp hx
  have el := List.getElem?_eq_getElem (show i.toNat < k.eds.length by omega)
  rw [el] at a0
  have a0 : 1 ≤ a ∧ a ≤ k.eds[i.toNat] := a0
  unfold numR tk
  show ((rowsN k (und k st) N)[i.toNat]?.getD [])[(a - sg st i - 1).toNat]?.getD 0 = _
  have ei : ((i.toNat : Nat) : Int) = i := by omega
  rw [rowsU_get so el]
  show ((List.range _).map _)[_]?.getD 0 = _
  rw [List.getElem?_map, List.getElem?_range (by rw [ei]; omega)]
  show N [((i.toNat : Nat) : Int), sg st ((i.toNat : Nat) : Int) + 1 + ((a - sg st i - 1).toNat : Int)] = _
  rw [ei, show sg st i + 1 + ((a - sg st i - 1).toNat : Int) = a by omega]
theorem leastR_ge (so : StOk k st) (hlo : ∀ i, s0 ≤ lo i ∧ lo i ≤ s0 + 1) (ok : k.Ok) (h : LeastN k (und k st) (gapL k lo) N) : ∀ (i : Nat) (ts : List Int), (rowsN k (und k st) N)[i]? = some ts → ∀ x ∈ ts, lo i ≤ x ∧ x < s0 + 2 * k.per * (k.eds.sum - st.sum) := fun i ts e x hx => by
  obtain ⟨u, hu, rfl, ui⟩ := tick_of so e hx
  have h1 := leastR_bd ok hlo h u hu
  rw [ui] at h1
  have p0 := ok.per.1
  have : 2 * k.per * ((und k st).length : Int) ≤ 2 * k.per * (k.eds.sum - st.sum) := Int.mul_le_mul_of_nonneg_left (und_len ok so) (by omega)
  omega
theorem intime_mono {M : List Int → Int} (ok : k.Ok) (h : InTime k st s0 M) (hle : ∀ x ∈ und k st, N x ≤ M x) : InTime k st s0 N := fun i a j b hm ha hb c hc hp => by
  have h1 := h i a j b hm ha hb c hc hp
  obtain ⟨i', a', j', b', e, i0, i1, j0, j1, _, a1, a2, b1, b2⟩ := ok.bok _ hm
  cases e
  have := hle [j, b] (mem_und.mpr ⟨j, b, rfl, ⟨j0, j1⟩, ⟨b1, b2⟩, hb⟩)
  omega
theorem leastR_right (ok : k.Ok) (so : StOk k st) (s1 : 0 ≤ s0) (s2 : s0 ≤ 50000) (hlo : ∀ i, s0 ≤ lo i ∧ lo i ≤ s0 + 1) (h : LeastN k (und k st) (gapL k lo) N) (hin : InTime k st s0 N) : RR k st s0 (rowsN k (und k st) N) := by
  refine (right_rest ok so (leastR_plOk ok so s1 s2 hlo h) fun ts hts x hx => ?_).mpr ⟨closed_congr (fun x hx => numR_rows so hx) h.cl, intime_mono ok hin fun x hx => by rw [numR_rows so hx]; exact Int.le_refl _⟩
  obtain ⟨i, hi⟩ := List.mem_iff_getElem?.mp hts
  have := leastR_ge so hlo ok h i ts hi x hx
  have := hlo i
  omega
theorem rest_above (ok : k.Ok) (so : StOk k st) (po : PlOk (leftC k st) pl) (hge : ∀ (i : Nat) (ts : List Int), pl[i]? = some ts → ∀ x ∈ ts, lo i ≤ x) : Above (und k st) (gapL k lo) (numR st pl) := fun x hx => by
  obtain ⟨i, a, rfl, i0, a0, h⟩ := mem_und.mp hx
  obtain ⟨ts, e1, e2, _, e4⟩ := numR_get so po i0 ⟨h, a0.2⟩
  have := hge i.toNat ts e1 _ (List.mem_of_getElem? e2)
  rw [Int.toNat_of_nonneg i0.1] at this
  exact (gapOf_gf ok (lo i) (und_due hx)).2.2 _ this e4
/-- a right rest is above the least numbers, which then are in time -/
theorem leastR_le (ok : k.Ok) (so : StOk k st) (hlo : ∀ i, s0 ≤ lo i ∧ lo i ≤ s0 + 1) (po : PlOk (leftC k st) pl) (hge : ∀ (i : Nat) (ts : List Int), pl[i]? = some ts → ∀ x ∈ ts, lo i ≤ x) (hr : RR k st s0 pl) :
    Closed k (und k st) (numR st pl) ∧ Above (und k st) (gapL k lo) (numR st pl) ∧ InTime k st s0 (numR st pl) := by
  obtain ⟨h1, h2⟩ := (right_rest ok so po fun ts hts x hx => by
    obtain ⟨i, hi⟩ := List.mem_iff_getElem?.mp hts
    have := hge i ts hi x hx
    have := hlo i
    omega).mp hr
  exact ⟨h1, rest_above ok so po hge, h2⟩
theorem leP_rests (ok : k.Ok) (so : StOk k st) {ql : List (List Int)} (po : PlOk (leftC k st) pl) (qo : PlOk (leftC k st) ql) (h : ∀ x ∈ und k st, numR st pl x ≤ numR st ql x) : leP pl ql := by
  refine leP_plans (left_ok ok so) po qo fun x hx => ?_
  obtain ⟨i, a, rfl, i0, a0⟩ := due_is hx
  rw [left_len so] at i0
  rw [left_ed so i0] at a0
  have sb := st_bd so i0
  have := h [i, a + sg st i] (mem_und.mpr ⟨i, _, rfl, i0, by omega, by omega⟩)
  unfold numR at this
  have this : tk pl i (a + sg st i - sg st i) ≤ tk ql i (a + sg st i - sg st i) := this
  rw [show a + sg st i - sg st i = a by omega] at this
  exact this
end
end LC
-- Z3
namespace LC
open PySem PySem.Spec PyProof.Rows L2
/-! own classes: their methods, how they are made -/
/-- a method of the class at C that keeps its promise -/
structure CalleeM (P : Program) (w : World) (K : PySem.W.Frag) (mg : Str → Option Value) (base : Heap) (C : Addr) (m : Str) (f : Addr) (fd : FuncData) (k : Nat) (ps : List Str) (sp : Sp) : Prop where
  at_ : Meth K C m f
  b : Binds K fd ps []
  F : FnOk P w K mg base CX0 k f fd ps sp
/-- the class named x stands at C, its __init__ keeps its promise -/
structure CalleeI (P : Program) (w : World) (K : PySem.W.Frag) (mg : Str → Option Value) (base : Heap) (C : Addr) (x : Str) (f : Addr) (fd : FuncData) (k : Nat) (ps : List Str) (sp : Sp) : Prop where
  mks : Mk K C f
  gl : mg x = some (.ref C)
  b : Binds K fd ps []
  F : FnOk P w K mg base CX0 k f fd ps sp
theorem fldK {X : Cx} {K : PySem.W.Frag} {e : Expr} {te : TE} {f : Str} (h : PE X e (tFld X.K te f)) (q : X.K = K) : PE X e (tFld K te f) := by subst q; exact h
theorem pt_truthK {X : Cx} {K : PySem.W.Frag} {a : Expr} {ta : TE} (ha : PE X a ta) (he : ∀ whole, isTrue a X.env whole = (do let v ← whole; standAt a.pos; holding [v] (truthy v))) (q : X.K = K) :
    PT X a (fun σ H Q => ta σ H fun x H' => ∃ k, TruV K x H' k ∧ Q k H') := by subst q; exact pt_truth ha he
variable [Tbl]
theorem Xt.drop {H H1 H2 : Hp} {p : Addr} (h : Xn H H1) (hn : H p = none) (g : Xt (At1 p) H1 H2) : Xn H H2 := by
  have ne : ∀ {a : Addr} {o : HO}, H a = some o → a ≠ p := fun {a o} e z => by rw [z, hn] at e; cases e
  refine ⟨fun x xs e => g.tups x xs (h.tups x xs e), fun x u h1 h2 e => g.keep x u (ne e) h2 (h.keep x u h1 h2 e), fun P e => g.tabs P (h.tabs P e), fun x ps e => ?_, fun x ps n1 n2 e => g.tbk x ps n1 (ne e) (h.tbk x ps n1 n2 e)⟩
  obtain ⟨qs, e1⟩ := h.tbls x ps e
  exact g.tbls x qs e1
theorem Xt.ownI {H : Hp} {a C dx : Addr} {fs : List (Str × V)} {o : HO} (h : H a = some (.ins C dx fs)) : Xt (At1 a) H (upd H a o) := Xt.refl.at fun u e => by
  rw [h] at e; cases e
  exact ⟨rfl, fun _ z => (by cases z), fun _ z => by cases z⟩
theorem TbAt.off {H H1 : Hp} {T p C dx : Addr} {fs : List (Str × V)} {k : Clk} (h : TbAt H T k) (hp : H p = some (.ins C dx fs)) (x : Xt (At1 p) H H1) : TbAt H1 T k := by
  obtain ⟨ps, e1, e2, e3⟩ := h.ex
  refine ⟨ps, x.keep T _ (fun z => by rw [show T = p from z, hp] at e1; cases e1) (fun _ z => by cases z) e1, e2, fun q hq => ?_⟩
  obtain ⟨l, rs, h1, h2, h3⟩ := e3 q hq
  exact ⟨l, rs, h1, x.keep l _ (fun z => by rw [show l = p from z, hp] at h2; cases h2) (fun _ z => by cases z) h2, h3.x x⟩
/-! class Rests -/
def needL (k : Clk) : List (List Int) := k.bok.filter fun t => decide (phs k.tch (t[0]?.getD 0) (t[2]?.getD 0) ≠ [])
/-- entries, each with the phases at which its wheels touch -/
structure Ents (H : Hp) (rs : List V) (k : Clk) (ts : List (List Int)) : Prop where
  len : rs.length = ts.length
  at_ : ∀ (i : Nat) (t : List Int), ts[i]? = some t → ∃ b e l : Addr, rs[i]? = some (.ref b) ∧ H b = some (.tup [.ref e, .ref l]) ∧ H e = some (.tup (t.map V.int)) ∧ H l = some (.lst ((phs k.tch (t[0]?.getD 0) (t[2]?.getD 0)).map V.int))
theorem Ents.x {H H1 : Hp} {rs : List V} {k : Clk} {ts : List (List Int)} (h : Ents H rs k ts) (x : Xn H H1) : Ents H1 rs k ts := ⟨h.len, fun i t e => by
  obtain ⟨b, e', l, e1, e2, e3, e4⟩ := h.at_ i t e
  exact ⟨b, e', l, e1, x.tups _ _ e2, x.tups _ _ e3, x.keep _ _ (fun z => z) (fun _ z => by cases z) e4⟩⟩
theorem Ents.off {H H1 : Hp} {p C dx : Addr} {fs : List (Str × V)} {rs : List V} {k : Clk} {ts : List (List Int)} (h : Ents H rs k ts) (hp : H p = some (.ins C dx fs)) (x : Xt (At1 p) H H1) : Ents H1 rs k ts := ⟨h.len, fun i t e => by
  obtain ⟨b, e', l, e1, e2, e3, e4⟩ := h.at_ i t e
  exact ⟨b, e', l, e1, x.tups _ _ e2, x.tups _ _ e3, x.keep _ _ (fun z => by rw [show l = p from z, hp] at e4; cases e4) (fun _ z => by cases z) e4⟩⟩
theorem Ents.nil {H : Hp} {k : Clk} : Ents H [] k [] := ⟨rfl, fun i t e => by simp at e⟩
theorem Ents.snoc {H : Hp} {rs : List V} {k : Clk} {ts : List (List Int)} {b e l : Addr} {t : List Int} (h : Ents H rs k ts) (e2 : H b = some (.tup [.ref e, .ref l])) (e3 : H e = some (.tup (t.map V.int))) (e4 : H l = some (.lst ((phs k.tch (t[0]?.getD 0) (t[2]?.getD 0)).map V.int))) : Ents H (rs ++ [.ref b]) k (ts ++ [t]) := ⟨by rw [List.length_append, List.length_append, h.len]; rfl, fun i q e1 => by
  by_cases hi : i < ts.length
  · rw [List.getElem?_append_left hi] at e1
    rw [List.getElem?_append_left (by rw [h.len]; exact hi)]
    exact h.at_ i q e1
  · rw [List.getElem?_append_right (by omega)] at e1
    have hz : i = ts.length := by
      have := (List.getElem?_eq_some_iff.mp e1).1
      simp at this; omega
    subst hz
    rw [Nat.sub_self] at e1
    cases e1
    rw [List.getElem?_append_right (by rw [h.len]; exact Nat.le_refl _), h.len, Nat.sub_self]
    exact ⟨b, e, l, rfl, e2, e3, e4⟩⟩
theorem Ents.get {H : Hp} {rs : List V} {k : Clk} {ts : List (List Int)} (h : Ents H rs k ts) {i : Nat} {v : V} (e : rs[i]? = some v) : ∃ (b e l : Addr) (t : List Int), v = .ref b ∧ ts[i]? = some t ∧ H b = some (.tup [.ref e, .ref l]) ∧ H e = some (.tup (t.map V.int)) ∧ H l = some (.lst ((phs k.tch (t[0]?.getD 0) (t[2]?.getD 0)).map V.int)) := by
  have hi : i < ts.length := by rw [← h.len]; exact (List.getElem?_eq_some_iff.mp e).1
  obtain ⟨t, et⟩ : ∃ t, ts[i]? = some t := ⟨_, List.getElem?_eq_getElem hi⟩
  obtain ⟨b, e', l, e1, e2, e3, e4⟩ := h.at_ i t et
  rw [e] at e1; cases e1
  exact ⟨b, e', l, t, rfl, et, e2, e3, e4⟩
/-- .. none of whose lists is the one at D -/
structure EntA (D : Addr) (H : Hp) (rs : List V) (k : Clk) (ts : List (List Int)) : Prop where
  e : Ents H rs k ts
  n : ∀ (i : Nat) (b e l : Addr), rs[i]? = some (V.ref b) → H b = some (.tup [.ref e, .ref l]) → l ≠ D
theorem EntA.nil {H : Hp} {D : Addr} {k : Clk} : EntA D H [] k [] := ⟨Ents.nil, fun i b e l h => by simp at h⟩
theorem EntA.tup {S : Addr → Prop} {H H1 : Hp} {D : Addr} {rs : List V} {k : Clk} {ts : List (List Int)} (h : EntA D H rs k ts) (x : Xt S H H1) (i : Nat) (b e l : Addr) (h1 : rs[i]? = some (V.ref b)) (h2 : H1 b = some (.tup [.ref e, .ref l])) : H b = some (.tup [.ref e, .ref l]) := by
  obtain ⟨b', e', l', t, eb, _, g2, _⟩ := h.e.get h1
  cases eb
  have := x.tups _ _ g2
  rw [h2] at this
  cases this
  exact g2
theorem EntA.x {H H1 : Hp} {D : Addr} {rs : List V} {k : Clk} {ts : List (List Int)} (h : EntA D H rs k ts) (x : Xn H H1) : EntA D H1 rs k ts := ⟨h.e.x x, fun i b e l h1 h2 => h.n i b e l h1 (h.tup x i b e l h1 h2)⟩
theorem EntA.own {H : Hp} {D : Addr} {rs : List V} {k : Clk} {ts : List (List Int)} {acc ys : List V} (h : EntA D H rs k ts) (hD : H D = some (.lst acc)) : EntA D (upd H D (.lst ys)) rs k ts := by
  have x : Xt (At1 D) H (upd H D (.lst ys)) := Xt.own rfl hD
  refine ⟨⟨h.e.len, fun i t e => ?_⟩, fun i b e l h1 h2 => h.n i b e l h1 (h.tup x i b e l h1 h2)⟩
  obtain ⟨b, e', l, e1, e2, e3, e4⟩ := h.e.at_ i t e
  exact ⟨b, e', l, e1, x.tups _ _ e2, x.tups _ _ e3, x.keep _ _ (h.n i b e' l e1 e2) (fun _ z => by cases z) e4⟩
theorem EntA.snoc {H : Hp} {D : Addr} {rs : List V} {k : Clk} {ts : List (List Int)} {b e l : Addr} {t : List Int} (h : EntA D H rs k ts) (e2 : H b = some (.tup [.ref e, .ref l])) (e3 : H e = some (.tup (t.map V.int))) (e4 : H l = some (.lst ((phs k.tch (t[0]?.getD 0) (t[2]?.getD 0)).map V.int))) (hn : l ≠ D) : EntA D H (rs ++ [.ref b]) k (ts ++ [t]) := ⟨h.e.snoc e2 e3 e4, fun i b' e' l' h1 h2 => by
  by_cases hi : i < rs.length
  · rw [List.getElem?_append_left hi] at h1
    exact h.n i b' e' l' h1 h2
  · rw [List.getElem?_append_right (by omega)] at h1
    have hz : i - rs.length = 0 := by
      have := (List.getElem?_eq_some_iff.mp h1).1
      simp at this; omega
    rw [hz] at h1
    cases h1
    rw [e2] at h2
    cases h2
    exact hn⟩
/-- what the walk asks of the class as the top has made it -/
structure RestsC (K : PySem.W.Frag) (C : Addr) : Prop where
  cl : Cls K C
  n1 : NoAttr K C "clock"
  n2 : NoAttr K C "table"
  n3 : NoAttr K C "needs"
def rfl3 (v : V) (T nd : Addr) : List (Str × V) := putF "needs" (.ref nd) (putF "table" (.ref T) (putF "clock" v []))
theorem kc1 : ¬ (("clock" : Str) = "table") := by decide +kernel
theorem kc2 : ¬ (("clock" : Str) = "needs") := by decide +kernel
theorem kc3 : ¬ (("table" : Str) = "needs") := by decide +kernel
theorem rfl3_clock (v : V) (T nd : Addr) : (rfl3 v T nd).lookup ("clock" : Str) = some v := by
  unfold rfl3; rw [lookup_putF, if_neg kc2, lookup_putF, if_neg kc1, lookup_putF, if_pos rfl]
theorem rfl3_table (v : V) (T nd : Addr) : (rfl3 v T nd).lookup ("table" : Str) = some (.ref T) := by
  unfold rfl3; rw [lookup_putF, if_neg kc3, lookup_putF, if_pos rfl]
theorem rfl3_needs (v : V) (T nd : Addr) : (rfl3 v T nd).lookup ("needs" : Str) = some (.ref nd) := by
  unfold rfl3; rw [lookup_putF, if_pos rfl]
theorem rfl3_no (v : V) (T nd : Addr) {m : Str} (h1 : ¬ m = "clock") (h2 : ¬ m = "table") (h3 : ¬ m = "needs") : (rfl3 v T nd).lookup m = none := by
  unfold rfl3; rw [lookup_putF, if_neg h3, lookup_putF, if_neg h2, lookup_putF, if_neg h1]; rfl
structure RestsAt (C : Addr) (H : Hp) (p : Addr) (k : Clk) : Prop where
  ex : ∃ (dx T nd : Addr) (v : V) (rs : List V), H p = some (.ins C dx (rfl3 v T nd)) ∧ ClkAt H v k ∧ TbAt H T k ∧ H nd = some (.lst rs) ∧ Ents H rs k (needL k)
theorem RestsAt.x {C : Addr} {H H1 : Hp} {p : Addr} {k : Clk} (h : RestsAt C H p k) (x : Xn H H1) : RestsAt C H1 p k := by
  obtain ⟨dx, T, nd, v, rs, h1, h2, h3, h4, h5⟩ := h.ex
  exact ⟨dx, T, nd, v, rs, x.keep _ _ (fun z => z) (fun _ z => by cases z) h1, h2.x x, h3.x x, x.keep _ _ (fun z => z) (fun _ z => by cases z) h4, h5.x x⟩
/-- in time, entry by entry -/
theorem intime_iff {k : Clk} {st : List Int} {s0 : Int} {N : List Int → Int} (ok : k.Ok) : InTime k st s0 N ↔ ∀ t ∈ needL k, t[1]?.getD 0 ≤ sg st (t[0]?.getD 0) → sg st (t[2]?.getD 0) < t[3]?.getD 0 → ∀ r, GF k.per (phs k.tch (t[0]?.getD 0) (t[2]?.getD 0)) s0 r → N [t[2]?.getD 0, t[3]?.getD 0] ≤ r := by
  constructor
  · intro h t ht ha hb r hr
    obtain ⟨h1, h2⟩ := List.mem_filter.mp ht
    obtain ⟨i, a, j, b, rfl, _⟩ := ok.bok t h1
    exact h i a j b h1 ha hb r hr.1 hr.2.1
  · intro h i a j b hm ha hb c hc hp
    have hne : phs k.tch i j ≠ [] := fun z => by rw [z] at hp; cases hp
    obtain ⟨r, hr⟩ := gf_some s0 ok.per.1 (phs_bd ok (i := i) (j := j)) hne
    have h1 := h [i, a, j, b] (List.mem_filter.mpr ⟨hm, decide_eq_true hne⟩) ha hb r hr
    have h1 : N [j, b] ≤ r := h1
    have := hr.2.2 c hc hp
    omega
end LC
-- Z4
namespace LC
variable [Tbl]
open PySem PySem.Spec PyProof.Rows L2
/-! all rests of a small clock -/
section
variable {k : Clk} {st : List Int} {s0 hi : Int} {pl : List (List Int)} {N : List Int → Int} {hs : List Int}
theorem lp_fewS (ok : k.Ok) (h3 : k.eds.sum ≤ 3) (h : hi ≤ s0 + 40) (n : Nat) : (lp k s0 hi n).length ≤ 64000 := by
  refine Nat.le_trans (lp_len (B := 40) (by omega) n) ?_
  have := take_sum_le (es := k.eds) (fun e he => (ok.eds e he).1) n
  generalize ((k.eds.take n).map Int.toNat).sum = s at this
  have hs : s ≤ 3 := by omega
  match s, hs with
  | 0, _ => decide
  | 1, _ => decide
  | 2, _ => decide
  | 3, _ => decide
  | n + 4, h => exact absurd h (by omega)
theorem all_okS (ok : k.Ok) (s1 : 0 ≤ s0) (h5 : hi ≤ 100000) (h : pl ∈ lp k s0 hi k.eds.length) : PlOk k pl ∧ ∀ (i : Nat) (ts : List Int), pl[i]? = some ts → ∀ x ∈ ts, s0 ≤ x ∧ x < hi := by
  obtain ⟨h1, h2⟩ := mem_lp.mp h
  refine ⟨⟨h1, fun i ts e => ?_⟩, fun i ts e x hx => ?_⟩
  · obtain ⟨g1, g2, g3⟩ := mem_lr.mp (h2 i ts e)
    have hi' : i < k.eds.length := by have := (List.getElem?_eq_some_iff.mp e).1; omega
    have l0 := ok.eds _ (List.getElem_mem hi')
    have el : k.eds[i]? = some k.eds[i] := List.getElem?_eq_getElem hi'
    refine ⟨by rw [el] at g1 ⊢; show (ts.length : Int) = k.eds[i]; have g1 : ts.length = (k.eds[i]).toNat := g1; omega, fun x hx => ?_, g2⟩
    obtain ⟨q1, q2, q3⟩ := g3 x hx
    exact ⟨by omega, by omega, q3⟩
  · obtain ⟨g1, g2, g3⟩ := mem_lr.mp (h2 i ts e)
    exact ⟨(g3 x hx).1, (g3 x hx).2.1⟩
theorem mem_allS (ok : k.Ok) (po : PlOk k pl) (h : ∀ (i : Nat) (ts : List Int), pl[i]? = some ts → ∀ x ∈ ts, s0 ≤ x ∧ x < hi) : pl ∈ lp k s0 hi k.eds.length := by
  refine mem_lp.mpr ⟨po.len, fun i ts e => ?_⟩
  obtain ⟨h1, h2, h3⟩ := po.row i ts e
  exact mem_lr.mpr ⟨by omega, h3, fun x hx => ⟨(h i ts e x hx).1, (h i ts e x hx).2, (h2 x hx).2.2⟩⟩
/-- no touch is wrong up to a period behind the last tick: none ever -/
theorem rr_none {last : Int} (hper : 1 ≤ k.per) (hl : ∀ ts ∈ pl, ∀ x ∈ ts, x ≤ last) (h0 : s0 ≤ last) (h : ∀ u, s0 ≤ u → u < last + k.per + 1 → badAt k (rst st pl u) u = []) : RR k st s0 pl := fun t t0 => by
  by_cases z : t < last + k.per + 1
  · exact h t t0 z
  · have hd : 0 ≤ (t - last) % k.per ∧ (t - last) % k.per < k.per := ⟨Int.emod_nonneg _ (by omega), Int.emod_lt_of_pos _ (by omega)⟩
    have e1 : ∀ u, last ≤ u → rst st pl u = rst st pl last := fun u hu => by
      unfold rst
      rw [stand_same hu fun ts hts x hx hlt => by have := hl ts hts x hx; omega]
    have := h (last + (t - last) % k.per) (by omega) (by omega)
    rw [e1 _ (by omega)] at this
    rw [e1 _ (by omega)]
    unfold badAt at this ⊢
    have e3 : (last + (t - last) % k.per) % k.per = t % k.per := by
      rw [Int.add_emod, Int.emod_emod_of_dvd _ (Int.dvd_refl _), ← Int.add_emod]; congr 1; omega
    rw [e3] at this
    exact this
/-- no held wheel is exchanged at the first tick -/
def isH (s0 : Int) (hs : List Int) (pl : List (List Int)) : Bool := hs.all fun i => match pl[i.toNat]? with | some ts => decide (ts[0]? ≠ some s0) | none => true
def lateB (s0 : Int) (pl : List (List Int)) (i : Int) : Bool := match pl[i.toNat]? with | some ts => decide (ts[0]? = some s0) | none => false
theorem isH_late : isH s0 hs pl = (hs.filter (lateB s0 pl)).isEmpty := by
  unfold isH
  induction hs with
  | nil => rfl
  | cons i hs ih =>
    rw [List.all_cons, ih]
    have e : (match pl[i.toNat]? with | some ts => decide (ts[0]? ≠ some s0) | none => true) = !lateB s0 pl i := by
      unfold lateB
      cases pl[i.toNat]? with
      | none => rfl
      | some ts =>
        by_cases z : ts[0]? = some s0
        · show decide (ts[0]? ≠ some s0) = !decide (ts[0]? = some s0)
          rw [decide_eq_true z, decide_eq_false (fun y => y z)]; rfl
        · show decide (ts[0]? ≠ some s0) = !decide (ts[0]? = some s0)
          rw [decide_eq_false z, decide_eq_true z]; rfl
    rw [e]
    cases c : lateB s0 pl i with
    | true => rw [List.filter_cons_of_pos c]; rfl
    | false => rw [List.filter_cons_of_neg (by rw [c]; exact Bool.false_ne_true)]; simp
noncomputable def isRR (k : Clk) (st : List Int) (s0 : Int) (pl : List (List Int)) : Bool := @decide (RR k st s0 pl) (Classical.propDecidable _)
theorem isRR_iff : isRR k st s0 pl = true ↔ RR k st s0 pl := by unfold isRR; exact @decide_eq_true_iff _ (Classical.propDecidable _)
theorem isH_iff : isH s0 hs pl = true ↔ ∀ i ∈ hs, ∀ ts, pl[i.toNat]? = some ts → ts[0]? ≠ some s0 := by
  unfold isH
  rw [List.all_eq_true]
  constructor
  · intro h i hi ts e
    have := h i hi
    rw [e] at this
    exact of_decide_eq_true this
  · intro h i hi
    cases e : pl[i.toNat]? with
    | none => rfl
    | some ts => exact decide_eq_true (h i hi ts e)
def endR (k : Clk) (st : List Int) (s0 : Int) : Int := s0 + 2 * k.per * (k.eds.sum - st.sum + 1)
noncomputable def restsL (k : Clk) (st : List Int) (s0 : Int) (hs : List Int) : List (List (List Int)) := (lp (leftC k st) s0 (endR k st s0) k.eds.length).filter fun pl => isH s0 hs pl && isRR k st s0 pl
theorem held_lo (po : PlOk (leftC k st) pl) (h : ∀ (i : Nat) (ts : List Int), pl[i]? = some ts → ∀ x ∈ ts, s0 ≤ x) (hb : ∀ i ∈ hs, 0 ≤ i) (hh : isH s0 hs pl = true) : ∀ (i : Nat) (ts : List Int), pl[i]? = some ts → ∀ x ∈ ts, loH s0 hs i ≤ x := fun i ts e x hx => by
  have h1 := h i ts e x hx
  unfold loH
  by_cases z : (i : Int) ∈ hs
  · rw [if_pos z]
    have h2 := isH_iff.mp hh _ z ts (by rw [Int.toNat_natCast]; exact e)
    obtain ⟨n, hn⟩ := List.mem_iff_getElem?.mp hx
    have hl := (List.getElem?_eq_some_iff.mp hn).1
    have e0 := List.getElem?_eq_getElem (show 0 < ts.length by omega)
    rw [e0] at h2
    have h3 := h i ts e _ (List.mem_of_getElem? e0)
    have h4 : ts[0] ≠ s0 := fun y => h2 (congrArg some y)
    have := first_le (po.row i ts e).2.2 (Nat.zero_le n) e0 hn
    omega
  · rw [if_neg z]; exact h1
section
variable (ok : k.Ok) (so : StOk k st) (s1 : 0 ≤ s0) (s2 : s0 ≤ 50000)
include ok so s1 s2
theorem endR_bd : s0 ≤ endR k st s0 ∧ endR k st s0 ≤ 100000 := by
  have h1 := st_sum so.len.symm so.bd
  have h2 := ok.sum
  have h3 := ok.per
  have h5 : 0 ≤ 2 * k.per * (k.eds.sum - st.sum + 1) := Int.mul_nonneg (by omega) (by omega)
  have h4 : 2 * k.per * (k.eds.sum - st.sum + 1) ≤ 24 * 25 := Int.mul_le_mul (by omega) (by omega) (by omega) (by decide)
  unfold endR
  omega
theorem restsL_mem (h : pl ∈ restsL k st s0 hs) : PlOk (leftC k st) pl ∧ (∀ (i : Nat) (ts : List Int), pl[i]? = some ts → ∀ x ∈ ts, s0 ≤ x) ∧ isH s0 hs pl = true ∧ RR k st s0 pl := by
  obtain ⟨h1, h2⟩ := List.mem_filter.mp h
  rw [Bool.and_eq_true, isRR_iff] at h2
  have hb := endR_bd ok so s1 s2
  rw [← left_len so] at h1
  obtain ⟨g1, g2⟩ := all_okS (left_ok ok so) s1 (by omega) h1
  exact ⟨g1, fun i ts e x hx => (g2 i ts e x hx).1, h2.1, h2.2⟩
/-- the rest of the least numbers is among them -/
theorem least_restsL (h : LeastN k (und k st) (gapL k (loH s0 hs)) N) (hin : InTime k st s0 N) (hb : ∀ i ∈ hs, 0 ≤ i) : rowsN k (und k st) N ∈ restsL k st s0 hs := by
  have hlo := loH_bd s0 hs
  have po := leastR_plOk ok so s1 s2 hlo h
  have ge := leastR_ge so hlo ok h
  have p0 := ok.per.1
  refine List.mem_filter.mpr ⟨?_, ?_⟩
  · rw [← left_len so]
    refine mem_allS (left_ok ok so) po fun i ts e x hx => ?_
    have h1 := ge i ts e x hx
    have h2 := hlo i
    have h3 : 2 * k.per * (k.eds.sum - st.sum + 1) = 2 * k.per * (k.eds.sum - st.sum) + 2 * k.per := by rw [Int.mul_add, Int.mul_one]
    unfold endR
    omega
  · rw [Bool.and_eq_true, isRR_iff]
    refine ⟨isH_iff.mpr fun i hi ts e e0 => ?_, leastR_right ok so s1 s2 hlo h hin⟩
    have h1 := (ge i.toNat ts e s0 (List.mem_of_getElem? e0)).1
    rw [Int.toNat_of_nonneg (hb i hi)] at h1
    unfold loH at h1
    rw [if_pos hi] at h1
    omega
/-- .. and below them all -/
theorem le_restsL (h : LeastN k (und k st) (gapL k (loH s0 hs)) N) (hb : ∀ i ∈ hs, 0 ≤ i) (m : pl ∈ restsL k st s0 hs) : leP (rowsN k (und k st) N) pl ∧ InTime k st s0 N := by
  have hlo := loH_bd s0 hs
  obtain ⟨po, hge, hh, hr⟩ := restsL_mem ok so s1 s2 m
  obtain ⟨g1, g2, g3⟩ := leastR_le ok so hlo po (held_lo po hge hb hh) hr
  have hle := h.lo _ g1 g2
  refine ⟨leP_rests ok so (leastR_plOk ok so s1 s2 hlo h) po fun x hx => ?_, intime_mono ok g3 hle⟩
  rw [numR_rows so hx]; exact hle x hx
/-- without such numbers there is no rest -/
theorem no_restsL (hb : ∀ i ∈ hs, 0 ≤ i) (h : ∀ h, Closed k (und k st) h → ¬ Above (und k st) (gapL k (loH s0 hs)) h) : restsL k st s0 hs = [] := by
  refine List.eq_nil_iff_forall_not_mem.mpr fun pl m => ?_
  obtain ⟨po, hge, hh, hr⟩ := restsL_mem ok so s1 s2 m
  obtain ⟨g1, g2, _⟩ := leastR_le ok so (loH_bd s0 hs) po (held_lo po hge hb hh) hr
  exact h _ g1 g2
theorem late_restsL (hb : ∀ i ∈ hs, 0 ≤ i) (h : LeastN k (und k st) (gapL k (loH s0 hs)) N) (hin : ¬ InTime k st s0 N) : restsL k st s0 hs = [] :=
  List.eq_nil_iff_forall_not_mem.mpr fun pl m => hin (le_restsL ok so s1 s2 h hb m).2
theorem fold_restsL (h : LeastN k (und k st) (gapL k (loH s0 hs)) N) (hin : InTime k st s0 N) (hb : ∀ i ∈ hs, 0 ≤ i) {p : List (List Int)} {ps : List (List (List Int))} (e : restsL k st s0 hs = p :: ps) : (p :: ps).foldl minP p = rowsN k (und k st) N := by
  have all : ∀ q ∈ p :: ps, leP (rowsN k (und k st) N) q := fun q hq => (le_restsL ok so s1 s2 h hb (by rw [e]; exact hq)).1
  refine fold_least (all p List.mem_cons_self) all (.inr ?_)
  rw [← e]
  exact least_restsL ok so s1 s2 h hin hb
end
theorem StOk.set (so : StOk k st) {i : Nat} {e : Int} (he : k.eds[i]? = some e) (lt : sg st i < e) : StOk k (st.set i (sg st i + 1)) := by
  have hi : i < st.length := by rw [so.len]; exact (List.getElem?_eq_some_iff.mp he).1
  have es : st[i]? = some (sg st i) := by
    unfold sg
    rw [Int.toNat_natCast, List.getElem?_eq_getElem hi]; rfl
  refine ⟨by rw [List.length_set]; exact so.len, fun j s e' hs he' => ?_⟩
  rw [List.getElem?_set] at hs
  by_cases z : i = j
  · subst z
    rw [if_pos rfl, if_pos hi] at hs
    cases hs
    rw [he] at he'; cases he'
    have := so.bd i _ _ es he
    omega
  · rw [if_neg z] at hs
    exact so.bd j s e' hs he'
/-- there is no rest from a tick on, these wheels held -/
def NoR (k : Clk) (st : List Int) (s0 : Int) (g : List Int → Int) : Prop := (∀ h, Closed k (und k st) h → ¬ Above (und k st) g h) ∨ ∃ N, LeastN k (und k st) g N ∧ ¬ InTime k st s0 N
theorem noR_nil (ok : k.Ok) (so : StOk k st) (s1 : 0 ≤ s0) (s2 : s0 ≤ 50000) (hb : ∀ i ∈ hs, 0 ≤ i) (h : NoR k st s0 (gapL k (loH s0 hs))) : restsL k st s0 hs = [] := h.elim (fun h => no_restsL ok so s1 s2 hb h) fun ⟨N, h1, h2⟩ => late_restsL ok so s1 s2 hb h1 h2
/-- a wheel may be exchanged by one edition -/
def SafeAt (k : Clk) (st : List Int) (s0 : Int) (hs : List Int) (i : Nat) : Prop := sg st i < k.eds[i]?.getD 0 ∧ s0 % k.per ∈ k.gps[i]?.getD [] ∧ restsL k (st.set i (sg st i + 1)) s0 (hs ++ [(i : Int)]) ≠ []
noncomputable def isSafe (k : Clk) (st : List Int) (s0 : Int) (hs : List Int) (i : Nat) : Bool := @decide (SafeAt k st s0 hs i) (Classical.propDecidable _)
theorem isSafe_iff {i : Nat} : isSafe k st s0 hs i = true ↔ SafeAt k st s0 hs i := by unfold isSafe; exact @decide_eq_true_iff _ (Classical.propDecidable _)
theorem isSafe_no {i : Nat} (h : ¬ SafeAt k st s0 hs i) : isSafe k st s0 hs i = false := by
  cases e : isSafe k st s0 hs i with
  | false => rfl
  | true => exact absurd (isSafe_iff.mp e) h
theorem some_restsL (ok : k.Ok) (so : StOk k st) (s1 : 0 ≤ s0) (s2 : s0 ≤ 50000) (hb : ∀ i ∈ hs, 0 ≤ i) (h : LeastN k (und k st) (gapL k (loH s0 hs)) N) (hin : InTime k st s0 N) : restsL k st s0 hs ≠ [] := fun z => by
  have := least_restsL ok so s1 s2 h hin hb
  rw [z] at this; cases this
theorem LeastN.congr {ks : List (List Int)} {f g : List Int → Int} (e : ∀ x ∈ ks, f x = g x) (h : LeastN k ks f N) : LeastN k ks g N :=
  ⟨fun x hx => by rw [← e x hx]; exact h.ge x hx, h.cl, fun M hc ha => h.lo M hc fun x hx => by rw [e x hx]; exact ha x hx, fun x hx => by
    have := h.sr x hx
    unfold Src at this ⊢
    rw [← e x hx]; exact this⟩
theorem NoR.congr {f g : List Int → Int} (e : ∀ x ∈ und k st, f x = g x) (h : NoR k st s0 f) : NoR k st s0 g := h.elim (fun h => .inl fun M hc ha => h M hc fun x hx => by rw [e x hx]; exact ha x hx) fun ⟨N, h1, h2⟩ => .inr ⟨N, h1.congr e, h2⟩
/-- all wheels held -/
theorem gap_every {n : Nat} (hn : n = k.eds.length) : ∀ x ∈ und k st, gapL k (loH (s0 + 1) []) x = gapL k (loH s0 ((List.range n).map fun (i : Nat) => (i : Int))) x := fun x hx => by
  obtain ⟨i, a, rfl, i0, _⟩ := mem_und.mp hx
  unfold gapL
  have e1 : loH (s0 + 1) [] i = s0 + 1 := if_neg List.not_mem_nil
  have e2 : loH s0 ((List.range n).map fun (i : Nat) => (i : Int)) i = s0 + 1 := if_pos (List.mem_map.mpr ⟨i.toNat, List.mem_range.mpr (by omega), by omega⟩)
  show gapOf k (loH (s0 + 1) [] i) _ = gapOf k (loH s0 _ i) _
  rw [e1, e2]
end
end LC
-- YM
/-! zip of a tuple and a list -/
namespace ZM
open PySem PySem.Spec PyProof.Rows L2 RZ
open PySem.Sem (wp)
/-- an iterator at `it` over what stands at `l`: how it goes on, what it asks of the heap -/
structure Src (it l : Addr) (xs : Array Value) (S : Nat → Heap → Prop) (C : Heap → Prop) : Prop where
  item : ∀ {prog : Program} {w : World} {A : Around} {E : Value → Shared → Prop} {s : Shared} {k : Nat} {x : Value} {Q : Value → Shared → Prop}, S k s.heap → C s.heap → xs[k]? = some x → (∀ h', S (k + 1) h' → Heap.SameBut it s.heap h' → Q x { s with heap := h' }) →
    wpAny (model prog w) A (Builtin.SmallTypes.nextOf (.ref it)) Q E s
  done : ∀ {prog : Program} {w : World} {A : Around} {E : Value → Shared → Prop} {s : Shared} {k : Nat} {Q : Value → Shared → Prop}, A.handled = none → S k s.heap → C s.heap → xs[k]? = none →
    (∀ h' e, Heap.ExtBut it s.heap h' → (∃ o, h'.get? e = some o ∧ o.cls = .type "StopIteration") → E (.ref e) { s with heap := h' }) → wpAny (model prog w) A (Builtin.SmallTypes.nextOf (.ref it)) Q E s
  keepS : ∀ {k : Nat} {h h' : Heap}, S k h → (∀ o, h.get? it = some o → h'.get? it = some o) → S k h'
  keepC : ∀ {h h' : Heap}, C h → (∀ o, h.get? l = some o → h'.get? l = some o) → C h'
theorem srcT {it l : Addr} {xs : Array Value} : Src it l xs (fun k h => h.IsTupleIter it l k) (fun h => h.IsTuple l xs) where
  item := fun h c hx q => nextOf_tuple_item h c hx q
  done := fun hh h c hx q => nextOf_tuple_end hh h c hx q
  keepS := fun h k => h.at k
  keepC := fun h k => by
    obtain ⟨o, e, r⟩ := h
    exact ⟨o, k o e, r⟩
theorem srcL {it l : Addr} {xs : Array Value} : Src it l xs (fun k h => h.IsListIter it l k) (fun h => h.IsList l xs) where
  item := fun h c hx q => wpAny_nextOf_list_item h c hx q
  done := fun hh h c hx q => wpAny_nextOf_list_end hh h c hx q
  keepS := fun h k => h.at k
  keepC := fun h k => by
    obtain ⟨o, e, r⟩ := h
    exact ⟨o, k o e, r⟩
section
variable {prog : Program} {w : World} {A : Around} {E : Value → Shared → Prop} {s : Shared} {z TI TO i1 i2 l1 l2 : Addr} {k1 k2 : Nat} {xs ys : Array Value} {S1 S2 : Nat → Heap → Prop} {C1 C2 : Heap → Prop}
/-- what stays when the two iterators, the zip and its pair change -/
abbrev Kept4 (z TO i1 i2 : Addr) (h h' : Heap) : Prop := ∀ c o, c ≠ z → c ≠ TO → c ≠ i1 → c ≠ i2 → h.get? c = some o → h'.get? c = some o
theorem next_item {x y a b : Value} {Q : Option Value → Shared → Prop} (D : ZipApart z TI TO i1 i2 l1 l2) (R1 : Src i1 l1 xs S1 C1) (R2 : Src i2 l2 ys S2 C2)
    (hz : IsZip s.heap z TI TO .none) (pI : IsPair s.heap TI (.ref i1) (.ref i2)) (pO : IsPair s.heap TO a b) (h1 : S1 k1 s.heap) (h2 : S2 k2 s.heap) (c1 : C1 s.heap) (c2 : C2 s.heap) (hx : xs[k1]? = some x) (hy : ys[k2]? = some y)
    (hQ : ∀ h', IsZip h' z TI TO (rawInt s.heap.objs.size) → IsPair h' TO x y → S1 (k1 + 1) h' → S2 (k2 + 1) h' → IsPair h' s.heap.objs.size x y → h'.objs.size = s.heap.objs.size + 1 → Kept4 z TO i1 i2 s.heap h' → Q (some (.ref s.heap.objs.size)) { s with heap := h' }) :
    wpAny (model prog w) A (pyNext (.ref z)) Q E s := by
  have tz : s.TypeIs (.ref z) "zip" := ⟨_, hz, rfl⟩
  unfold pyNext
  refine wpAny_bind (wpAny_attempt (wpAny_callSpecial?_slot (name := Str.ofString "__next__") tz F.slot_zip_next (wpAny_call_entry F.slot_zip_next tz F.entry_zip_next ?_ (F.args_zip_next_1 _))))
  show wpAny _ _ (field (.ref z) 2 >>= _) _ _ _
  refine wpAny_bind (wpAny_field hz rfl (x := .bool false) rfl ?_)
  show wpAny _ _ (field (.ref z) 3 >>= _) _ _ _
  refine wpAny_bind (wpAny_field hz rfl (x := .ref TI) rfl (wpAny_bind (wpAny_seqItems pI rfl ?_)))
  show wpAny _ _ (Builtin.SmallTypes.ownedTupleIsFree (.ref z) >>= _) _ _ _
  refine wpAny_bind ?_
  unfold Builtin.SmallTypes.ownedTupleIsFree
  refine wpAny_bind (wpAny_field hz rfl (x := .none) rfl (wpAny_pure ?_))
  simp only [if_true]
  refine wpAny_bind (wpAny_rule (wpAny_bind (wpAny_field hz rfl (x := .ref TO) rfl (wpAny_bind (wpAny_setField_rec hz (by simp) fun g1 z1 e1 => ?_)))))
  replace z1 : IsZip g1 z TI TO .ellipsis := z1
  refine wpAny_bind ?_
  simp only [List.zipIdx_cons, List.zipIdx_nil, List.forIn_cons, List.forIn_nil]
  -- the first one
  refine wpAny_bind (wpAny_bind (wpAny_onRaise ?_))
  show wpAny _ _ (Builtin.SmallTypes.nextOf (.ref i1) >>= _) _ _ _
  refine wpAny_bind (R1.item (s := { s with heap := g1 }) (R1.keepS h1 fun o e => e1.extBut _ o D.i1z e) (R1.keepC c1 fun o e => e1.extBut _ o D.l1z e) hx fun g2 s12 e2 => wpAny_pure ?_)
  have p2 : IsPair g2 TO a b := e2.extBut _ _ D.TOi1 (e1.extBut _ _ D.TOz pO)
  refine wpAny_bind (wpAny_seqItems p2 rfl (wpAny_bind (wpAny_updateSeq_pair p2 fun g3 p3 e3 => ?_)))
  replace p3 : IsPair g3 TO x b := p3
  refine wpAny_bind (wpAny_letGo (wpAny_pure ?_))
  -- the second one
  refine wpAny_bind (wpAny_bind (wpAny_onRaise ?_))
  show wpAny _ _ (Builtin.SmallTypes.nextOf (.ref i2) >>= _) _ _ _
  refine wpAny_bind (R2.item (s := { s with heap := g3 }) (R2.keepS h2 fun o e => e3.extBut _ o D.TOi2.symm (e2.extBut _ o D.i12.symm (e1.extBut _ o D.i2z e))) (R2.keepC c2 fun o e => e3.extBut _ o D.l2TO (e2.extBut _ o D.l2i1 (e1.extBut _ o D.l2z e))) hy fun g4 s24 e4 => wpAny_pure ?_)
  have p4 : IsPair g4 TO x b := e4.extBut _ _ D.TOi2 p3
  refine wpAny_bind (wpAny_seqItems p4 rfl (wpAny_bind (wpAny_updateSeq_pair p4 fun g5 p5 e5 => ?_)))
  replace p5 : IsPair g5 TO x y := p5
  refine wpAny_bind (wpAny_letGo (wpAny_pure (wpAny_pure ?_)))
  -- the pair that is handed out
  refine wpAny_bind (wpAny_seqItems p5 rfl (wpAny_bind (wpAny_newTuple ?_)))
  have z5 : IsZip g5 z TI TO .ellipsis := e5.extBut _ _ D.TOz.symm (e4.extBut _ _ D.i2z.symm (e3.extBut _ _ D.TOz.symm (e2.extBut _ _ D.i1z.symm z1)))
  have k5 : Kept4 z TO i1 i2 s.heap g5 := fun c o n1 n2 n3 n4 e => e5.extBut _ _ n2 (e4.extBut _ _ n4 (e3.extBut _ _ n2 (e2.extBut _ _ n3 (e1.extBut _ _ n1 e))))
  have lz : z < g5.objs.size := Heap.lt_size z5
  have n5 : g5.objs.size = s.heap.objs.size := by rw [e5.1, e4.1, e3.1, e2.1, e1.1]
  show wpAny _ _ (Builtin.SmallTypes.ownedTupleHandOut (.ref z) (.ref g5.objs.size) >>= _) _ _ _
  refine wpAny_bind ?_
  unfold Builtin.SmallTypes.ownedTupleHandOut
  have z6 : IsZip (g5.push { cls := .type "tuple", data := .seq #[x, y] }) z TI TO .ellipsis := Heap.get?_push_of_some _ z5
  refine wpAny_bind (wpAny_setField_rec z6 (by simp) fun g7 z7 e7 => ?_)
  replace z7 : IsZip g7 z TI TO (rawInt g5.objs.size) := z7
  refine wpAny_setField_rec z7 (by simp) fun g8 z8 e8 => ?_
  replace z8 : IsZip g8 z TI TO (rawInt g5.objs.size) := z8
  have up : ∀ c o, c ≠ z → g5.get? c = some o → g8.get? c = some o := fun c o n1 e => e8.extBut _ _ n1 (e7.extBut _ _ n1 (Heap.get?_push_of_some _ e))
  have p8 : IsPair g8 g5.objs.size x y := e8.extBut _ _ (Nat.ne_of_gt lz) (e7.extBut _ _ (Nat.ne_of_gt lz) (Heap.get?_push_size _ rfl))
  have n8 : g8.objs.size = g5.objs.size + 1 := by rw [e8.1, e7.1, Heap.size_push]
  have r1 : S1 (k1 + 1) g8 := R1.keepS s12 fun o e => up _ o D.i1z (e5.extBut _ o D.TOi1.symm (e4.extBut _ o D.i12 (e3.extBut _ o D.TOi1.symm e)))
  have r2 : S2 (k2 + 1) g8 := R2.keepS s24 fun o e => up _ o D.i2z (e5.extBut _ o D.TOi2.symm e)
  rw [n5] at z8 p8 n8
  refine wpAny_pure ⟨_, rfl, ?_⟩
  refine wpAny_pure ?_
  rw [n5]
  exact hQ g8 z8 (up _ _ D.TOz p5) r1 r2 p8 n8 fun c o n1 n2 n3 n4 e => up c o n1 (k5 c o n1 n2 n3 n4 e)
theorem next_end {a b : Value} {Q : Option Value → Shared → Prop} (hh : A.handled = none) (D : ZipApart z TI TO i1 i2 l1 l2) (R1 : Src i1 l1 xs S1 C1) (R2 : Src i2 l2 ys S2 C2)
    (hz : IsZip s.heap z TI TO .none) (pI : IsPair s.heap TI (.ref i1) (.ref i2)) (pO : IsPair s.heap TO a b) (h1 : S1 k1 s.heap) (h2 : S2 k2 s.heap) (c1 : C1 s.heap) (c2 : C2 s.heap) (hend : xs[k1]? = none ∨ ys[k2]? = none)
    (hQ : ∀ h', Kept4 z TO i1 i2 s.heap h' → Q none { s with heap := h' }) : wpAny (model prog w) A (pyNext (.ref z)) Q E s := by
  have tz : s.TypeIs (.ref z) "zip" := ⟨_, hz, rfl⟩
  have key : wpAny (model prog w) A.in1 (Builtin.«zip.__next__» ⟨[.ref z], []⟩) (fun _ _ => False) (fun e s' => ∃ (e0 : Addr) (h' : Heap), e = .ref e0 ∧ s' = { s with heap := h' } ∧ Kept4 z TO i1 i2 s.heap h' ∧ ∃ o, h'.get? e0 = some o ∧ o.cls = .type "StopIteration") s := by
    show wpAny _ _ (field (.ref z) 2 >>= _) _ _ _
    refine wpAny_bind (wpAny_field hz rfl (x := .bool false) rfl ?_)
    show wpAny _ _ (field (.ref z) 3 >>= _) _ _ _
    refine wpAny_bind (wpAny_field hz rfl (x := .ref TI) rfl (wpAny_bind (wpAny_seqItems pI rfl ?_)))
    show wpAny _ _ (Builtin.SmallTypes.ownedTupleIsFree (.ref z) >>= _) _ _ _
    refine wpAny_bind ?_
    unfold Builtin.SmallTypes.ownedTupleIsFree
    refine wpAny_bind (wpAny_field hz rfl (x := .none) rfl (wpAny_pure ?_))
    simp only [if_true]
    refine wpAny_bind (wpAny_rule (wpAny_bind (wpAny_field hz rfl (x := .ref TO) rfl (wpAny_bind (wpAny_setField_rec hz (by simp) fun g1 z1 e1 => ?_)))))
    replace z1 : IsZip g1 z TI TO .ellipsis := z1
    refine wpAny_bind ?_
    simp only [List.zipIdx_cons, List.zipIdx_nil, List.forIn_cons, List.forIn_nil]
    refine wpAny_bind (wpAny_bind (wpAny_onRaise ?_))
    show wpAny _ _ (Builtin.SmallTypes.nextOf (.ref i1) >>= _) _ _ _
    cases hx : xs[k1]? with
    | none =>
      refine wpAny_bind (R1.done (s := { s with heap := g1 }) hh (R1.keepS h1 fun o e => e1.extBut _ o D.i1z e) (R1.keepC c1 fun o e => e1.extBut _ o D.l1z e) hx fun g2 e e2 ⟨oe, he, hc⟩ => ?_)
      have z2 : IsZip g2 z TI TO .ellipsis := e2 _ _ D.i1z.symm z1
      have nz : e ≠ z := fun q => by subst q; rw [z2] at he; cases he; simp at hc
      exact wpAny_setField_rec z2 (by simp) fun g3 _ e3 => ⟨e, g3, rfl, rfl, fun c o n1 _ n3 _ q => e3.extBut _ _ n1 (e2 _ _ n3 (e1.extBut _ _ n1 q)), oe, e3.extBut _ _ nz he, hc⟩
    | some x =>
      have hy : ys[k2]? = none := hend.elim (fun q => by rw [hx] at q; cases q) fun q => q
      refine wpAny_bind (R1.item (s := { s with heap := g1 }) (R1.keepS h1 fun o e => e1.extBut _ o D.i1z e) (R1.keepC c1 fun o e => e1.extBut _ o D.l1z e) hx fun g2 s12 e2 => wpAny_pure ?_)
      have p2 : IsPair g2 TO a b := e2.extBut _ _ D.TOi1 (e1.extBut _ _ D.TOz pO)
      refine wpAny_bind (wpAny_seqItems p2 rfl (wpAny_bind (wpAny_updateSeq_pair p2 fun g3 p3 e3 => ?_)))
      refine wpAny_bind (wpAny_letGo (wpAny_pure ?_))
      refine wpAny_bind (wpAny_bind (wpAny_onRaise ?_))
      show wpAny _ _ (Builtin.SmallTypes.nextOf (.ref i2) >>= _) _ _ _
      refine wpAny_bind (R2.done (s := { s with heap := g3 }) hh (R2.keepS h2 fun o e => e3.extBut _ o D.TOi2.symm (e2.extBut _ o D.i12.symm (e1.extBut _ o D.i2z e))) (R2.keepC c2 fun o e => e3.extBut _ o D.l2TO (e2.extBut _ o D.l2i1 (e1.extBut _ o D.l2z e))) hy fun g4 e e4 ⟨oe, he, hc⟩ => ?_)
      have z4 : IsZip g4 z TI TO .ellipsis := e4 _ _ D.i2z.symm (e3.extBut _ _ D.TOz.symm (e2.extBut _ _ D.i1z.symm z1))
      have nz : e ≠ z := fun q => by subst q; rw [z4] at he; cases he; simp at hc
      exact wpAny_setField_rec z4 (by simp) fun g5 _ e5 => ⟨e, g5, rfl, rfl, fun c o n1 n2 n3 n4 q => e5.extBut _ _ n1 (e4 _ _ n4 (e3.extBut _ _ n2 (e2.extBut _ _ n3 (e1.extBut _ _ n1 q)))), oe, e5.extBut _ _ nz he, hc⟩
  unfold pyNext
  refine wpAny_bind (wpAny_attempt (wpAny_callSpecial?_slot (name := Str.ofString "__next__") tz F.slot_zip_next (wpAny_call_entry F.slot_zip_next tz F.entry_zip_next ?_ (F.args_zip_next_1 _))))
  refine wpAny_mono key (fun _ _ z => z.elim) ?_
  rintro e s' ⟨e0, h', rfl, rfl, hk, o, ho, hc⟩
  refine wpAny_bind (wpAny_isInstance (T := "StopIteration") (b := true) ⟨o, ho, hc⟩ isSubtype_stop ?_)
  exact wpAny_pure (hQ _ hk)
end
end ZM
-- YM2
namespace ZM
open PySem PySem.Spec PyProof.Rows L2 RZ
/-- the tuple at a and the list at b as they stand at each turn, what they hold in new pairs -/
def ItzM (K : PySem.W.Frag) (a b : Addr) : It where
  go := fun i H => ∃ (xs ys : List V) (x y : V), SqT K H a xs ∧ SqL K H b ys ∧ xs[i]? = some x ∧ ys[i]? = some y
  yld := fun i H v H' => ∃ T x y, v = .ref T ∧ H T = none ∧ H' = upd H T (.tup [x, y]) ∧ (∀ us, SqT K H a us → us[i]? = some x) ∧ ∀ us, SqL K H b us → us[i]? = some y
  stop := fun i H => ∃ xs ys : List V, SqT K H a xs ∧ SqL K H b ys ∧ (xs.length ≤ i ∨ ys.length ≤ i)
theorem turn_zipM {P : Program} {w : World} {K : PySem.W.Frag} {elts : List Expr} {kk : Nat} {tpos : Pos} {a b z TI TO i1 i2 : Addr} (D : ZipApart z TI TO i1 i2 a b) :
    Turn P w K (.Tuple elts kk tpos) (ItzM K a b) [z, TI, TO, i1, i2] z (fun i h => IsZip h z TI TO .none ∧ IsPair h TI (.ref i1) (.ref i2) ∧ (∃ x y, IsPair h TO x y) ∧ h.IsTupleIter i1 a i ∧ h.IsListIter i2 b i) where
  mem := by simp
  obj := fun i h st c hc => by
    obtain ⟨hz, pI, ⟨x, y, pO⟩, ⟨o1, e1, _, d1⟩, ⟨o2, e2, _, d2⟩⟩ := st
    simp only [List.mem_cons, List.not_mem_nil, or_false] at hc
    rcases hc with q | q | q | q | q <;> subst q
    · exact ⟨_, hz, fun v q => nomatch q⟩
    · exact ⟨_, pI, fun v q => nomatch q⟩
    · exact ⟨_, pO, fun v q => nomatch q⟩
    · exact ⟨_, e1, fun v q => by rw [d1] at q; cases q⟩
    · exact ⟨_, e2, fun v q => by rw [d2] at q; cases q⟩
  keep := fun i h h' st k => by
    obtain ⟨hz, pI, ⟨x, y, pO⟩, h1, h2⟩ := st
    exact ⟨k z (by simp) _ hz, k TI (by simp) _ pI, ⟨x, y, k TO (by simp) _ pO⟩, h1.at fun o q => k i1 (by simp) o q, h2.at fun o q => k i2 (by simp) o q⟩
  item := by
    intro X hP hw hK hc i pins s σ H E I hf st hg
    subst hP hw hK
    obtain ⟨hz, pI, ⟨x0, y0, pO⟩, h1, h2⟩ := st
    obtain ⟨xs, ys, x, y, qx, qy, hx, hy⟩ := hg
    obtain ⟨its, rv, p, _⟩ := I.tuple qx
    obtain ⟨its2, rv2, p2, _⟩ := I.list qy
    obtain ⟨u, hu, ru⟩ := rv.get hx
    obtain ⟨u2, hu2, ru2⟩ := rv2.get hy
    have lz : z < s.heap.objs.size := Heap.lt_size hz
    refine next_item D srcT srcL hz pI pO h1 h2 (show s.heap.IsTuple a its.toArray from p) (show s.heap.IsList b its2.toArray from p2.isList) (x := u) (y := u2) (by simpa using hu) (by simpa using hu2) fun h' z' pO' h1' h2' hT hsz hk => ?_
    refine ⟨_, rfl, wpAny_letOwnedTupleGo_zip (s := { s with heap := h' }) z' fun g z'' sb => ?_⟩
    have keep : ∀ c o, c ≠ z → h'.get? c = some o → g.get? c = some o := fun c o n e => (sb.2 c n).trans e
    have hT2 := keep _ _ (Nat.ne_of_gt lz) hT
    have new : ObjOk X.prog X.w (upd H s.heap.objs.size (.tup [x, y])) g s.heap.objs.size (.tup [x, y]) := ⟨by show 2 ≤ sizeLine; decide, [u, u2], .cons ru (.cons ru2 .nil), ⟨_, hT2, rfl, _, rfl⟩⟩
    have I1 : Inv X pins σ (upd H s.heap.objs.size (.tup [x, y])) { s with heap := g } :=
      I.turnedNew (t' := s.toks) (ch := [z, TI, TO, i1, i2]) (fun c o n q => keep c o (fun y => n (by simp [y])) (hk c o (fun y => n (by simp [y])) (fun y => n (by simp [y])) (fun y => n (by simp [y])) (fun y => n (by simp [y])) q)) hf (Nat.le_refl _) new
    refine ⟨.ref s.heap.objs.size, _, I1, rfl, ⟨_, x, y, rfl, I.hok.fresh (Nat.le_refl _), rfl, fun l hl => by rw [I.tuple_inj hl qx]; exact hx, fun l hl => by rw [I.list_inj hl qy]; exact hy⟩, ⟨z'', ?_, ⟨u, u2, keep _ _ D.TOz pO'⟩, h1'.at fun o q => keep _ o D.i1z q, h2'.at fun o q => keep _ o D.i2z q⟩, fun c hcm => ?_⟩
    · exact keep _ _ D.TIz (hk _ _ D.TIz D.TITO D.TIi1 D.TIi2 pI)
    · have lt : c < s.heap.objs.size := by
        have hm := hcm
        simp only [List.mem_cons, List.not_mem_nil, or_false] at hm
        rcases hm with q | q | q | q | q <;> subst q
        · exact lz
        · exact Heap.lt_size pI
        · exact Heap.lt_size pO
        · obtain ⟨_, e1, _⟩ := h1; exact Heap.lt_size e1
        · obtain ⟨_, e2, _⟩ := h2; exact Heap.lt_size e2
      rw [upd_ne (Nat.ne_of_lt lt)]
      exact (hf c hcm).1
  done := by
    intro X hP hw hK hc i pins s σ H E I hf st hg
    subst hP hw hK
    obtain ⟨hz, pI, ⟨x0, y0, pO⟩, h1, h2⟩ := st
    obtain ⟨xs, ys, qx, qy, hend⟩ := hg
    obtain ⟨its, rv, p, _⟩ := I.tuple qx
    obtain ⟨its2, rv2, p2, _⟩ := I.list qy
    have n1 := rv.length
    have n2 := rv2.length
    have he : its.toArray[i]? = none ∨ its2.toArray[i]? = none := hend.elim (fun q => .inl (by simp; omega)) fun q => .inr (by simp; omega)
    exact next_end (I.ok.hd hc) D srcT srcL hz pI pO h1 h2 (show s.heap.IsTuple a its.toArray from p) (show s.heap.IsList b its2.toArray from p2.isList) he fun h' hk => ⟨rfl, I.turnedL (t' := s.toks) (ch := [z, TI, TO, i1, i2]) (fun c o n q => hk c o (fun y => n (by simp [y])) (fun y => n (by simp [y])) (fun y => n (by simp [y])) (fun y => n (by simp [y])) q) hf⟩
  self := fun A i s Q E st h => wpAny_pyIter_zip st.1 h
/-! zip(tuple, list) is made -/
def itT (l : Addr) : Obj := { cls := .type "tuple_iterator", data := .fields #[.ref l, .int 0 0] }
def itL (l : Addr) : Obj := { cls := .type "list_iterator", data := .fields #[.ref l, .int 0 0] }
def prO (x y : Value) : Obj := { cls := .type "tuple", data := .seq #[x, y] }
def zpO (n : Nat) : Obj := { cls := .type "zip", data := .fields #[.none, .bool false, .bool false, .ref (n + 2), .ref (n + 3)] }
def mH (h : Heap) (a b : Addr) : Heap := ((((h.push (itT a)).push (itL b)).push (prO (.ref h.objs.size) (.ref (h.objs.size + 1)))).push (prO .none .none)).push (zpO h.objs.size)
theorem new_zipM (a b : Addr) (xs ys : Array Value) :
    Meets (Builtin.«zip.__new__» ⟨[.type "zip", .ref a, .ref b], []⟩) (fun _ R s => s.heap.IsTuple a xs ∧ s.heap.IsList b ys ∧ R (.ok (.ret (.ref (s.heap.objs.size + 4)))) { s with heap := mH s.heap a b }) :=
  .of_wp fun prog w A R s h => by
    obtain ⟨hp, g, d, tk, os⟩ := s
    obtain ⟨ha, hb, h⟩ := h
    have hsub := sub_zip
    have qa : Heap.IsTuple (Shared.heap ⟨hp, g, d, tk, os⟩) a xs := ha
    have qb : Heap.IsList (Shared.heap ⟨hp.push { cls := .type "tuple_iterator", data := .fields #[.ref a, .int 0 0] }, g, d, tk, os⟩) b ys := Heap.IsList.push hb _
    wp_walk using wpAny_pyIter_tuple qa, wpAny_pyIter_list qb
    refine ⟨_, rfl, ?_⟩
    simp only [mH, itT, itL, prO, zpO, Heap.size_push] at h ⊢
    exact h
section
variable {prog : Program} {w : World} {A : Around} {E : Value → Shared → Prop} {s : Shared}
theorem call_zipM {a b : Addr} {xs ys : Array Value} {Q : Value → Shared → Prop} (ha : s.heap.IsTuple a xs) (hb : s.heap.IsList b ys)
    (h : ∀ h', IsZip h' (s.heap.objs.size + 4) (s.heap.objs.size + 2) (s.heap.objs.size + 3) .none → IsPair h' (s.heap.objs.size + 2) (.ref s.heap.objs.size) (.ref (s.heap.objs.size + 1)) → IsPair h' (s.heap.objs.size + 3) .none .none →
      h'.IsTupleIter s.heap.objs.size a 0 → h'.IsListIter (s.heap.objs.size + 1) b 0 → (∀ c o, s.heap.get? c = some o → h'.get? c = some o) → Q (.ref (s.heap.objs.size + 4)) { s with heap := h' }) :
    wpAny (model prog w) A (call (.type "zip") [.ref a, .ref b]) Q E s := by
  refine callType_new F.called_zip (by decide) (F.typeCall_zip_2 _ _) (F.newCall_zip_2 _ _) (fun obj => F.args_object_init_3 obj _ _) F.entry_zip_new (new_zipM a b xs ys) ⟨ha, hb, ?_⟩
  have at_ : ∀ (n : Nat) (h0 : Heap) (o : Obj), h0.objs.size = n → o.isFreed = false → (h0.push o).get? n = some o := fun n h0 o e hf => by rw [← e]; exact Heap.get?_push_size _ hf
  have z1 : (s.heap.push (itT a)).objs.size = s.heap.objs.size + 1 := Heap.size_push ..
  have z2 : ((s.heap.push (itT a)).push (itL b)).objs.size = s.heap.objs.size + 2 := by rw [Heap.size_push, z1]
  have z3 : (((s.heap.push (itT a)).push (itL b)).push (prO (.ref s.heap.objs.size) (.ref (s.heap.objs.size + 1)))).objs.size = s.heap.objs.size + 3 := by rw [Heap.size_push, z2]
  have z4 : ((((s.heap.push (itT a)).push (itL b)).push (prO (.ref s.heap.objs.size) (.ref (s.heap.objs.size + 1)))).push (prO .none .none)).objs.size = s.heap.objs.size + 4 := by rw [Heap.size_push, z3]
  have p1 := fun {c : Addr} {o : Obj} (e : ((((s.heap.push (itT a)).push (itL b)).push (prO (.ref s.heap.objs.size) (.ref (s.heap.objs.size + 1)))).push (prO .none .none)).get? c = some o) => Heap.get?_push_of_some (zpO s.heap.objs.size) e
  refine ⟨⟨_, at_ _ _ _ z4 rfl, rfl⟩, h (mH s.heap a b) (at_ _ _ _ z4 rfl) (p1 (Heap.get?_push_of_some _ (at_ _ _ _ z2 rfl))) (p1 (at_ _ _ _ z3 rfl)) ⟨itT a, p1 (Heap.get?_push_of_some _ (Heap.get?_push_of_some _ (Heap.get?_push_of_some _ (at_ _ _ _ rfl rfl)))), rfl, rfl⟩
    ⟨itL b, p1 (Heap.get?_push_of_some _ (Heap.get?_push_of_some _ (at_ _ _ _ z1 rfl))), rfl, rfl⟩ fun c o e => p1 (Heap.get?_push_of_some _ (Heap.get?_push_of_some _ (Heap.get?_push_of_some _ (Heap.get?_push_of_some _ e))))⟩
end
def iZipM (K : PySem.W.Frag) (ta : TA) : TI := fun σ H R => ta σ H fun vs H1 => ∃ (a b : Addr) (xs ys : List V), vs = [.ref a, .ref b] ∧ SqT K H1 a xs ∧ SqL K H1 b ys ∧ R (ItzM K a b) H1
theorem pi_zipM {X : Cx} {e e2 : Expr} {ta : TA} {p pos tpos : Pos} {elts : List Expr} {kk : Nat} (hg : Gl X "zip") (hm : X.mg "zip" = none) (ha : PA X [e, e2] ta)
    (hs : starEach [e, e2] X.env = (false, eval e X.env) :: starEach [e2] X.env := by rfl) (hpl : (backTo pos (starEach [e2] X.env)).any (·.1) = false := by rfl) :
    PI X (.Tuple elts kk tpos) (.Call (.Name "zip" p) [e, e2] [] pos) (iZipM X.K ta) := by
  refine ⟨fun pins s σ H R I h => ?_⟩
  refine Call_ (ld_blt I hg hm PyProof.Rows.boot_zip (PyProof.Rows.callWith_type1 (thn (ha.run pos pins s σ H _ I h) fun us s1 ⟨vs, H1, I1, r1, a, b, xs, ys, ex, qx, qy, q⟩ => ?_) hs hpl))
  subst ex
  obtain ⟨u1, u2, rfl, ra, rb⟩ : ∃ u1 u2, us = [u1, u2] ∧ RelV (.ref a) u1 ∧ RelV (.ref b) u2 := by
    cases r1 with
    | cons r rr =>
      cases rr with
      | cons r' rr => cases rr; exact ⟨_, _, rfl, r, r'⟩
  cases ra
  cases rb
  obtain ⟨its, rv, pa, _⟩ := I1.tuple qx
  obtain ⟨its2, rv2, pb, _⟩ := I1.list qy
  obtain ⟨oa, hoa, _⟩ := id pa
  refine call_zipM (show s1.heap.IsTuple a its.toArray from pa) (show s1.heap.IsList b its2.toArray from pb.isList) fun h' hz pI pO h1 h2 hk => wpAny_pyIter_zip hz ?_
  refine ⟨s1.heap.objs.size + 4, [s1.heap.objs.size + 4, s1.heap.objs.size + 2, s1.heap.objs.size + 3, s1.heap.objs.size, s1.heap.objs.size + 1], _, _, H1, rfl, I1.kept (t' := s1.toks) hk, turn_zipM (PySem.W.ktu_apart s1.heap.objs.size a b (Heap.lt_size hoa) pb.lt), ⟨hz, pI, ⟨_, _, pO⟩, h1, h2⟩, fun c hc => ?_, q⟩
  have hle : s1.heap.objs.size ≤ c := by
    simp only [List.mem_cons, List.not_mem_nil, or_false] at hc
    rcases hc with q | q | q | q | q <;> subst q <;> omega
  exact I1.fpOk hle (I1.hok.fresh hle)
end ZM
namespace LC
open PySem PySem.Spec PyProof.Rows L2 RZ ZM
/-- over a tuple and a list side by side, the pairs being new -/
theorem lc_zipM {K : PySem.W.Frag} {a b : Addr} {xs ys : List V} {g : TG} {tt : TT} {te : TE} {vs : List Nat} {σ : L2.St} {H1 : Hp} {D : Addr} {Qd : Hp → Prop} (hn : xs.length = ys.length) (Pv : Nat → Hp → Prop) (h0 : Pv 0 (upd H1 D (.lst []))) (hl : ∀ i H, i ≤ xs.length → Pv i H → SqT K H a xs ∧ SqL K H b ys)
    (hs : ∀ i x y T H, xs[i]? = some x → ys[i]? = some y → Pv i H → H T = none → g (.ref T) (wipe σ vs) (upd H T (.tup [x, y])) fun σ2 H2 => wipe σ2 vs = wipe σ vs ∧ tt σ2 H2 fun b H3 =>
      if b = true then te σ2 H3 fun y H4 => ∃ acc, H4 D = some (.lst acc) ∧ acc.length < sizeLine ∧ Pv (i + 1) (upd H4 D (.lst (acc ++ [y]))) else Pv (i + 1) H3) (hd : ∀ H, Pv xs.length H → Qd H) :
    ∃ W : Nat → Nat → Hp → Prop, (∃ m, W 0 m (upd H1 D (.lst []))) ∧ ∀ i m H, W i m H →
      ((ItzM K a b).stop i H ∧ Qd H) ∨ ((ItzM K a b).go i H ∧ ∃ Nx : Hp → Prop, (∀ H', Nx H' → ∃ m', m' < m ∧ W (i + 1) m' H') ∧ ∀ x H', (ItzM K a b).yld i H x H' → g x (wipe σ vs) H' fun σ2 H2 => wipe σ2 vs = wipe σ vs ∧ tt σ2 H2 fun b H3 =>
        if b = true then te σ2 H3 fun y H4 => ∃ acc, H4 D = some (.lst acc) ∧ acc.length < sizeLine ∧ Nx (upd H4 D (.lst (acc ++ [y]))) else Nx H3) := by
  refine ⟨fun i m H => m = xs.length - i ∧ i ≤ xs.length ∧ Pv i H, ⟨xs.length, by simp, Nat.zero_le _, h0⟩, ?_⟩
  rintro i m H ⟨rfl, hi, p⟩
  obtain ⟨q1, q2⟩ := hl i H hi p
  by_cases hlt : i < xs.length
  · refine .inr ⟨⟨xs, ys, xs[i], ys[i]'(by omega), q1, q2, by simp [hlt], List.getElem?_eq_getElem _⟩, Pv (i + 1), fun H' h' => ⟨xs.length - (i + 1), by omega, rfl, hlt, h'⟩, fun x H' y => ?_⟩
    obtain ⟨T, u, v, rfl, hT, rfl, e1, e2⟩ := y
    exact hs i u v T H (e1 xs q1) (e2 ys q2) p hT
  · have e : i = xs.length := by omega
    subst e
    exact .inl ⟨⟨xs, ys, q1, q2, .inl (Nat.le_refl _)⟩, hd H p⟩
end LC
-- K17_z1
namespace K17
open PySem PySem.Spec PyProof.Rows L2 LC
variable [Tbl]
variable {P : Program} {w : World} {K : PySem.W.Frag} {mg : Str → Option Value} {base : Heap} {f c : Addr} {fd : FuncData} {Ts : List Addr} {TP : Addr}

def sp_law_plansR : Sp := fun vs H Q _ => ∃ (v : V) (k : Clk) (s0 hi : Int) (sa : Addr) (st : List Int), vs = [v, .int s0, .int hi, .ref sa] ∧ ClkAt H v k ∧ k.Ok ∧ StOk k st ∧ k.eds.sum ≤ 3 ∧ k.eds.length ≤ 3 ∧ 0 ≤ s0 ∧ s0 ≤ 1000 ∧ 0 ≤ hi ∧ hi ≤ s0 + 40 ∧ H sa = some (.tup (st.map V.int)) ∧ ∀ H' l rs, Xn H H' → H l = none → H' l = some (.lst rs) → Plns H' rs (lp (leftC k st) s0 hi k.eds.length) → Q (.ref l) H'
theorem ok_law_plansR (T : Txt mg) (C_law_rows : Callee P w K mg base "_law_rows" 1 ["clock", "wheel", "many", "start", "end"] sp_law_rows) (F : FunC K "_law_plans" s_law_plans f fd c) : FnOk P w K mg base CX0 2 f fd ["clock", "start", "end", "standing"] sp_law_plansR := by
  refine F.ok sc_law_plans (fun vs H Q E h => ?_) (fun A outer s H vs Q E hr h => ⟨_, (pss_cons (ps_set (i := 4) sc_law_plans.nd rfl (Or.inl rfl) (pe_lst (pa_cons (pe_tup pa_nil) pa_nil)))
    (pss_cons (ps_for PassesOwn.never rfl (piA (K := K) iEnumT (pi_enumT (by rfl) T.g_enumerate (pa_cons (pe_ix (ixK (K := K) rIxT ix_tup rfl) (pv 0) pe_int (fun _ _ => rfl)) pa_nil)) rfl) (pg_tup rfl (pgs_cons (pg_name (i := 5) sc_law_plans.nd rfl (Or.inl rfl)) (pgs_cons (pg_name (i := 6) sc_law_plans.nd rfl (Or.inl rfl)) pgs_nil))) (pss_cons (ps_set (i := 7) sc_law_plans.nd rfl (Or.inl rfl) (pe_callC C_law_rows hr (by rfl) (pa_cons (pv 0) (pa_cons (pv 5) (pa_cons (pe_op op_sub (pv 6) (pe_ix (ixK (K := K) rIxT ix_tup rfl) (pv 3) (pv 5) (fun _ _ => rfl))) (pa_cons (pv 1) (pa_cons (pv 2) pa_nil)))))))
    (pss_cons (ps_set (i := 8) sc_law_plans.nd rfl (Or.inl rfl) (pe_lst pa_nil))
    (pss_cons (ps_for PassesOwn.never rfl (piK (K := K) iList (pi_list (pv 4)) rfl) (pg_name (i := 9) sc_law_plans.nd rfl (Or.inr rfl)) (pss_one (ps_set (i := 8) sc_law_plans.nd rfl (Or.inl rfl) (pe_op op_cat (pv 8) (pe_lc (own := [("one", 10)]) rfl sc_law_plans.nd (piK (K := K) iList (pi_list (pv 7)) rfl) (blkOk_by (N := N_law_plans) (sc := defScope s_law_plans) (own := [("one", 10)]) (by decide +kernel)) (fun _ _ _ _ _ => (pg_name (i := 10) sc_law_plans.nd rfl (Or.inl rfl))) (fun _ _ _ _ _ => pts_nil) (fun _ _ _ _ _ => (pe_op (opK (K := K) rCatA op_catA rfl) (pv 9) (pe_tup (pa_cons (pv 10) pa_nil)))))))))
    (pss_one (ps_set (i := 4) sc_law_plans.nd rfl (Or.inl rfl) (pv 8)))))))
    (pss_one (ps_ret (pv 4))))), ?_⟩)
  · obtain ⟨v, k, s0, hi, sa, st, rfl, _⟩ := h; rfl
  · obtain ⟨v, k, s0, hi, sa, st, rfl, hC, ok, so, h3, hl3, s00, s01, hi0, hi4, hst, q⟩ := h
    have lok := left_ok ok so
    have ls3 : (leftC k st).eds.sum ≤ 3 := by
      show (List.zipWith _ _ _).sum ≤ 3
      rw [zip_sum so.len.symm]
      have := st_sum so.len.symm so.bd
      omega
    obtain ⟨⟨ca, e, tt, g, b, rt, rg, rb, rfl, h1, h2, h3', h4, h5, h6, h7, h8⟩⟩ := id hC
    refine ⟨by show 0 ≤ sizeLine; decide, fun t0 ht0 => ⟨by show 1 ≤ sizeLine; decide, fun l0 hl0 => ?_⟩⟩
    have x0 : Xn H (upd (upd H t0 (.tup [])) l0 (.lst [V.ref t0])) := (Xt.new ht0).trans (Xt.new hl0)
    have hp0 : Plns (upd (upd H t0 (.tup [])) l0 (.lst [V.ref t0])) [V.ref t0] (lp (leftC k st) s0 hi 0) := Plns.one ⟨⟨t0, [], rfl, upd_old upd_same hl0, Rows.nil⟩⟩
    have hl0e : upd (upd H t0 (.tup [])) l0 (.lst [V.ref t0]) l0 = some (.lst [V.ref t0]) := upd_same
    have hn0 : H l0 = none := (Xt.new (S := No) ht0).backN hl0
    generalize upd (upd H t0 (.tup [])) l0 (.lst [V.ref t0]) = H0 at x0 hp0 hl0e ⊢
    refine ⟨_, rfl, rixV 1 (x0.tups _ _ h1) rfl rfl ⟨e, k.eds.map V.int, rfl, SqT.of (x0.tups _ _ h2), ?_⟩⟩
    refine for_enumT (xs := k.eds.map V.int) (fun n σ G => ∃ l rs x5 x6 x7 x8 x9, σ = [some (.ref ca), some (.int s0), some (.int hi), some (.ref sa), some (.ref l), x5, x6, x7, x8, x9, none] ∧ Xn H G ∧ H l = none ∧ G l = some (.lst rs) ∧ Plns G rs (lp (leftC k st) s0 hi n)) ⟨l0, _, _, _, _, _, _, rfl, x0, hn0, hl0e, hp0⟩ (fun n σ G _ hp => ?_) (fun n x TT σ G ex hp hTT => ?_) (fun σ G hp => ?_)
    · obtain ⟨_, _, _, _, _, _, _, _, hx, _⟩ := hp
      exact SqT.of (hx.tups _ _ h2)
    · obtain ⟨l, rs, x5, x6, x7, x8, x9, rfl, hx, hln, hl, hrs⟩ := hp
      obtain ⟨ed, eed, rfl⟩ := getI ex
      have hn : n < k.eds.length := (List.getElem?_eq_some_iff.mp eed).1
      obtain ⟨gp, eg⟩ : ∃ z, k.gps[n]? = some z := ⟨_, List.getElem?_eq_getElem (by rw [ok.gpsN]; exact hn)⟩
      have ed1 := ok.eds ed (List.mem_of_getElem? eed)
      have sb := st_bd so (i := (n : Int)) (by omega)
      rw [Int.toNat_natCast, eed] at sb
      have sb : 0 ≤ sg st n ∧ sg st n ≤ ed := sb
      have esn : st[n]? = some (sg st n) := by
        have := List.getElem?_eq_getElem (show n < st.length by rw [so.len]; exact hn)
        unfold sg
        rw [Int.toNat_natCast, this]; rfl
      have ed3 : (ed - sg st n).toNat ≤ 3 := by
        have := take_sum_le (es := k.eds) (fun e he => (ok.eds e he).1) (n + 1)
        rw [take_snocE eed, List.map_append, List.sum_append] at this
        simp at this
        omega
      have xT : Xn G (upd G TT (.tup [.int (n : Nat), .int ed])) := Xt.new hTT
      have hTe : upd G TT (.tup [.int (n : Nat), .int ed]) TT = some (.tup [.int (n : Nat), .int ed]) := upd_same
      generalize upd G TT (.tup [.int (n : Nat), .int ed]) = G1 at xT hTe ⊢
      have hx1 := hx.trans xT
      refine ⟨TT, _, rfl, SqT.of hTe, rfl, _, _, rfl, _, _, rfl, rfl, ?_⟩
      refine ⟨_, rfl, _, rfl, _, rfl, _, rfl, _, rfl, rixT_of (j := n) (v := .int (sg st n)) (hx1.tups _ _ hst) rfl (by rw [List.getElem?_map, esn]; rfl) ⟨_, _, rfl, rfl, _, rfl, _, rfl, ?_⟩⟩
      refine ⟨.ref ca, k, n, gp, (ed - sg st n).toNat, s0, hi, (congrArg (fun z => [V.ref ca, V.int (n : Nat), V.int z, V.int s0, V.int hi]) (by omega : ed - sg st n = (((ed - sg st n).toNat : Nat) : Int))), hC.x hx1, ok, eg, s00, by omega, by omega, hi0, ed3, fun G2 l2 rs2 y2 hl2 hrs2 => ?_⟩
      have rw1 : (lr k.per gp s0 hi (ed - sg st n).toNat).length ≤ 64000 := by
        refine Nat.le_trans (lr_len (B := 40) (by omega) _) ?_
        match (ed - sg st n).toNat, ed3 with
        | 0, _ => decide
        | 1, _ => decide
        | 2, _ => decide
        | 3, _ => decide
        | n + 4, h => exact absurd h (by omega)
      have xG2 := xT.trans y2
      have hx2 := hx.trans xG2
      have hl' := xG2.keep l _ (fun z => z) (fun _ z => by cases z) hl
      have hrs' := hrs.x xG2
      clear hx hx1 hl hrs xT hTe
      refine ⟨by show 0 ≤ sizeLine; decide, fun L0 hL0 => ?_⟩
      refine ⟨_, rfl, l, rfl, ⟨_, SqL.of (upd_old hl' hL0)⟩, ?_⟩
      have elp : lp (leftC k st) s0 hi (n + 1) = (lp (leftC k st) s0 hi n).flatMap fun pl => (lr k.per gp s0 hi (ed - sg st n).toNat).map fun one => pl ++ [one] := by
        show (lp (leftC k st) s0 hi n).flatMap _ = _
        rw [show (leftC k st).gps = k.gps from rfl, eg, left_get so eed]; rfl
      have few := lp_fewS lok ls3 hi4 (n + 1)
      rw [elp] at few
      have few' : ∀ m, (((lp (leftC k st) s0 hi n).take m).flatMap fun pl => (lr k.per gp s0 hi (ed - sg st n).toNat).map fun one => pl ++ [one]).length ≤ 64000 := fun m => by
        refine Nat.le_trans ?_ few
        conv => rhs; rw [← List.take_append_drop m (lp (leftC k st) s0 hi n), List.flatMap_append, List.length_append]
        exact Nat.le_add_right _ _
      refine for_list (xs := rs) (fun m σ G' => ∃ L lrs x9, σ = [some (.ref ca), some (.int s0), some (.int hi), some (.ref sa), some (.ref l), some (.int (n : Nat)), some (.int ed), some (.ref l2), some (.ref L), x9, none] ∧ Xn G2 G' ∧ H L = none ∧ G' L = some (.lst lrs) ∧ Plns G' lrs (((lp (leftC k st) s0 hi n).take m).flatMap fun pl => (lr k.per gp s0 hi (ed - sg st n).toNat).map fun one => pl ++ [one]))
        ⟨L0, [], _, rfl, Xt.new hL0, hx2.backN hL0, upd_same, Plns.nil⟩ (fun m σ G' _ hp => ?_) (fun m x σ G' ex hp => ?_) (fun σ G' hp => ?_)
      · obtain ⟨_, _, _, _, x, _⟩ := hp
        exact SqL.of (x.keep l _ (fun z => z) (fun _ z => by cases z) hl')
      · obtain ⟨L, lrs, x9, rfl, xg, hLn, hL, hlrs⟩ := hp
        obtain ⟨pl, epl, hPl⟩ := (hrs'.x xg).get ex
        have hm : m < rs.length := (List.getElem?_eq_some_iff.mp ex).1
        obtain ⟨pa, prs, rfl, hpa, hprs⟩ := id hPl.ex
        have pln : pl.length = n := (mem_lp.mp (List.mem_of_getElem? epl)).1
        have hl2' := xg.keep l2 _ (fun z => z) (fun _ z => by cases z) hl2
        have hrs2' := hrs2.x xg
        refine ⟨_, rfl, _, rfl, l2, rfl, ⟨_, SqL.of hl2'⟩, fun D hD => ?_⟩
        refine drvL (xs := rs2) (fun i H2 => Xn G' H2 ∧ ∃ acc, H2 D = some (.lst acc) ∧ Plns H2 acc (((lr k.per gp s0 hi (ed - sg st n).toNat).take i).map fun one => pl ++ [one])) ⟨Xt.new hD, [], upd_same, Plns.nil⟩ (fun i H2 _ hp => SqL.of (hp.1.keep l2 _ (fun z => z) (fun _ z => by cases z) hl2')) (fun i y H2 ey hp => ?_) (fun H2 hp => ?_)
        · obtain ⟨xx, acc, hacc, hra⟩ := hp
          obtain ⟨r, one, rfl, eo, ho⟩ := hrs2'.get ey
          refine ⟨rfl, yes_of ⟨_, rfl, _, rfl, by show 1 ≤ sizeLine; decide, fun pt hpt => ?_⟩⟩
          have xp : Xn H2 (upd H2 pt (.tup [V.ref r])) := Xt.new hpt
          refine LX.catA (xp.tups _ _ (xx.tups _ _ hpa)) upd_same (by rw [hprs.1]; show pl.length + 1 ≤ 1000; omega) fun H3 p x3 ep => ?_
          have x23 := xp.trans x3
          have hacc3 := x23.keep D _ (fun z => z) (fun _ z => by cases z) hacc
          have hi' := (List.getElem?_eq_some_iff.mp eo).1
          refine ⟨acc, hacc3, (by rw [hra.1, List.length_map, List.length_take, sizeLine_eq]; omega), (xx.trans x23).young hD, acc ++ [V.ref p], upd_same, ?_⟩
          have own : Xt (At1 D) H3 (upd H3 D (.lst (acc ++ [V.ref p]))) := Xt.own rfl hacc3
          rw [take_snocE eo, List.map_append]
          exact ((hra.x x23).x own).snoc ⟨⟨p, _, rfl, own.tups _ _ ep, (((hprs.x xx).x x23).x own).snoc (own.tups _ _ (x23.tups _ _ (xx.tups _ _ ho)))⟩⟩
        obtain ⟨xx, acc, hacc, hra⟩ := hp
        rw [hrs2.1, List.take_length] at hra
        have hL2 := xx.keep L _ (fun z => z) (fun _ z => by cases z) hL
        have e2 : ((lp (leftC k st) s0 hi n).take (m + 1)).flatMap (fun pl => (lr k.per gp s0 hi (ed - sg st n).toNat).map fun one => pl ++ [one]) = ((lp (leftC k st) s0 hi n).take m).flatMap (fun pl => (lr k.per gp s0 hi (ed - sg st n).toNat).map fun one => pl ++ [one]) ++ (lr k.per gp s0 hi (ed - sg st n).toNat).map fun one => pl ++ [one] := by
          rw [take_snocE epl, List.flatMap_append, List.flatMap_singleton]
        have hll := few' (m + 1)
        rw [e2, List.length_append] at hll
        refine ⟨L, D, lrs, acc, rfl, rfl, hL2, hacc, by rw [hlrs.1, hra.1, sizeLine_eq]; omega, fun L2 hL2 => ?_⟩
        have x5 := xx.trans (Xt.new (o := .lst (lrs ++ acc)) hL2)
        refine ⟨L2, lrs ++ acc, _, rfl, xg.trans x5, (hx2.trans (xg.trans xx)).backN hL2, upd_same, ?_⟩
        rw [e2]
        exact (hlrs.x x5).app (hra.x (Xt.new (S := No) hL2))
      · obtain ⟨L, lrs, x9, rfl, xg, hLn, hL, hlrs⟩ := hp
        rw [hrs'.1, List.take_length, ← elp] at hlrs
        exact ⟨_, rfl, L, lrs, _, _, _, _, _, rfl, hx2.trans xg, hLn, hL, hlrs⟩
    · obtain ⟨l, rs, x5, x6, x7, x8, x9, rfl, hx, hln, hl, hrs⟩ := hp
      rw [List.length_map] at hrs
      exact ⟨_, rfl, q G l rs hx hln hl hrs⟩

def sp_law_rest_bad : Sp := fun vs H Q _ => ∃ (v pv : V) (k : Clk) (pl : List (List Int)) (s0 : Int) (sa : Addr) (st : List Int), vs = [v, pv, .int s0, .ref sa] ∧ ClkAt H v k ∧ k.Ok ∧ PlnAt H pv pl ∧ PlOk (leftC k st) pl ∧ H sa = some (.tup (st.map V.int)) ∧ StOk k st ∧ 0 ≤ s0 ∧ s0 ≤ 50000 ∧ ∀ H' (r : Option Int), Xn H H' → (r = none ↔ RR k st s0 pl) → Q (match r with | none => .non | some t => .int t) H'
theorem ok_law_rest_bad (T : Txt mg) (C_law_bad : Callee P w K mg base "_law_bad" 2 ["clock", "standing", "tick"] sp_law_bad) (C_law_standing : Callee P w K mg base "_law_standing" 1 ["plan", "tick"] sp_law_standing) (F : FunC K "_law_rest_bad" s_law_rest_bad f fd c) : FnOk P w K mg base CX0 3 f fd ["clock", "plan", "start", "standing"] sp_law_rest_bad := by
  refine F.ok sc_law_rest_bad (fun vs H Q E h => ?_) (fun A outer s H vs Q E hr h => ⟨_, (pss_cons (ps_set (i := 4) sc_law_rest_bad.nd rfl (Or.inl rfl) (pv 2))
    (pss_cons (ps_for PassesOwn.never rfl (piK (K := K) iTup (pi_tup (pv 1)) rfl) (pg_name (i := 5) sc_law_rest_bad.nd rfl (Or.inl rfl)) (pss_one (ps_set (i := 4) sc_law_rest_bad.nd rfl (Or.inl rfl) (pe_callB (cr_max rfl) (by rfl) T.g_max (by decide +kernel) (pa_cons (pe_op op_cat (pe_lst (pa_cons (pv 4) pa_nil)) (pe_callTy call_list_of (by rfl) T.g_list (by decide +kernel) (pa_cons (pv 5) pa_nil))) pa_nil)))))
    (pss_cons (ps_for PassesOwn.never rfl (pi_range2 (by rfl) T.g_range (pa_cons (pv 2) (pa_cons (pe_op op_add (pe_op op_add (pv 4) (pe_ix (ixK (K := K) rIxT ix_tup rfl) (pv 0) pe_int (fun _ _ => rfl))) pe_int) pa_nil))) (pg_name (i := 6) sc_law_rest_bad.nd rfl (Or.inl rfl)) (pss_cons (ps_setLc (i := 7) (own := [("one", 8), ("more", 9)]) rfl sc_law_rest_bad.nd rfl rfl (sw_true rfl rfl rfl (by decide +kernel)) (piA (K := K) ZM.iZipM (ZM.pi_zipM (by rfl) T.g_zip (pa_cons (pv 3) (pa_cons (pe_callC C_law_standing hr (by rfl) (pa_cons (pv 1) (pa_cons (pv 6) pa_nil))) pa_nil))) rfl) (blkOk_by (N := N_law_rest_bad) (sc := defScope s_law_rest_bad) (own := [("one", 8), ("more", 9)]) (by decide +kernel)) (fun _ _ _ _ _ => (pg_tupK (K := K) (n := 2) rfl rfl (pgs_cons (pg_name (i := 8) sc_law_rest_bad.nd rfl (Or.inl rfl) (hf := Or.inr rfl)) (pgs_cons (pg_name (i := 9) sc_law_rest_bad.nd rfl (Or.inl rfl) (hf := Or.inr rfl)) pgs_nil)) rfl rfl)) (fun _ _ _ _ _ => pts_nil) (fun _ _ _ _ _ => (pe_op op_add (pv 8) (pv 9))))
    (pss_one (ps_if (pt_cmpR (op_neD hr.units) (pe_callC C_law_bad hr (by rfl) (pa_cons (pv 0) (pa_cons (pv 7) (pa_cons (pv 6) pa_nil)))) (pe_lst pa_nil) (nomark _)) (pss_one (ps_ret (pv 6))) pss_nil))))
    (pss_one (ps_ret pe_non))))), ?_⟩)
  · obtain ⟨v, pv, k, pl, s0, sa, st, rfl, _⟩ := h; rfl
  · obtain ⟨v, pv, k, pl, s0, sa, st, rfl, hC, ok, hP, po, hst, so, s1, s2, q⟩ := h
    obtain ⟨⟨pa, rs, rfl, hpa, hrs⟩⟩ := id hP
    obtain ⟨⟨ca, e, t, g, b, rt, rg, rb, rfl, h1, h2, h3, h4, h5, h6, h7, h8⟩⟩ := id hC
    have p0 := ok.per.1
    have p12 := ok.per.2
    have lok := left_ok ok so
    have pll : pl.length = k.eds.length := by rw [po.len, left_len so]
    have t1 : pl.length ≤ 1000 := by rw [pll]; have := ok.len.2; omega
    have t2 : ∀ ts ∈ pl, ts.length ≤ 1000 := fun ts hts => by
      obtain ⟨i, hi⟩ := List.mem_iff_getElem?.mp hts
      have := po.few lok hi; omega
    refine ⟨_, rfl, _, rfl, pa, rfl, ⟨_, SqT.of hpa⟩, ?_⟩
    refine for_tup (xs := rs) (fun n σ H' => ∃ last x5, σ = [some (.ref ca), some (.ref pa), some (.int s0), some (.ref sa), some (.int last), x5, none, none, none, none] ∧ Xn H H' ∧ s0 ≤ last ∧ last ≤ 100000 ∧ ∀ ts ∈ pl.take n, ∀ x ∈ ts, x ≤ last) ⟨s0, _, rfl, Xt.refl, Int.le_refl _, by omega, fun ts h => nomatch h⟩ (fun n σ H' _ hp => ?_) (fun n x σ H' ex hp => ?_) (fun σ H' hp => ?_)
    · obtain ⟨_, _, _, hx, _⟩ := hp
      exact SqT.of (hx.tups _ _ hpa)
    · obtain ⟨last, x4, rfl, hx, l0, l5, hle⟩ := hp
      obtain ⟨r, ts, rfl, e1, e2⟩ := hrs.get ex
      have e2 := hx.tups _ _ e2
      have hl4 := po.few lok e1
      have hbd := (po.row n ts e1).2.1
      refine ⟨_, rfl, by show 1 ≤ sizeLine; decide, fun a1 ha1 => ?_⟩
      refine ⟨_, rfl, r, _, rfl, .inr (SqT.of (upd_old e2 ha1)), fun a2 ha2 => ?_⟩
      refine ⟨a1, a2, _, _, rfl, rfl, upd_old upd_same ha2, upd_same, sz_ok (by rw [List.length_map]; show 1 + ts.length ≤ 1000; omega), fun a3 ha3 => ?_⟩
      refine ⟨a3, last :: ts, rfl, SqL.of upd_same, by simp, fun m hm hmax => ?_⟩
      refine ⟨m, _, rfl, ((hx.trans (Xt.new ha1)).trans (Xt.new ha2)).trans (Xt.new ha3), ?_, ?_, fun us hus x hxu => ?_⟩
      · have := hmax last List.mem_cons_self; omega
      · rcases List.mem_cons.mp hm with z | z
        · omega
        · exact (hbd m z).2.1
      · rw [take_snocE e1] at hus
        rcases List.mem_append.mp hus with hus | hus
        · have := hle us hus x hxu; have := hmax last List.mem_cons_self; omega
        · rw [List.mem_singleton] at hus; subst hus; exact hmax x (List.mem_cons_of_mem _ hxu)
    · obtain ⟨last, x4, rfl, hx, l0, l5, hle⟩ := hp
      rw [hrs.1, List.take_length] at hle
      refine ⟨_, rfl, _, rfl, _, rfl, rixV 0 (hx.tups _ _ h1) rfl rfl ⟨_, _, rfl, rfl, _, _, rfl, rfl, _, _, rfl, ⟨by omega, by omega, by omega, by omega⟩, ?_⟩⟩
      refine for_range (fun j σ H' => ∃ x6 x7, σ = [some (.ref ca), some (.ref pa), some (.int s0), some (.ref sa), some (.int last), x4, x6, x7, none, none] ∧ Xn H H' ∧ ∀ u, s0 ≤ u → u < s0 + (j : Int) → badAt k (rst st pl u) u = []) ⟨_, _, rfl, hx, fun u u1 u2 => by omega⟩ (fun j σ H' hj hp => ?_) (fun σ H' hp => ?_)
      · obtain ⟨x6, x7, rfl, hx, hin⟩ := hp
        refine ⟨_, rfl, _, rfl, _, rfl, .ref pa, pl, s0 + (j : Int), rfl, hP.x hx, t1, t2, fun H1 sp y1 hsp => ?_⟩
        have x1 := hx.trans y1
        refine ⟨sa, sp, _, _, rfl, SqT.of (x1.tups _ _ hst), SqL.of hsp, fun D hD => ?_⟩
        have rl := rst_len so po (s0 + (j : Int))
        have hl12 := ok.len.2
        refine lc_zipM (xs := st.map V.int) (ys := (stand pl (s0 + (j : Int))).map V.int) (by rw [List.length_map, List.length_map, stand_len, pll, so.len]) (fun i H' => Xn H1 H' ∧ H' D = some (.lst (((rst st pl (s0 + (j : Int))).take i).map V.int))) ⟨Xt.new hD, upd_same⟩ (fun i H' _ hp => ⟨SqT.of (hp.1.tups _ _ (x1.tups _ _ hst)), SqL.of (hp.1.keep _ _ (fun z => z) (fun _ z => by cases z) hsp)⟩) (fun i x y TT H' ex ey hp hTT => ?_) (fun H2 hp => ?_)
        · obtain ⟨hxx, hD'⟩ := hp
          obtain ⟨n1, e1, rfl⟩ := getI ex
          obtain ⟨n2, e2, rfl⟩ := getI ey
          have hi := (List.getElem?_eq_some_iff.mp e1).1
          have ez : (rst st pl (s0 + (j : Int)))[i]? = some (n1 + n2) := by unfold rst; rw [List.getElem?_zipWith, e1, e2]
          have hD2 := upd_old (u := .tup [V.int n1, V.int n2]) hD' hTT
          refine ⟨TT, _, rfl, SqT.of upd_same, rfl, _, _, rfl, _, _, rfl, rfl, rfl, yes_of ⟨_, rfl, _, rfl, _, _, rfl, rfl, _, hD2, sz_lt (by rw [List.length_map, List.length_take]; omega), (hxx.trans (Xt.new hTT)).young hD, ?_⟩⟩
          rw [upd_same, take_snocE ez, List.map_append]; rfl
        · obtain ⟨hxx, hD2⟩ := hp
          rw [List.length_map, so.len, ← rl, List.take_length] at hD2
          have x2 := x1.trans hxx
          refine ⟨_, rfl, _, rfl, _, rfl, .ref ca, k, D, _, _, rfl, hC.x x2, ok, hD2, rl, fun H3 p2 rs2 y2 hp2 hr2 => ?_⟩
          refine ⟨by show 0 ≤ sizeLine; decide, fun e0 he0 => neR_nil (upd_old hp2 he0) (hr2.mono (Tk.refl.new he0)) upd_same ⟨_, rfl, ?_⟩⟩
          have hx3 := (x2.trans y2).trans (Xt.new (o := .lst []) he0)
          cases hb : badAt k (rst st pl (s0 + (j : Int))) (s0 + (j : Int)) with
          | nil =>
            refine iteF ⟨_, _, rfl, hx3, fun u u1 u2 => ?_⟩
            by_cases z : u = s0 + (j : Int)
            · rw [z]; exact hb
            · exact hin u u1 (by omega)
          | cons y ys =>
            refine iteT ⟨_, rfl, ?_⟩
            refine q _ (some (s0 + (j : Int))) hx3 ⟨(fun z => nomatch z), fun z => ?_⟩
            have := z (s0 + (j : Int)) (by omega)
            rw [hb] at this; cases this
      · obtain ⟨x6, x7, rfl, hx, hin⟩ := hp
        exact q H' none hx ⟨fun _ => rr_none p0 hle l0 fun u u1 u2 => hin u u1 (by omega), fun _ => rfl⟩

def sp_law_rests : Sp := fun vs H Q _ => ∃ (v : V) (k : Clk) (s0 : Int) (sa ha : Addr) (st hs : List Int), vs = [v, .int s0, .ref sa, .ref ha] ∧ ClkAt H v k ∧ k.Ok ∧ StOk k st ∧ k.eds.sum ≤ 3 ∧ k.eds.length ≤ 3 ∧ k.per ≤ 3 ∧ 0 ≤ s0 ∧ s0 ≤ 100 ∧ H sa = some (.tup (st.map V.int)) ∧ H ha = some (.lst (hs.map V.int)) ∧ hs.length ≤ 12 ∧ (∀ i ∈ hs, 0 ≤ i ∧ i < k.eds.length) ∧ ∀ H' l rs, Xn H H' → H l = none → H' l = some (.lst rs) → Plns H' rs (restsL k st s0 hs) → Q (.ref l) H'
theorem ok_law_rests (T : Txt mg) (C_law_plans : Callee P w K mg base "_law_plans" 2 ["clock", "start", "end", "standing"] sp_law_plansR) (C_law_rest_bad : Callee P w K mg base "_law_rest_bad" 3 ["clock", "plan", "start", "standing"] sp_law_rest_bad) (F : FunC K "_law_rests" s_law_rests f fd c) : FnOk P w K mg base CX0 4 f fd ["clock", "tick", "standing", "held"] sp_law_rests := by
  refine F.ok sc_law_rests (fun vs H Q E h => ?_) (fun A outer s H vs Q E hr h => ⟨_, (pss_cons (ps_set (i := 4) sc_law_rests.nd rfl (Or.inl rfl) (pe_op op_sub (pe_callB (crK (K := K) rSumT (cr_sumT rfl) rfl) (by rfl) T.g_sum (by decide +kernel) (pa_cons (pe_ix (ixK (K := K) rIxT ix_tup rfl) (pv 0) pe_int (fun _ _ => rfl)) pa_nil)) (pe_callB (crK (K := K) rSumT (cr_sumT rfl) rfl) (by rfl) T.g_sum (by decide +kernel) (pa_cons (pv 2) pa_nil))))
    (pss_cons (ps_set (i := 5) sc_law_rests.nd rfl (Or.inl rfl) (pe_lst pa_nil))
    (pss_cons (ps_for PassesOwn.never rfl (piK (K := K) iList (pi_list (pe_callC C_law_plans hr (by rfl) (pa_cons (pv 0) (pa_cons (pv 1) (pa_cons (pe_op op_add (pv 1) (pe_op op_mul (pe_op op_mul pe_int (pe_ix (ixK (K := K) rIxT ix_tup rfl) (pv 0) pe_int (fun _ _ => rfl))) (pe_op op_add (pv 4) pe_int))) (pa_cons (pv 2) pa_nil)))))) rfl) (pg_name (i := 6) sc_law_rests.nd rfl (Or.inr rfl)) (pss_cons (ps_setLc (i := 7) (own := [("wheel", 8)]) rfl sc_law_rests.nd rfl rfl (sw_true rfl rfl rfl (by decide +kernel)) (piK (K := K) iList (pi_list (pv 3)) rfl) (blkOk_by (N := N_law_rests) (sc := defScope s_law_rests) (own := [("wheel", 8)]) (by decide +kernel)) (fun _ _ _ _ _ => (pg_name (i := 8) sc_law_rests.nd rfl (Or.inl rfl))) (fun _ _ _ _ _ => (pts_one (PW.pt (pw_and (pt_cmpR (opK (K := K) rNeD (op_neD hr.units) rfl) (pe_ix (ixK (K := K) rIxT ix_tup rfl) (pv 6) (pv 8) (fun _ _ => rfl)) (pe_tup pa_nil) (nomark _)) (pw_and1 (pt_cmpR op_eq (pe_ix (ixK (K := K) rIxT ix_tup rfl) (pe_ix (ixK (K := K) rIxT ix_tup rfl) (pv 6) (pv 8) (fun _ _ => rfl)) pe_int (fun _ _ => rfl)) (pv 1) (nomark _))))))) (fun _ _ _ _ _ => (pv 8)))
    (pss_one (ps_if (PW.pt (pw_and (pt_cmpR (opK (K := K) rEqD (op_eqD hr.units) rfl) (pv 7) (pe_lst pa_nil) (nomark _)) (pw_and1 (pt_cmpR op_isN (pe_callC C_law_rest_bad hr (by rfl) (pa_cons (pv 0) (pa_cons (pv 6) (pa_cons (pv 1) (pa_cons (pv 2) pa_nil))))) pe_non (nomark _))))) (pss_one (ps_expr (pe_bm PySem.F.plainAttrs_list PySem.F.slot_list_append PySem.F.type_list_append mt_append (pv 5) (pa_cons (pv 6) pa_nil)))) pss_nil))))
    (pss_one (ps_ret (pv 5)))))), ?_⟩)
  · obtain ⟨v, k, s0, sa, ha, st, hs, rfl, _⟩ := h; rfl
  · obtain ⟨v, k, s0, sa, ha, st, hs, rfl, hC, ok, so, h3, hl3, hp3, s1, s2, hst, hha, hsl, hsb, q⟩ := h
    obtain ⟨⟨ca, e, t, g, b, rt, rg, rb, rfl, h1, h2, h3', h4, h5, h6, h7, h8⟩⟩ := id hC
    have lok := left_ok ok so
    have p0 := ok.per.1
    have ss := st_sum so.len.symm so.bd
    have pm : 2 * k.per * (k.eds.sum - st.sum + 1) ≤ 6 * 4 := Int.mul_le_mul (by omega) (by omega) (by omega) (by decide)
    have pm0 : 0 ≤ 2 * k.per * (k.eds.sum - st.sum + 1) := Int.mul_nonneg (by omega) (by omega)
    refine ⟨_, rfl, rixV 1 h1 rfl rfl ⟨e, k.eds, rfl, .inl (SqT.of h2), _, rfl, sa, st, rfl, .inl (SqT.of hst), _, _, rfl, rfl, ?_⟩⟩
    refine ⟨by show 0 ≤ sizeLine; decide, fun R hR => ?_⟩
    have xR : Xn H (upd H R (.lst [])) := Xt.new hR
    have hRe : upd H R (.lst []) R = some (.lst []) := upd_same
    generalize upd H R (.lst []) = H1 at xR hRe ⊢
    refine ⟨_, rfl, _, rfl, _, rfl, _, rfl, rixV 0 (xR.tups _ _ h1) rfl rfl ⟨_, _, rfl, rfl, .inl ⟨by decide, by decide⟩, _, rfl, _, _, rfl, rfl, _, _, rfl, rfl, .inl ⟨by omega, by omega⟩, _, _, rfl, rfl, _, rfl, ?_⟩⟩
    refine ⟨.ref ca, k, s0, endR k st s0, sa, st, rfl, hC.x xR, ok, so, h3, hl3, s1, by omega, by unfold endR; omega, by unfold endR; omega, xR.tups _ _ hst, fun H2 l rs x2 hln hl hrs => ⟨l, rfl, ⟨_, SqL.of hl⟩, ?_⟩⟩
    have nRa : ha ≠ R := ne_none hha hR
    have nlR : l ≠ R := fun z => by rw [z, hRe] at hln; cases hln
    have hRl := x2.keep R _ (fun z => z) (fun _ z => by cases z) hRe
    have x12 := xR.trans x2
    have hC2 := hC.x x12
    have ls3 : (leftC k st).eds.sum ≤ 3 := by
      show (List.zipWith _ _ _).sum ≤ 3
      rw [zip_sum so.len.symm]; omega
    have ehi : endR k st s0 ≤ s0 + 40 := by unfold endR; omega
    have few := lp_fewS (k := leftC k st) (s0 := s0) lok ls3 ehi k.eds.length
    have hR0 : H R = none := hR
    obtain ⟨LP, eLP⟩ : ∃ z, lp (leftC k st) s0 (endR k st s0) k.eds.length = z := ⟨_, rfl⟩
    rw [eLP] at hrs few
    have inLP : ∀ pl ∈ LP, PlOk (leftC k st) pl ∧ ∀ (i : Nat) (ts : List Int), pl[i]? = some ts → ∀ x ∈ ts, s0 ≤ x ∧ x < endR k st s0 := fun pl hm => by
      rw [← eLP, ← left_len so] at hm
      exact all_okS lok s1 (by omega) hm
    have eR : restsL k st s0 hs = LP.filter fun pl => isH s0 hs pl && isRR k st s0 pl := by unfold restsL; rw [eLP]
    rw [eR] at q
    refine for_list (xs := rs) (fun n σ G => ∃ rr x6 x7, σ = [some (.ref ca), some (.int s0), some (.ref sa), some (.ref ha), some (.int (k.eds.sum - st.sum)), some (.ref R), x6, x7, none] ∧ Xt (At1 R) H2 G ∧ G R = some (.lst rr) ∧ Plns G rr ((LP.take n).filter fun pl => isH s0 hs pl && isRR k st s0 pl)) ⟨[], _, _, rfl, Xt.refl, hRl, Plns.nil⟩ (fun n σ G _ hp => ?_) (fun n x σ G ex hp => ?_) (fun σ G hp => ?_)
    · obtain ⟨_, _, _, _, x, _⟩ := hp
      exact SqL.of (x.keep l _ (fun z => nlR z) (fun _ z => by cases z) hl)
    · obtain ⟨rr, x6, x7, rfl, xg, hRg, hpl⟩ := hp
      obtain ⟨pl, epl, hPl⟩ := (hrs.x xg).get ex
      obtain ⟨po, pb⟩ := inLP pl (List.mem_of_getElem? epl)
      obtain ⟨pa, prs, rfl, hpa, hprs⟩ := id hPl.ex
      have pll : pl.length = k.eds.length := by rw [po.len, left_len so]
      have hn := (List.getElem?_eq_some_iff.mp epl).1
      have hhg := xg.keep ha _ (fun z => nRa z) (fun _ z => by cases z) (x12.keep ha _ (fun z => z) (fun _ z => by cases z) hha)
      refine ⟨_, rfl, ha, rfl, ⟨_, SqL.of hhg⟩, fun D hD => ?_⟩
      refine drvL (xs := hs.map V.int) (fun m H' => Xn G H' ∧ H' D = some (.lst (((hs.take m).filter (lateB s0 pl)).map V.int))) ⟨Xt.new hD, upd_same⟩ (fun m H' _ hp => SqL.of (hp.1.keep ha _ (fun z => z) (fun _ z => by cases z) hhg)) (fun m x H' ex hp => ?_) (fun G1 hp => ?_)
      · obtain ⟨hx, hD'⟩ := hp
        obtain ⟨i, ei, rfl⟩ := getI ex
        obtain ⟨i0, i1⟩ := hsb i (List.mem_of_getElem? ei)
        have hm := (List.getElem?_eq_some_iff.mp ei).1
        obtain ⟨ts, ets⟩ : ∃ z, pl[i.toNat]? = some z := ⟨_, List.getElem?_eq_getElem (by omega)⟩
        obtain ⟨r, er, hr⟩ := hprs.2 i.toNat ts ets
        have hpa' := hx.tups _ _ hpa
        have hr' := hx.tups _ _ hr
        have fl : ((hs.take m).filter (lateB s0 pl)).length ≤ 12 := Nat.le_trans (List.length_filter_le _ _) (by rw [List.length_take]; omega)
        have no : lateB s0 pl i = false → ∀ H3, Xn H' H3 → Xn G H3 ∧ H3 D = some (.lst (((hs.take (m + 1)).filter (lateB s0 pl)).map V.int)) := fun z H3 x3 => by
          rw [filt_no ei z]
          exact ⟨hx.trans x3, x3.keep _ _ (fun z => z) (fun _ z => by cases z) hD'⟩
        refine ⟨rfl, _, rfl, _, rfl, rixT_of (j := i.toNat) hpa' (by omega) er ⟨by show 0 ≤ sizeLine; decide, fun e0 he0 => ?_⟩⟩
        have xe : Xn H' (upd H' e0 (.tup [])) := Xt.new he0
        have ee : upd H' e0 (.tup []) e0 = some (.tup []) := upd_same
        generalize upd H' e0 (.tup []) = H4 at xe ee ⊢
        refine ⟨.tuple (ts.map .int), .tuple [], .tup (SqT.of (xe.tups _ _ hr')) (dp_ints ts), .tup (SqT.of ee) .nil, LX.shaped_ints ts, by decide +kernel, _, rfl, ?_⟩
        cases ts with
        | nil =>
          refine LX.itF (by decide +kernel) (iteF ?_)
          exact no (by unfold lateB; rw [ets]; rfl) H4 xe
        | cons y tl =>
          refine LX.itT rfl ⟨_, rfl, _, rfl, rixT_of (j := i.toNat) (xe.tups _ _ hpa') (by omega) er (rixV 0 (xe.tups _ _ hr') rfl rfl ⟨_, rfl, rfl, ?_⟩)⟩
          rw [deceq]
          refine ⟨_, rfl, ?_⟩
          by_cases z : y = s0
          · rw [decide_eq_true z]
            have lt : lateB s0 pl i = true := by unfold lateB; rw [ets]; exact decide_eq_true (congrArg some z)
            refine iteT ⟨_, rfl, _, xe.keep _ _ (fun z => z) (fun _ z => by cases z) hD', sz_lt (by rw [List.length_map]; omega), (hx.trans xe).young hD, ?_⟩
            rw [filt_yes ei lt, upd_same, List.map_append]; rfl
          · rw [decide_eq_false z]
            exact iteF (no (by unfold lateB; rw [ets]; exact decide_eq_false fun y => z (Option.some.inj y)) H4 xe)
      obtain ⟨hx, hD1⟩ := hp
      rw [List.length_map, List.take_length] at hD1
      have hRg1 := hx.keep R _ (fun z => z) (fun _ z => by cases z) hRg
      have hpl1 := hpl.x hx
      have xg1 := xg.trans hx.any
      have hP1 := hPl.x hx
      refine ⟨_, rfl, by show 0 ≤ sizeLine; decide, fun n0 hn0 => eqI_nil (upd_old hD1 hn0) upd_same ⟨_, rfl, ?_⟩⟩
      rw [← isH_late]
      have xn : Xn G1 (upd G1 n0 (.lst [])) := Xt.new hn0
      generalize upd G1 n0 (.lst []) = G2 at xn ⊢
      have hRg2 := xn.keep R _ (fun z => z) (fun _ z => by cases z) hRg1
      have xg2 := xg1.trans xn.any
      cases cH : isH s0 hs pl with
      | false =>
        refine iteF (iteF ⟨rr, _, _, rfl, xg2, hRg2, ?_⟩)
        rw [filt_no epl (by rw [cH]; rfl)]
        exact hpl1.x xn
      | true =>
        refine iteT ⟨_, rfl, _, rfl, _, rfl, _, rfl, .ref ca, .ref pa, k, pl, s0, sa, st, rfl, hC2.x xg2, ok, hP1.x xn, po, xg2.tups _ _ (x12.tups _ _ hst), so, s1, by omega, fun G3 r x3 hr => ⟨rfl, _, rfl, ?_⟩⟩
        have hRg3 := x3.keep R _ (fun z => z) (fun _ z => by cases z) hRg2
        have hpl3 := (hpl1.x xn).x x3
        have xg3 := xg2.trans x3.any
        cases r with
        | none =>
          have hrr := isRR_iff.mpr (hr.mp rfl)
          refine iteT ⟨_, rfl, .inl ⟨rfl, _, SqL.of hRg3⟩, _, rfl, R, rr, _, rfl, rfl, hRg3, ?_, _, _, _, rfl, ?_, upd_same, ?_⟩
          · rw [hpl.1, sizeLine_eq]
            have := List.length_filter_le (fun pl => isH s0 hs pl && isRR k st s0 pl) (LP.take n)
            rw [List.length_take] at this
            omega
          · exact xg3.trans (Xt.own rfl hRg3)
          · rw [filt_yes epl (by rw [cH, hrr]; rfl)]
            have own : Xt (At1 R) G3 (upd G3 R (.lst (rr ++ [V.ref pa]))) := Xt.own rfl hRg3
            exact (hpl3.x own).snoc (((hP1.x xn).x x3).x own)
        | some t =>
          refine iteF ⟨rr, _, _, rfl, xg3, hRg3, ?_⟩
          rw [filt_no epl (by
            cases z : isRR k st s0 pl with
            | false => rw [cH]; rfl
            | true => exact absurd (hr.mpr (isRR_iff.mp z)) (fun z => nomatch z))]
          exact hpl3
    · obtain ⟨rr, x6, x7, rfl, xg, hRg, hpl⟩ := hp
      rw [hrs.1, List.take_length] at hpl
      exact ⟨_, rfl, q G R rr (Xt.drop x12 hR0 xg) hR0 hRg hpl⟩

end K17
-- K17_d4a
namespace K17
open PySem PySem.Spec PyProof.Rows L2 LC
variable [Tbl]
variable {P : Program} {w : World} {K : PySem.W.Frag} {mg : Str → Option Value} {base : Heap} {f c : Addr} {fd : FuncData} {Ts : List Addr} {TP : Addr}

def sp_all_exchanges : Sp := fun vs H Q _ => ∃ (v : V) (k : Clk), vs = [v] ∧ ClkAt H v k ∧ k.Ok ∧ ∀ H' p rs, Xn H H' → H' p = some (.tup rs) → Rows H' rs (due k.eds k.eds.length) → Q (.ref p) H'
theorem ok_all_exchanges (T : Txt mg) (F : FunC K "all_exchanges" s_all_exchanges f fd c) : FnOk P w K mg base CX0 1 f fd ["clock"] sp_all_exchanges := by
  refine F.ok sc_all_exchanges (fun vs H Q E h => ?_) (fun A outer s H vs Q E hr h => ⟨_, (pss_one (ps_ret (pe_callTy (crK (K := K) rTupQ cr_tuple rfl) (by rfl) T.g_tuple (by decide +kernel) (pa_cons (pe_lc2 (vs1 := [1]) (own := [("wheel", 2), ("last", 3), ("edition", 1)]) rfl sc_all_exchanges.nd (piA (K := K) iEnumT (pi_enumT (by rfl) T.g_enumerate (pa_cons (pe_ix (ixK (K := K) rIxT ix_tup rfl) (pv 0) pe_int (fun _ _ => rfl)) pa_nil)) rfl) (blkOk_by (N := N_all_exchanges) (sc := defScope s_all_exchanges) (own := [("wheel", 2), ("last", 3), ("edition", 1)]) (by decide +kernel)) (by decide) (fun _ _ _ _ _ => (pg_tupK (K := K) (n := 2) rfl rfl (pgs_cons (pg_name (i := 2) sc_all_exchanges.nd rfl (Or.inl rfl) (hf := Or.inr rfl)) (pgs_cons (pg_name (i := 3) sc_all_exchanges.nd rfl (Or.inl rfl) (hf := Or.inr rfl)) pgs_nil)) rfl rfl)) (fun _ _ _ _ _ => pts_nil) (fun _ _ _ _ _ => (pi_range2 (by rfl) T.g_range (pa_cons pe_int (pa_cons (pe_op op_add (pv 3) pe_int) pa_nil)))) (fun _ _ _ _ _ => (pg_name (i := 1) sc_all_exchanges.nd rfl (Or.inl rfl))) (fun _ _ _ _ _ => pts_nil) (fun _ _ _ _ _ => (pe_tup (pa_cons (pv 2) (pa_cons (pv 1) pa_nil))))) pa_nil)))), ?_⟩)
  · obtain ⟨v, k, rfl, _⟩ := h; rfl
  · obtain ⟨v, k, rfl, ⟨⟨a, e, t, g, b, rt, rg, rb, rfl, h1, h2, h3, h4, h5, h6, h7, h8⟩⟩, ok, q⟩ := h
    refine ⟨_, rfl, rixT_of (j := 1) h1 rfl rfl ⟨e, _, rfl, SqT.of h2, fun D hD => ?_⟩⟩
    refine drvE (xs := k.eds.map V.int) (fun i H' => Xn H H' ∧ ∃ acc, H' D = some (.lst acc) ∧ Rows H' acc (due k.eds i)) ⟨Xt.new hD, [], upd_same, Rows.nil⟩ (fun i H' _ hp => SqT.of (hp.1.tups _ _ h2)) (fun i x TT H' ex hp hTT => ?_) (fun H' hp => ?_)
    · obtain ⟨hx, acc, hD', hr2⟩ := hp
      obtain ⟨last, el, rfl⟩ : ∃ n, k.eds[i]? = some n ∧ V.int n = x := by
        rw [List.getElem?_map] at ex
        cases z : k.eds[i]? with
        | none => rw [z] at ex; cases ex
        | some n => rw [z] at ex; cases ex; exact ⟨n, rfl, rfl⟩
      have hi : i < k.eds.length := (List.getElem?_eq_some_iff.mp el).1
      have hl := ok.eds last (List.mem_of_getElem? el)
      have x1 : Xn H (upd H' TT (.tup [V.int ((i : Nat) : Int), V.int last])) := hx.trans (Xt.new hTT)
      have hDT : D ≠ TT := fun z => by rw [z, hTT] at hD'; cases hD'
      have eg : k.eds[i]?.getD 0 = last := by rw [el]; rfl
      refine ⟨TT, _, rfl, SqT.of upd_same, rfl, _, _, rfl, _, _, rfl, rfl, rfl, yes_of ⟨_, rfl, _, _, rfl, rfl, _, _, rfl, ⟨by omega, by omega, by omega, by omega⟩, ?_⟩⟩
      refine drvR (fun j H2 => Xn H H2 ∧ ∃ acc, H2 D = some (.lst acc) ∧ Rows H2 acc (due k.eds i ++ dueW i j)) ⟨x1, acc, by rw [upd_ne hDT]; exact hD', ?_⟩ (fun j H2 hj hp2 => ?_) (fun H2 hp2 => ?_)
      · rw [show dueW i 0 = [] from rfl, List.append_nil]
        exact hr2.mono (Tk.refl.new hTT)
      · obtain ⟨hx2, acc2, hD2, hr3⟩ := hp2
        refine ⟨rfl, yes_of ⟨_, rfl, _, rfl, by show 2 ≤ sizeLine; decide, fun p hp => ?_⟩⟩
        have hDp : D ≠ p := fun z => by rw [z, hp] at hD2; cases hD2
        have hD3 : upd H2 p (.tup [V.int ((i : Nat) : Int), V.int (1 + ((j : Nat) : Int))]) D = some (.lst acc2) := by rw [upd_ne hDp]; exact hD2
        have hle := due_len k.eds ok.eds i
        have hl12 := ok.len.2
        refine ⟨acc2, hD3, sz_lt (by rw [hr3.1, List.length_append, dueW_len]; omega), (hx2.trans (Xt.new hp)).young hD, _, upd_same, ?_⟩
        rw [dueW_succ, ← List.append_assoc]
        exact (hr3.mono ((Tk.refl.new hp).lst hD3)).snoc (by rw [upd_ne (Ne.symm hDp), upd_same]; rfl)
      · refine ⟨hp2.1, ?_⟩
        obtain ⟨acc2, hD2, hr3⟩ := hp2.2
        rw [due_succ, eg]
        have e3 : (last + 1 - 1).toNat = last.toNat := by rw [Int.add_sub_cancel]
        rw [e3] at hr3
        exact ⟨acc2, hD2, hr3⟩
    · obtain ⟨hx, acc, hD', hr2⟩ := hp
      rw [List.length_map] at hr2
      exact ⟨D, acc, rfl, .inl ⟨SqL.of hD', fun l hl => q _ l acc (hx.trans (Xt.new hl)) upd_same (hr2.mono (Tk.refl.new hl))⟩⟩


end K17
-- K17_f1
namespace K17
open PySem PySem.Spec PyProof.Rows L2 LC
variable [Tbl]
variable {P : Program} {w : World} {K : PySem.W.Frag} {mg : Str → Option Value} {base : Heap} {f c : Addr} {fd : FuncData} {Ts : List Addr} {TP : Addr}

theorem minE (i j : Int) : (if j < i then j else i) = min i j := by split <;> omega
theorem maxE (i j : Int) : (if j > i then j else i) = max i j := by split <;> omega
theorem two_eq (a b c d : Int) : decide ([a, b] = [c, d]) = (decide (a = c) && decide (b = d)) := by
  rw [← Bool.decide_and]; exact decide_eq_decide.mpr (by simp)

def sp_touch_phases : Sp := fun vs H Q _ => ∃ (v : V) (k : Clk) (i j : Int), vs = [v, .int i, .int j] ∧ ClkAt H v k ∧ k.Ok ∧ ∀ H' p, Xn H H' → H' p = some (.lst ((phs k.tch i j).map V.int)) → Q (.ref p) H'
theorem phs_len {k : Clk} (ok : k.Ok) {i j : Int} : (phs k.tch i j).length ≤ 1000 := by
  unfold phs; rw [List.length_map]; exact Nat.le_trans (List.length_filter_le _ _) ok.tchL
theorem ok_touch_phases (T : Txt mg) (F : FunC K "touch_phases" s_touch_phases f fd c) : FnOk P w K mg base CX0 1 f fd ["clock", "wheel", "other"] sp_touch_phases := by
  refine F.ok sc_touch_phases (fun vs H Q E h => ?_) (fun A outer s H vs Q E hr h => ⟨_, (pss_cons (ps_set (i := 3) sc_touch_phases.nd rfl (Or.inr rfl) (pe_tup (pa_cons (pe_callB (call_min2 rfl) (by rfl) T.g_min (by decide +kernel) (pa_cons (pv 1) (pa_cons (pv 2) pa_nil))) (pa_cons (pe_callB (call_max2 rfl) (by rfl) T.g_max (by decide +kernel) (pa_cons (pv 1) (pa_cons (pv 2) pa_nil))) pa_nil))))
    (pss_one (ps_ret (pe_lc (own := [("touch", 4)]) rfl sc_touch_phases.nd (piK (K := K) iTup (pi_tup (pe_ix (ixK (K := K) rIxT ix_tup rfl) (pv 0) pe_int (fun _ _ => rfl))) rfl) (blkOk_by (N := N_touch_phases) (sc := defScope s_touch_phases) (own := [("touch", 4)]) (by decide +kernel)) (fun _ _ _ _ _ => (pg_name (i := 4) sc_touch_phases.nd rfl (Or.inl rfl))) (fun _ _ _ _ _ => (pts_one (pt_cmpR (opK (K := K) rEqD (op_eqD hr.units) rfl) (pe_slice (slK (K := K) rSlA sl_tupA rfl) (pv 4) (po_some pe_int) po_none) (pv 3) (nomark _)))) (fun _ _ _ _ _ => (pe_ix (ixK (K := K) rIxT ix_tup rfl) (pv 4) pe_int (fun _ _ => rfl))))))), ?_⟩)
  · obtain ⟨v, k, i, j, rfl, _⟩ := h; rfl
  · obtain ⟨v, k, i, j, rfl, ⟨⟨ca, e, t, g, b, rt, rg, rb, rfl, h1, h2, h3, h4, h5, h6, h7, h8⟩⟩, ok, q⟩ := h
    refine ⟨_, rfl, _, rfl, _, _, rfl, ?_⟩
    refine ⟨_, rfl, _, rfl, _, _, rfl, ?_⟩
    rw [minE, maxE]
    refine ⟨by show 2 ≤ sizeLine; decide, fun pr hpr => ?_⟩
    have x0 : Xn H (upd H pr (.tup [V.int (min i j), V.int (max i j)])) := Xt.new hpr
    refine ⟨_, rfl, rixV 2 (x0.tups _ _ h1) rfl rfl ⟨t, rfl, ⟨_, SqT.of (x0.tups _ _ h3)⟩, fun D hD => ?_⟩⟩
    refine lc_tup (xs := rt) (fun n H' => Xn (upd H pr (.tup [V.int (min i j), V.int (max i j)])) H' ∧ H' D = some (.lst ((phs (k.tch.take n) i j).map V.int))) ⟨Xt.new hD, upd_same⟩ (fun n H' _ hp => SqT.of (hp.1.tups _ _ (x0.tups _ _ h3))) (fun n x H' ex hp => ?_) (fun H' hp => ?_)
    · obtain ⟨hx, hD'⟩ := hp
      obtain ⟨r, ns, rfl, e1, e2⟩ := h4.get ex
      obtain ⟨p, wi, oi, rfl, _⟩ := ok.tch ns (List.mem_of_getElem? e1)
      have e2 := (x0.trans hx).tups _ _ e2
      have hn : n < k.tch.length := (List.getElem?_eq_some_iff.mp e1).1
      have hpl : (phs (k.tch.take n) i j).length < sizeLine := sz_lt (by unfold phs; rw [List.length_map]; exact Nat.lt_of_le_of_lt (List.length_filter_le _ _) (by rw [List.length_take]; have := ok.tchL; omega))
      refine ⟨rfl, ⟨_, rfl, 1, rfl, sl_dropN (k := 1) e2 rfl (by decide) (by show 1 ≤ 3; decide) fun l hl => ⟨_, rfl, eqD_pair upd_same (upd_old (hx.tups _ _ upd_same) hl) ⟨_, rfl, ?_⟩⟩⟩⟩
      have hx1 := hx.trans (Xt.new (o := .tup (([p, wi, oi].drop 1).map V.int)) hl)
      have hD1 := upd_old (u := .tup (([p, wi, oi].drop 1).map V.int)) hD' hl
      have et : decide ([p, wi, oi].drop 1 = [min i j, max i j]) = (decide (wi = min i j) && decide (oi = max i j)) := two_eq _ _ _ _
      cases c1 : (decide (wi = min i j) && decide (oi = max i j)) with
      | true =>
        refine iteT ⟨_, rfl, rixC 0 (upd_old e2 hl) rfl rfl ⟨_, hD1, by rw [List.length_map]; exact hpl, hx1.young hD, ?_⟩⟩
        unfold phs
        rw [upd_same, filt_yes e1 (by rw [et, c1]), List.map_append, List.map_append]; rfl
      | false =>
        refine iteF ⟨hx1, ?_⟩
        unfold phs at hD1 ⊢
        rw [filt_no e1 (by rw [et, c1])]
        exact hD1
    · obtain ⟨hx, hD'⟩ := hp
      rw [h4.1, List.take_length] at hD'
      exact q H' D (x0.trans hx) hD'

def sp_first_from : Sp := fun vs H Q _ => ∃ (v : V) (k : Clk) (g : Addr) (gp : List Int) (low : Int), vs = [v, .ref g, .int low] ∧ ClkAt H v k ∧ k.Ok ∧ H g = some (.tup (gp.map V.int)) ∧ gp ≠ [] ∧ gp.length ≤ 1000 ∧ (∀ p ∈ gp, 0 ≤ p ∧ p < k.per) ∧ ∀ H' r, Xn H H' → GF k.per gp low r → Q (.int r) H'
theorem ok_first_from (T : Txt mg) (F : FunC K "first_from" s_first_from f fd c) : FnOk P w K mg base CX0 1 f fd ["clock", "phases", "low"] sp_first_from := by
  refine F.ok sc_first_from (fun vs H Q E h => ?_) (fun A outer s H vs Q E hr h => ⟨_, (pss_one (ps_ret (pe_op op_add (pv 2) (pe_callB (cr_min rfl) (by rfl) T.g_min (by decide +kernel) (pa_cons (pe_lc (own := [("phase", 3)]) rfl sc_first_from.nd (piK (K := K) iTup (pi_tup (pv 1)) rfl) (blkOk_by (N := N_first_from) (sc := defScope s_first_from) (own := [("phase", 3)]) (by decide +kernel)) (fun _ _ _ _ _ => (pg_name (i := 3) sc_first_from.nd rfl (Or.inl rfl))) (fun _ _ _ _ _ => pts_nil) (fun _ _ _ _ _ => (pe_op op_modN (pe_op op_sub (pv 3) (pv 2)) (pe_ix (ixK (K := K) rIxT ix_tup rfl) (pv 0) pe_int (fun _ _ => rfl))))) pa_nil))))), ?_⟩)
  · obtain ⟨v, k, g, gp, low, rfl, _⟩ := h; rfl
  · obtain ⟨v, k, g, gp, low, rfl, ⟨⟨ca, e, t, gg, b, rt, rg, rb, rfl, h1, h2, h3, h4, h5, h6, h7, h8⟩⟩, ok, hg, hne, hl, hgb, q⟩ := h
    have p0 := ok.per.1
    refine ⟨_, rfl, _, rfl, g, rfl, ⟨_, SqT.of hg⟩, fun D hD => ?_⟩
    refine lc_tup (xs := gp.map V.int) (fun n H' => Xn H H' ∧ H' D = some (.lst (((gp.take n).map fun p => (p - low) % k.per).map V.int))) ⟨Xt.new hD, upd_same⟩ (fun n H' _ hp => SqT.of (hp.1.tups _ _ hg)) (fun n x H' ex hp => ?_) (fun H' hp => ?_)
    · obtain ⟨hx, hD'⟩ := hp
      obtain ⟨p, ep, rfl⟩ := getI ex
      have hn : n < gp.length := (List.getElem?_eq_some_iff.mp ep).1
      refine ⟨rfl, yes_of ⟨_, rfl, _, rfl, _, _, rfl, rfl, _, rfl, rixV 0 (hx.tups _ _ h1) rfl rfl ⟨_, _, rfl, rfl, by omega, ?_⟩⟩⟩
      refine ⟨_, hD', sz_lt (by rw [List.length_map, List.length_map, List.length_take]; omega), hx.young hD, ?_⟩
      have ef : (p - low).fmod k.per = (p - low) % k.per := Int.fmod_eq_emod_of_nonneg _ (by omega)
      rw [upd_same, take_snocE ep]; simp [ef]
    · obtain ⟨hx, hD'⟩ := hp
      rw [List.length_map, List.take_length] at hD'
      refine ⟨D, _, rfl, SqL.of hD', by rw [List.length_map]; exact List.length_pos_iff.mpr hne, fun m hm hmin => ⟨_, _, rfl, rfl, ?_⟩⟩
      exact q H' _ hx (gf_min p0 hgb hm hmin)

def sp_first_gap : Sp := fun vs H Q _ => ∃ (v : V) (k : Clk) (i low : Int) (gp : List Int), vs = [v, .int i, .int low] ∧ ClkAt H v k ∧ k.Ok ∧ 0 ≤ i ∧ k.gps[i.toNat]? = some gp ∧ gp ≠ [] ∧ ∀ H' r, Xn H H' → GF k.per gp low r → Q (.int r) H'
theorem ok_first_gap (T : Txt mg) (C_first_from : Callee P w K mg base "first_from" 1 ["clock", "phases", "low"] sp_first_from) (F : FunC K "first_gap" s_first_gap f fd c) : FnOk P w K mg base CX0 2 f fd ["clock", "wheel", "low"] sp_first_gap := by
  refine F.ok sc_first_gap (fun vs H Q E h => ?_) (fun A outer s H vs Q E hr h => ⟨_, (pss_one (ps_ret (pe_callC C_first_from hr (by rfl) (pa_cons (pv 0) (pa_cons (pe_ix (ixK (K := K) rIxT ix_tup rfl) (pe_ix (ixK (K := K) rIxT ix_tup rfl) (pv 0) pe_int (fun _ _ => rfl)) (pv 1) (fun _ _ => rfl)) (pa_cons (pv 2) pa_nil)))))), ?_⟩)
  · obtain ⟨v, k, i, low, gp, rfl, _⟩ := h; rfl
  · obtain ⟨v, k, i, low, gp, rfl, hC, ok, i0, eg, hne, q⟩ := h
    obtain ⟨⟨ca, e, t, gg, b, rt, rg, rb, rfl, h1, h2, h3, h4, h5, h6, h7, h8⟩⟩ := id hC
    obtain ⟨gr, er, hgr⟩ := h6.2 _ gp eg
    have hi : i.toNat < k.eds.length := by rw [← ok.gpsN]; exact (List.getElem?_eq_some_iff.mp eg).1
    obtain ⟨g1, g2, g3, g4⟩ := ok.gps _ _ gp (List.getElem?_eq_getElem hi) eg
    refine ⟨_, rfl, _, rfl, rixV 3 h1 rfl rfl ⟨_, rfl, rixT_of (j := i.toNat) h5 (by omega) er ?_⟩⟩
    exact ⟨_, rfl, _, k, gr, gp, low, rfl, hC, ok, hgr, hne, g4, g2, q⟩

def sp_gap_behind : Sp := fun vs H Q _ => ∃ (v : V) (k : Clk) (i t : Int) (p : Addr) (gp ph : List Int), vs = [v, .int i, .ref p, .int t] ∧ ClkAt H v k ∧ k.Ok ∧ 0 ≤ i ∧ k.gps[i.toNat]? = some gp ∧ gp ≠ [] ∧ H p = some (.lst (ph.map V.int)) ∧ ph.length ≤ 1000 ∧ (∀ x ∈ ph, 0 ≤ x ∧ x < k.per) ∧ ∀ H' r b, Xn H H' → (ph = [] → b = t + 1) → (ph ≠ [] → BF k.per ph t b) → GF k.per gp b r → Q (.int r) H'
theorem ok_gap_behind (T : Txt mg) (C_first_gap : Callee P w K mg base "first_gap" 2 ["clock", "wheel", "low"] sp_first_gap) (F : FunC K "gap_behind" s_gap_behind f fd c) : FnOk P w K mg base CX0 3 f fd ["clock", "wheel", "phases", "tick"] sp_gap_behind := by
  refine F.ok sc_gap_behind (fun vs H Q E h => ?_) (fun A outer s H vs Q E hr h => ⟨_, (pss_cons (ps_set (i := 4) sc_gap_behind.nd rfl (Or.inl rfl) (pv 3))
    (pss_cons (ps_if (pt_truth (pv 2) (by intro _; rfl)) (pss_one (ps_set (i := 4) sc_gap_behind.nd rfl (Or.inl rfl) (pe_op op_sub (pe_op op_sub (pv 3) pe_int) (pe_callB (cr_min rfl) (by rfl) T.g_min (by decide +kernel) (pa_cons (pe_lc (own := [("phase", 5)]) rfl sc_gap_behind.nd (piK (K := K) iList (pi_list (pv 2)) rfl) (blkOk_by (N := N_gap_behind) (sc := defScope s_gap_behind) (own := [("phase", 5)]) (by decide +kernel)) (fun _ _ _ _ _ => (pg_name (i := 5) sc_gap_behind.nd rfl (Or.inl rfl))) (fun _ _ _ _ _ => pts_nil) (fun _ _ _ _ _ => (pe_op op_modN (pe_op op_sub (pe_op op_sub (pv 3) pe_int) (pv 5)) (pe_ix (ixK (K := K) rIxT ix_tup rfl) (pv 0) pe_int (fun _ _ => rfl))))) pa_nil))))) pss_nil)
    (pss_one (ps_ret (pe_callC C_first_gap hr (by rfl) (pa_cons (pv 0) (pa_cons (pv 1) (pa_cons (pe_op op_add (pv 4) pe_int) pa_nil)))))))), ?_⟩)
  · obtain ⟨v, k, i, t, p, gp, ph, rfl, _⟩ := h; rfl
  · obtain ⟨v, k, i, t, p, gp, ph, rfl, hC, ok, i0, eg, hne, hp, hl, hb, q⟩ := h
    obtain ⟨⟨ca, e, tt, gg, b, rt, rg, rb, rfl, h1, h2, h3, h4, h5, h6, h7, h8⟩⟩ := id hC
    have p0 := ok.per.1
    refine ⟨_, rfl, _, rfl, ?_⟩
    cases hph : ph with
    | nil =>
      rw [hph] at hp
      refine ⟨false, .inl ⟨_, SqL.of hp, rfl⟩, iteF ⟨_, rfl, _, rfl, _, rfl, _, _, rfl, rfl, ?_⟩⟩
      exact ⟨_, k, i, _, gp, rfl, hC, ok, i0, eg, hne, fun H' r x hr => q H' r (t + 1) x (fun _ => rfl) (fun z => absurd hph z) hr⟩
    | cons p1 ps =>
      have hne2 : ph ≠ [] := by rw [hph]; exact fun z => nomatch z
      refine ⟨true, .inl ⟨_, SqL.of hp, by rw [hph]; rfl⟩, iteT ?_⟩
      refine ⟨_, rfl, _, _, rfl, rfl, _, rfl, p, rfl, ⟨_, SqL.of hp⟩, fun D hD => ?_⟩
      refine lc_list (xs := ph.map V.int) (fun n H' => Xn H H' ∧ H' D = some (.lst (((ph.take n).map fun x => (t - 1 - x) % k.per).map V.int))) ⟨Xt.new hD, upd_same⟩ (fun n H' _ hp2 => SqL.of (hp2.1.keep p _ (fun z => z) (fun _ z => by cases z) hp)) (fun n x H' ex hp2 => ?_) (fun H' hp2 => ?_)
      · obtain ⟨hx, hD'⟩ := hp2
        obtain ⟨x, ep, rfl⟩ := getI ex
        have hn : n < ph.length := (List.getElem?_eq_some_iff.mp ep).1
        refine ⟨rfl, yes_of ⟨_, rfl, _, _, rfl, rfl, _, rfl, _, _, rfl, rfl, _, rfl, rixV 0 (hx.tups _ _ h1) rfl rfl ⟨_, _, rfl, rfl, by omega, ?_⟩⟩⟩
        refine ⟨_, hD', sz_lt (by rw [List.length_map, List.length_map, List.length_take]; omega), hx.young hD, ?_⟩
        have ef : (t - 1 - x).fmod k.per = (t - 1 - x) % k.per := Int.fmod_eq_emod_of_nonneg _ (by omega)
        rw [upd_same, take_snocE ep]; simp [ef]
      · obtain ⟨hx, hD'⟩ := hp2
        rw [List.length_map, List.take_length] at hD'
        refine ⟨D, _, rfl, SqL.of hD', by rw [List.length_map, hph]; exact Nat.succ_pos _, fun m hm hmin => ⟨_, _, rfl, rfl, ?_⟩⟩
        refine ⟨_, rfl, _, rfl, _, rfl, _, _, rfl, rfl, ?_⟩
        exact ⟨_, k, i, _, gp, rfl, hC.x hx, ok, i0, eg, hne, fun H2 r x hr => q H2 r _ (hx.trans x) (fun z => absurd z hne2) (fun _ => bf_min p0 hb hm hmin) hr⟩

theorem lean_gps {k : Clk} (ok : k.Ok) {i a j b : Int} (hl : IsLean k i a j b) : ∃ gp, k.gps[i.toNat]? = some gp ∧ gp ≠ [] := by
  have hi : i.toNat < k.eds.length := by have := hl.i0; omega
  obtain ⟨gp, eg⟩ : ∃ z, k.gps[i.toNat]? = some z := ⟨_, List.getElem?_eq_getElem (by rw [ok.gpsN]; exact hi)⟩
  obtain ⟨g1, _⟩ := ok.gps _ _ gp (List.getElem?_eq_getElem hi) eg
  refine ⟨gp, eg, g1 ?_⟩
  have := hl.a0
  rw [List.getElem?_eq_getElem hi] at this
  have : 1 ≤ a ∧ a ≤ k.eds[i.toNat] := this
  omega
theorem lean_pu {k : Clk} (ok : k.Ok) {i a j b t r d : Int} {gp : List Int} (hl : IsLean k i a j b) (eg : k.gps[i.toNat]? = some gp) (h1 : phs k.tch i j = [] → d = t + 1) (h2 : phs k.tch i j ≠ [] → BF k.per (phs k.tch i j) t d) (h3 : GF k.per gp d r) : PU k i j t r := by
  refine ⟨d, ?_, by rw [eg]; exact h3⟩
  rcases hl.st with ⟨e, _⟩ | ⟨e, h, _⟩
  · subst e; exact .inl ⟨rfl, h1 (phs_self ok j)⟩
  · exact .inr ⟨fun z => e z.symm, h2 h⟩

def sp_row_of_push : Sp := fun vs H Q _ => ∃ (v : V) (k : Clk) (u w : Addr) (i a j b : Int), vs = [v, .ref u, .ref w] ∧ ClkAt H v k ∧ k.Ok ∧ H u = some (.tup ([i, a].map V.int)) ∧ H w = some (.tup ([j, b].map V.int)) ∧ IsLean k i a j b ∧ ∀ (H' : Hp) (p : Addr) (rs : List Int), Xn H H' → H' p = some (.tup (rs.map V.int)) → rs.length = k.per.toNat → (∀ (t : Nat) r, rs[t]? = some r → PU k i j t r) → Q (.ref p) H'
theorem ok_row_of_push (T : Txt mg) (C_gap_behind : Callee P w K mg base "gap_behind" 3 ["clock", "wheel", "phases", "tick"] sp_gap_behind) (C_touch_phases : Callee P w K mg base "touch_phases" 1 ["clock", "wheel", "other"] sp_touch_phases) (F : FunC K "row_of_push" s_row_of_push f fd c) : FnOk P w K mg base CX0 4 f fd ["clock", "exchange", "other"] sp_row_of_push := by
  refine F.ok sc_row_of_push (fun vs H Q E h => ?_) (fun A outer s H vs Q E hr h => ⟨_, (pss_cons (ps_set (i := 3) sc_row_of_push.nd rfl (Or.inr rfl) (pe_callC C_touch_phases hr (by rfl) (pa_cons (pv 0) (pa_cons (pe_ix (ixK (K := K) rIxT ix_tup rfl) (pv 1) pe_int (fun _ _ => rfl)) (pa_cons (pe_ix (ixK (K := K) rIxT ix_tup rfl) (pv 2) pe_int (fun _ _ => rfl)) pa_nil)))))
    (pss_one (ps_ret (pe_callTy (crK (K := K) rTupQ cr_tuple rfl) (by rfl) T.g_tuple (by decide +kernel) (pa_cons (pe_lc (own := [("tick", 4)]) rfl sc_row_of_push.nd (pi_range1 (by rfl) T.g_range (pa_cons (pe_ix (ixK (K := K) rIxT ix_tup rfl) (pv 0) pe_int (fun _ _ => rfl)) pa_nil)) (blkOk_by (N := N_row_of_push) (sc := defScope s_row_of_push) (own := [("tick", 4)]) (by decide +kernel)) (fun _ _ _ _ _ => (pg_name (i := 4) sc_row_of_push.nd rfl (Or.inl rfl))) (fun _ _ _ _ _ => pts_nil) (fun _ _ _ _ _ => (pe_callC C_gap_behind hr (by rfl) (pa_cons (pv 0) (pa_cons (pe_ix (ixK (K := K) rIxT ix_tup rfl) (pv 1) pe_int (fun _ _ => rfl)) (pa_cons (pv 3) (pa_cons (pv 4) pa_nil))))))) pa_nil))))), ?_⟩)
  · obtain ⟨v, k, u, w, i, a, j, b, rfl, _⟩ := h; rfl
  · obtain ⟨v, k, u, w, i, a, j, b, rfl, hC, ok, hu, hw, hl, q⟩ := h
    obtain ⟨gp, eg, hne⟩ := lean_gps ok hl
    obtain ⟨⟨ca, e, tt, gg, bb, rt, rg, rb, rfl, h1, h2, h3, h4, h5, h6, h7, h8⟩⟩ := id hC
    have p0 := ok.per.1
    have p12 := ok.per.2
    refine ⟨_, rfl, _, rfl, rixC 0 hu rfl rfl ⟨_, rfl, rixC 0 hw rfl rfl ?_⟩⟩
    refine ⟨_, k, i, j, rfl, hC, ok, fun H1 p x1 hp => ?_⟩
    refine ⟨_, rfl, rixV 0 (x1.tups _ _ h1) rfl rfl ⟨_, rfl, by omega, by omega, fun D hD => ?_⟩⟩
    refine lc_range (n := k.per.toNat) (fun n H' => Xn H1 H' ∧ ∃ rs : List Int, H' D = some (.lst (rs.map V.int)) ∧ rs.length = n ∧ ∀ (t : Nat) r, rs[t]? = some r → PU k i j t r) ⟨Xt.new hD, [], upd_same, rfl, fun t r h => (nil_no h).elim⟩ (fun n H' hn hp2 => ?_) (fun H' hp2 => ?_)
    · obtain ⟨hx, rs, hD', hrl, hrs⟩ := hp2
      refine ⟨rfl, yes_of ⟨_, rfl, _, rfl, rixC 0 ((x1.trans hx).tups _ _ hu) rfl rfl ⟨_, rfl, _, rfl, ?_⟩⟩⟩
      refine ⟨_, k, i, _, p, gp, _, rfl, hC.x (x1.trans hx), ok, hl.i0.1, eg, hne, hx.keep p _ (fun z => z) (fun _ z => by cases z) hp, phs_len ok, phs_bd ok, fun H2 r d x2 f1 f2 f3 => ?_⟩
      have hD2 := x2.keep D _ (fun z => z) (fun _ z => by cases z) hD'
      refine ⟨_, hD2, sz_lt (by rw [List.length_map, hrl]; omega), (hx.trans x2).young hD, rs ++ [r], by rw [upd_same, List.map_append]; rfl, by rw [List.length_append, hrl]; rfl, fun t s hs => ?_⟩
      by_cases z : t < rs.length
      · rw [List.getElem?_append_left z] at hs; exact hrs t s hs
      · rw [List.getElem?_append_right (by omega)] at hs
        have z2 : t - rs.length = 0 := by have := (List.getElem?_eq_some_iff.mp hs).1; simp at this; omega
        rw [z2] at hs
        cases hs
        have et : t = n := by omega
        subst et
        have := lean_pu ok hl eg f1 f2 f3
        rw [Int.zero_add] at this
        exact this
    · obtain ⟨hx, rs, hD', hrl, hrs⟩ := hp2
      exact ⟨D, _, rfl, .inl ⟨SqL.of hD', fun l hl2 => q _ l rs ((x1.trans hx).trans (Xt.new hl2)) upd_same hrl hrs⟩⟩

end K17
-- K17_f2
namespace K17
open PySem PySem.Spec PyProof.Rows L2 LC
variable [Tbl]
variable {P : Program} {w : World} {K : PySem.W.Frag} {mg : Str → Option Value} {base : Heap} {f c : Addr} {fd : FuncData} {Ts : List Addr} {TP : Addr}

def sp_leant_on : Sp := fun vs H Q _ => ∃ (v : V) (k : Clk) (u : Addr) (i a : Int), vs = [v, .ref u] ∧ ClkAt H v k ∧ k.Ok ∧ H u = some (.tup ([i, a].map V.int)) ∧ 0 ≤ i ∧ i < k.eds.length ∧ ∀ H' p rs, H p = none → Xn H H' → H' p = some (.lst rs) → Rows H' rs (leanW k i a k.eds.length) → Q (.ref p) H'
theorem ok_leant_on (T : Txt mg) (C_touch_phases : Callee P w K mg base "touch_phases" 1 ["clock", "wheel", "other"] sp_touch_phases) (C_least_needed : Callee P w K mg base "least_needed" 1 ["clock", "wheel", "edition", "other"] sp_least_needed) (F : FunC K "leant_on" s_leant_on f fd c) : FnOk P w K mg base CX0 2 f fd ["clock", "exchange"] sp_leant_on := by
  refine F.ok sc_leant_on (fun vs H Q E h => ?_) (fun A outer s H vs Q E hr h => ⟨_, (pss_cons (ps_asg (pv 1) (pg_tup rfl (pgs_cons (pg_name (i := 4) sc_leant_on.nd rfl (Or.inl rfl)) (pgs_cons (pg_name (i := 5) sc_leant_on.nd rfl (Or.inl rfl)) pgs_nil))))
    (pss_cons (ps_set (i := 2) sc_leant_on.nd rfl (Or.inl rfl) (pe_lst pa_nil))
    (pss_cons (ps_for PassesOwn.never rfl (pi_range1 (by rfl) T.g_range (pa_cons (pe_callB (crK (K := K) rLenQ cr_len rfl) (by rfl) T.g_len (by decide +kernel) (pa_cons (pe_ix (ixK (K := K) rIxT ix_tup rfl) (pv 0) pe_int (fun _ _ => rfl)) pa_nil)) pa_nil)) (pg_name (i := 3) sc_leant_on.nd rfl (Or.inl rfl)) (pss_cons (ps_if (pt_cmpR op_eq (pv 3) (pv 4) (nomark _)) (pss_one (ps_set (i := 6) sc_leant_on.nd rfl (Or.inl rfl) (pe_op op_sub (pv 5) pe_int))) (pss_one (ps_if (pt_truth (pe_callC C_touch_phases hr (by rfl) (pa_cons (pv 0) (pa_cons (pv 4) (pa_cons (pv 3) pa_nil)))) (by intro _; rfl)) (pss_one (ps_set (i := 6) sc_leant_on.nd rfl (Or.inl rfl) (pe_callC C_least_needed hr (by rfl) (pa_cons (pv 0) (pa_cons (pv 4) (pa_cons (pv 5) (pa_cons (pv 3) pa_nil))))))) (pss_one (ps_set (i := 6) sc_leant_on.nd rfl (Or.inl rfl) pe_int)))))
    (pss_one (ps_if (pt_cmpR op_gt (pv 6) pe_int (nomark _)) (pss_one (ps_expr (pe_bm PySem.F.plainAttrs_list PySem.F.slot_list_append PySem.F.type_list_append mt_append (pv 2) (pa_cons (pe_tup (pa_cons (pv 3) (pa_cons (pv 6) pa_nil))) pa_nil)))) pss_nil))))
    (pss_one (ps_ret (pv 2)))))), ?_⟩)
  · obtain ⟨v, k, u, i, a, rfl, _⟩ := h; rfl
  · obtain ⟨v, k, u, i, a, rfl, hC, ok, hu, i0, i1, q⟩ := h
    obtain ⟨⟨ca, e, tt, gg, bb, rt, rg, rb, rfl, h1, h2, h3, h4, h5, h6, h7, h8⟩⟩ := id hC
    have l12 := ok.len.2
    refine ⟨_, rfl, u, _, rfl, SqT.of hu, rfl, _, _, rfl, _, _, rfl, rfl, ?_⟩
    refine ⟨by show 0 ≤ sizeLine; decide, fun L hL => ?_⟩
    refine ⟨_, rfl, rixV 1 (upd_old h1 hL) rfl rfl ⟨e, _, rfl, .inr (SqT.of (upd_old h2 hL)), _, rfl, by rw [List.length_map]; omega, by rw [List.length_map]; omega, ?_⟩⟩
    refine for_range (fun n σ H' => ∃ x3 x6, σ = [some (.ref ca), some (.ref u), some (.ref L), x3, some (.int i), some (.int a), x6] ∧ Xn H H' ∧ ∃ rs, H' L = some (.lst rs) ∧ Rows H' rs (leanW k i a n)) ⟨_, _, rfl, Xt.new hL, [], upd_same, Rows.nil⟩ (fun n σ H' hn hp => ?_) (fun σ H' hp => ?_)
    · obtain ⟨x3, x6, rfl, hx, rs, hLs, hrs⟩ := hp
      rw [List.length_map] at hn
      have hn : n < k.eds.length := by omega
      have hlen : rs.length < sizeLine := sz_lt (by rw [hrs.1]; have := leanW_len k i a n; omega)
      refine ⟨_, rfl, _, rfl, rfl, ?_⟩
      rw [deceq]
      refine ⟨_, rfl, ?_⟩
      -- what is appended
      have fin : ∀ (H2 : Hp) (m : Int) (x3 : Option V), Xn H' H2 → m = least k i a (n : Int) → 0 < m → ∀ p0, H2 p0 = none → ∃ y3 y6, ([some (.ref ca), some (.ref u), some (.ref L), some (.int (0 + (n : Int))), some (.int i), some (.int a), some (.int m)] : L2.St) = [some (.ref ca), some (.ref u), some (.ref L), y3, some (.int i), some (.int a), y6] ∧ Xn H (upd (upd H2 p0 (.tup [V.int (0 + (n : Int)), V.int m])) L (.lst (rs ++ [V.ref p0]))) ∧ ∃ rs', upd (upd H2 p0 (.tup [V.int (0 + (n : Int)), V.int m])) L (.lst (rs ++ [V.ref p0])) L = some (.lst rs') ∧ Rows (upd (upd H2 p0 (.tup [V.int (0 + (n : Int)), V.int m])) L (.lst (rs ++ [V.ref p0]))) rs' (leanW k i a (n + 1)) := fun H2 m x3 y em m0 p0 hp0 => by
        have hL2 := y.keep L _ (fun z => z) (fun _ z => by cases z) hLs
        have hL3 := upd_old (u := .tup [V.int (0 + (n : Int)), V.int m]) hL2 hp0
        refine ⟨_, _, rfl, ((hx.trans y).trans (Xt.new hp0)).young hL, _, upd_same, ?_⟩
        rw [leanW_succ]
        have e1 : lw1 k i a n = [[(n : Int), m]] := by unfold lw1; rw [← em, if_pos m0]
        rw [e1]
        exact ((hrs.x y).mono ((Tk.refl.new hp0).lst hL3)).snoc (by rw [upd_ne (Ne.symm (ne_none hL2 hp0)), upd_same, Int.zero_add]; rfl)
      have nofin : ∀ (H2 : Hp) (m : Int), Xn H' H2 → m = least k i a (n : Int) → ¬ 0 < m → ∃ y3 y6, ([some (.ref ca), some (.ref u), some (.ref L), some (.int (0 + (n : Int))), some (.int i), some (.int a), some (.int m)] : L2.St) = [some (.ref ca), some (.ref u), some (.ref L), y3, some (.int i), some (.int a), y6] ∧ Xn H H2 ∧ ∃ rs', H2 L = some (.lst rs') ∧ Rows H2 rs' (leanW k i a (n + 1)) := fun H2 m y em m0 => by
        refine ⟨_, _, rfl, hx.trans y, rs, y.keep L _ (fun z => z) (fun _ z => by cases z) hLs, ?_⟩
        rw [leanW_succ]
        have e1 : lw1 k i a n = [] := by unfold lw1; rw [← em, if_neg m0]
        rw [e1, List.append_nil]
        exact hrs.x y
      have e0 : (0 : Int) + (n : Int) = (n : Int) := Int.zero_add _
      by_cases c1 : (0 : Int) + (n : Int) = i
      · rw [decide_eq_true c1]
        have el : a - 1 = least k i a (n : Int) := by unfold least; rw [if_pos (by omega)]
        refine iteT ⟨_, rfl, _, _, rfl, rfl, _, rfl, _, _, rfl, rfl, _, rfl, ?_⟩
        by_cases c2 : a - 1 > 0
        · rw [decide_eq_true c2]
          refine iteT ⟨_, rfl, .inl ⟨rfl, _, SqL.of hLs⟩, _, rfl, _, rfl, by show 2 ≤ sizeLine; decide, fun p0 hp0 => ⟨L, rs, _, rfl, rfl, upd_old hLs hp0, hlen, ?_⟩⟩
          exact fin _ _ none Xt.refl el c2 p0 hp0
        · rw [decide_eq_false c2]
          exact iteF (nofin _ _ Xt.refl el c2)
      · rw [decide_eq_false c1]
        refine iteF ?_
        refine ⟨_, rfl, _, rfl, _, rfl, _, k, i, _, rfl, hC.x hx, ok, fun H2 pp y2 hpp => ?_⟩
        rw [e0] at hpp
        cases hph : phs k.tch i (n : Int) with
        | nil =>
          rw [hph] at hpp
          refine ⟨false, .inl ⟨_, SqL.of hpp, rfl⟩, iteF ⟨_, rfl, _, _, rfl, rfl, _, rfl, ?_⟩⟩
          have el : (0 : Int) = least k i a (n : Int) := by unfold least; rw [if_neg (by omega), if_pos hph]
          exact iteF (nofin _ _ y2 el (by decide))
        | cons p1 ps =>
          rw [hph] at hpp
          refine ⟨true, .inl ⟨_, SqL.of hpp, rfl⟩, iteT ?_⟩
          refine ⟨_, rfl, _, rfl, _, rfl, _, rfl, _, k, i, a, _, rfl, hC.x (hx.trans y2), ok, fun H3 m y3 l3 => ?_⟩
          rw [e0] at l3
          have em := l3.nd ok.bok
          have el : m = least k i a (n : Int) := by unfold least; rw [if_neg (by omega), if_neg (by rw [hph]; exact fun z => nomatch z)]; exact em
          clear em l3
          refine ⟨_, rfl, _, _, rfl, rfl, _, rfl, ?_⟩
          by_cases c2 : m > 0
          · rw [decide_eq_true c2]
            have y23 := y2.trans y3
            have hL3 := y23.keep L _ (fun z => z) (fun _ z => by cases z) hLs
            refine iteT ⟨_, rfl, .inl ⟨rfl, _, SqL.of hL3⟩, _, rfl, _, rfl, by show 2 ≤ sizeLine; decide, fun p0 hp0 => ⟨L, rs, _, rfl, rfl, upd_old hL3 hp0, hlen, ?_⟩⟩
            exact fin _ _ none y23 el c2 p0 hp0
          · rw [decide_eq_false c2]
            exact iteF (nofin _ _ (y2.trans y3) el c2)
    · obtain ⟨x3, x6, rfl, hx, rs, hLs, hrs⟩ := hp
      rw [List.length_map, Int.toNat_natCast] at hrs
      exact ⟨_, rfl, q H' L rs hL hx hLs hrs⟩

end K17
-- K17_f3
namespace K17
open PySem PySem.Spec PyProof.Rows L2 LC
variable [Tbl]
variable {P : Program} {w : World} {K : PySem.W.Frag} {mg : Str → Option Value} {base : Heap} {f c : Addr} {fd : FuncData} {Ts : List Addr} {TP : Addr}

def sp_leaning_pairs : Sp := fun vs H Q _ => ∃ (v : V) (k : Clk), vs = [v] ∧ ClkAt H v k ∧ k.Ok ∧ ∀ H' p rs, Xn H H' → H' p = some (.lst rs) → PPs H' rs (leans k) → Q (.ref p) H'
theorem ok_leaning_pairs (T : Txt mg) (C_all_exchanges : Callee P w K mg base "all_exchanges" 1 ["clock"] sp_all_exchanges) (C_leant_on : Callee P w K mg base "leant_on" 2 ["clock", "exchange"] sp_leant_on) (F : FunC K "leaning_pairs" s_leaning_pairs f fd c) : FnOk P w K mg base CX0 3 f fd ["clock"] sp_leaning_pairs := by
  refine F.ok sc_leaning_pairs (fun vs H Q E h => ?_) (fun A outer s H vs Q E hr h => ⟨_, (pss_one (ps_ret (pe_lc2 (vs1 := [2]) (own := [("exchange", 1), ("other", 2)]) rfl sc_leaning_pairs.nd (piK (K := K) iTup (pi_tup (pe_callC C_all_exchanges hr (by rfl) (pa_cons (pv 0) pa_nil))) rfl) (blkOk_by (N := N_leaning_pairs) (sc := defScope s_leaning_pairs) (own := [("exchange", 1), ("other", 2)]) (by decide +kernel)) (by decide) (fun _ _ _ _ _ => (pg_name (i := 1) sc_leaning_pairs.nd rfl (Or.inl rfl))) (fun _ _ _ _ _ => pts_nil) (fun _ _ _ _ _ => (piK (K := K) iList (pi_list (pe_callC C_leant_on hr (by rfl) (pa_cons (pv 0) (pa_cons (pv 1) pa_nil)))) rfl)) (fun _ _ _ _ _ => (pg_name (i := 2) sc_leaning_pairs.nd rfl (Or.inl rfl))) (fun _ _ _ _ _ => pts_nil) (fun _ _ _ _ _ => (pe_tup (pa_cons (pv 1) (pa_cons (pv 2) pa_nil))))))), ?_⟩)
  · obtain ⟨v, k, rfl, _⟩ := h; rfl
  · obtain ⟨v, k, rfl, hC, ok, q⟩ := h
    refine ⟨_, rfl, v, k, rfl, hC, ok, fun H1 ap rs x1 hap hrs => ?_⟩
    have l12 := ok.len.2
    have hlen := due_len k.eds ok.eds k.eds.length
    refine ⟨ap, rfl, ⟨_, SqT.of hap⟩, fun D hD => ?_⟩
    have pl : ∀ us : List (List Int), us.length ≤ 48 → (us.flatMap (LC.pairsOf k)).length ≤ 600 := fun us h => by
      have : ∀ us : List (List Int), (us.flatMap (LC.pairsOf k)).length ≤ 12 * us.length := fun us => by
        induction us with
        | nil => exact Nat.le_refl _
        | cons u us ih =>
          rw [List.flatMap_cons, List.length_append, List.length_cons]
          have : (LC.pairsOf k u).length ≤ k.eds.length := by unfold LC.pairsOf; rw [List.length_map]; exact leanW_len _ _ _ _
          omega
      have := this us
      omega
    refine drvT (xs := rs) (fun n H' => Xn H1 H' ∧ ∃ acc, H' D = some (.lst acc) ∧ PPs H' acc (((due k.eds k.eds.length).take n).flatMap (LC.pairsOf k))) ⟨Xt.new hD, [], upd_same, PPs.nil⟩ (fun n H' _ hp => SqT.of (hp.1.tups _ _ hap)) (fun n x H' ex hp => ?_) (fun H' hp => ?_)
    · obtain ⟨hx, acc, hD', hacc⟩ := hp
      obtain ⟨r, u, rfl, e1, e2⟩ := hrs.get ex
      have hn : n < (due k.eds k.eds.length).length := (List.getElem?_eq_some_iff.mp e1).1
      obtain ⟨i, a, rfl, hi, ha⟩ := mem_due (List.mem_of_getElem? e1)
      have e2' := hx.tups _ _ e2
      refine ⟨rfl, yes_of ⟨_, rfl, _, rfl, v, k, r, i, 1 + (a : Int), rfl, hC.x (x1.trans hx), ok, e2', by omega, by omega, fun H2 wp ws hw0 y2 hwp hws => ⟨wp, rfl, ⟨_, SqL.of hwp⟩, ?_⟩⟩⟩
      have hD2 := y2.keep D _ (fun z => z) (fun _ z => by cases z) hD'
      have hsum : ∀ m, (((due k.eds k.eds.length).take n).flatMap (LC.pairsOf k) ++ ((leanW k i (1 + (a : Int)) k.eds.length).take m).map fun w => ([(i : Int), 1 + (a : Int)], w)).length < 1000 := fun m => by
        have h1 := pl ((due k.eds k.eds.length).take n) (by rw [List.length_take]; omega)
        have h2 := leanW_len k i (1 + (a : Int)) k.eds.length
        rw [List.length_append, List.length_map, List.length_take]; omega
      have hDw : D ≠ wp := ne_none hD' hw0
      refine drvL (xs := ws) (fun m H3 => Xn H1 H3 ∧ H3 wp = some (.lst ws) ∧ Rows H3 ws (leanW k i (1 + (a : Int)) k.eds.length) ∧ ∃ acc, H3 D = some (.lst acc) ∧ PPs H3 acc (((due k.eds k.eds.length).take n).flatMap (LC.pairsOf k) ++ ((leanW k i (1 + (a : Int)) k.eds.length).take m).map fun w => ([(i : Int), 1 + (a : Int)], w))) ⟨hx.trans y2, hwp, hws, acc, hD2, by rw [List.take_zero, List.map_nil, List.append_nil]; exact hacc.x y2⟩ (fun m H3 _ hp => SqL.of hp.2.1) (fun m x H3 ex hp => ?_) (fun H3 hp => ?_)
      · obtain ⟨hx3, hw3, hws3, acc3, hD3, hacc3⟩ := hp
        obtain ⟨r2, w2, rfl, f1, f2⟩ := hws3.get ex
        refine ⟨rfl, yes_of ⟨_, rfl, _, rfl, by show 2 ≤ sizeLine; decide, fun p0 hp0 => ?_⟩⟩
        have hD4 := upd_old (u := .tup [V.ref r, V.ref r2]) hD3 hp0
        have tk := (Tk.refl.new (o := .tup [V.ref r, V.ref r2]) hp0).lst (o := .lst (acc3 ++ [V.ref p0])) hD4
        refine ⟨acc3, hD4, sz_lt (by rw [hacc3.1]; exact hsum m), (hx3.trans (Xt.new hp0)).young hD, by rw [upd_ne (Ne.symm hDw)]; exact upd_old hw3 hp0, hws3.mono tk, _, upd_same, ?_⟩
        rw [take_snocE f1, List.map_append, ← List.append_assoc]
        exact (hacc3.mono tk).snoc (by rw [upd_ne (Ne.symm (ne_none hD3 hp0)), upd_same]) (tk _ _ (hx3.tups _ _ e2)) (tk _ _ f2)
      · obtain ⟨hx3, hw3, hws3, acc3, hD3, hacc3⟩ := hp
        rw [hws3.1, List.take_length] at hacc3
        refine ⟨hx3, acc3, hD3, ?_⟩
        rw [take_snocE e1, List.flatMap_append, List.flatMap_singleton]
        exact hacc3
    · obtain ⟨hx, acc, hD', hacc⟩ := hp
      rw [hrs.1, List.take_length] at hacc
      exact q H' D acc (x1.trans hx) hD' hacc
end K17
-- K17_h1
namespace K17
open PySem PySem.Spec PyProof.Rows L2 LC
variable [Tbl]
variable {P : Program} {w : World} {K : PySem.W.Frag} {mg : Str → Option Value} {base : Heap} {f c : Addr} {fd : FuncData} {Ts : List Addr} {TP : Addr}

theorem whole1 (C : Callee P w K mg base "is_whole" 1 ["value"] (sp_is_whole K)) : Callee P w K mg base "is_whole" 1 ["value"] sb_whole := C.imp fun vs H Q E h => by
  obtain ⟨i, rfl, q⟩ := h
  exact ⟨_, rfl, kd_int, q⟩

abbrev BdR (r : List Int) : Prop := ∀ x ∈ r, -1000000000000000000000000000000 ≤ x ∧ x ≤ 1000000000000000000000000000000
def risB (r : List Int) : Bool := (r.zip (r.drop 1)).all fun p => decide (p.1 ≤ p.2)
def topB (r : List Int) : Bool := match r[0]?, r[r.length - 1]? with | some a, some b => decide (b ≤ a + (r.length : Int)) | _, _ => false
theorem SR.risB {r : List Int} (h : SR r) : risB r = true := by
  unfold K17.risB
  rw [List.all_eq_true]
  intro p hp
  obtain ⟨i, hi⟩ := List.mem_iff_getElem?.mp hp
  obtain ⟨e1, e2⟩ := List.getElem?_zip_eq_some.mp hi
  rw [List.getElem?_drop] at e2
  exact decide_eq_true (h.mono i p.1 p.2 e1 (by rw [Nat.add_comm]; exact e2))
theorem SR.topB {r : List Int} (h : SR r) : topB r = true := by
  have hl := h.len
  obtain ⟨a, ea⟩ : ∃ z, r[0]? = some z := ⟨_, List.getElem?_eq_getElem (by omega)⟩
  obtain ⟨b, eb⟩ : ∃ z, r[r.length - 1]? = some z := ⟨_, List.getElem?_eq_getElem (by omega)⟩
  unfold K17.topB
  rw [ea, eb]
  exact decide_eq_true (h.last a b ea eb)

def sp_stair_at : Sp := fun vs H Q _ => ∃ (a : Addr) (r : List Int) (t : Int), vs = [.ref a, .int t] ∧ H a = some (.tup (r.map V.int)) ∧ 1 ≤ r.length ∧ r.length ≤ 12 ∧ ∀ H', Xn H H' → Q (.int (sn r t)) H'
theorem ok_stair_at (T : Txt mg) (F : FunC K "stair_at" s_stair_at f fd c) : FnOk P w K mg base CX0 1 f fd ["row", "number"] sp_stair_at := by
  refine F.ok sc_stair_at (fun vs H Q E h => ?_) (fun A outer s H vs Q E hr h => ⟨_, (pss_cons (ps_asg (pe_callB call_divmod (by rfl) T.g_divmod (by decide +kernel) (pa_cons (pv 1) (pa_cons (pe_callB (crK (K := K) rLenQ cr_len rfl) (by rfl) T.g_len (by decide +kernel) (pa_cons (pv 0) pa_nil)) pa_nil))) (pg_tup rfl (pgs_cons (pg_name (i := 2) sc_stair_at.nd rfl (Or.inl rfl)) (pgs_cons (pg_name (i := 3) sc_stair_at.nd rfl (Or.inl rfl)) pgs_nil))))
    (pss_one (ps_ret (pe_op op_add (pe_ix (ixK (K := K) rIxT ix_tup rfl) (pv 0) (pv 3) (fun _ _ => rfl)) (pe_op op_mul (pv 2) (pe_callB (crK (K := K) rLenQ cr_len rfl) (by rfl) T.g_len (by decide +kernel) (pa_cons (pv 0) pa_nil))))))), ?_⟩)
  · obtain ⟨a, r, t, rfl, _⟩ := h; rfl
  · obtain ⟨a, r, t, rfl, ha, l1, l12, q⟩ := h
    have hb := Int.emod_nonneg t (show ((r.length : Nat) : Int) ≠ 0 by omega)
    have hb2 := Int.emod_lt_of_pos t (show (0 : Int) < r.length by omega)
    obtain ⟨x, hx⟩ : ∃ z, r[(t % (r.length : Int)).toNat]? = some z := ⟨_, List.getElem?_eq_getElem (by omega)⟩
    refine ⟨_, rfl, _, rfl, a, _, rfl, .inr (SqT.of ha), _, _, rfl, ⟨by rw [List.length_map]; omega, by rw [List.length_map]; omega⟩, fun p hp => ?_⟩
    rw [List.length_map]
    have x1 : Xn H (upd H p (.tup [.int (t / (r.length : Int)), .int (t % (r.length : Int))])) := Xt.new hp
    have ha1 := x1.tups _ _ ha
    refine ⟨p, _, rfl, SqT.of upd_same, rfl, _, _, rfl, _, _, rfl, rfl, ?_⟩
    refine ⟨_, rfl, _, rfl, rixI (t % (r.length : Int)).toNat ha1 (by omega) hx ⟨_, rfl, _, rfl, a, _, rfl, .inr (SqT.of ha1), _, _, rfl, rfl, .inr ⟨by rw [List.length_map]; omega, by rw [List.length_map]; omega⟩, _, _, rfl, rfl, ?_⟩⟩
    have := q _ x1
    unfold sn at this
    rw [hx] at this
    rw [List.length_map]
    exact this
end K17
-- K17_v1
namespace K17
open PySem PySem.Spec PyProof.Rows L2 LC
variable [Tbl]
variable {P : Program} {w : World} {K : PySem.W.Frag} {mg : Str → Option Value} {base : Heap} {f c : Addr} {fd : FuncData} {Ts : List Addr} {TP : Addr}

theorem due_nodup (k : Clk) : ∀ n, (due k.eds n).Nodup := fun n => by
  induction n with
  | zero => exact List.nodup_nil
  | succ n ih =>
    rw [due_succ, List.nodup_append]
    refine ⟨ih, ?_, fun a ha b hb => ?_⟩
    · unfold dueW
      rw [List.Nodup, List.pairwise_map]
      refine List.Pairwise.imp (fun {x y} h z => ?_) (List.pairwise_lt_range (n := (k.eds[n]?.getD 0).toNat))
      have : (1 + (x : Int)) = 1 + (y : Int) := by
        have := List.cons.inj z
        have := List.cons.inj this.2
        exact this.1
      omega
    · obtain ⟨i, a', rfl, hi, _⟩ := mem_due ha
      unfold dueW at hb
      obtain ⟨y, _, rfl⟩ := List.mem_map.mp hb
      intro z
      have := (List.cons.inj z).1
      omega

theorem nodup_map_inj {α β : Type} {g : α → β} {l : List α} (nd : (l.map g).Nodup) {a b : α} (ha : a ∈ l) (hb : b ∈ l) (e : g a = g b) : a = b := by
  obtain ⟨i, hi⟩ := List.mem_iff_getElem?.mp ha
  obtain ⟨j, hj⟩ := List.mem_iff_getElem?.mp hb
  have e1 : (l.map g)[i]? = some (g a) := by rw [List.getElem?_map, hi]; rfl
  have e2 : (l.map g)[j]? = some (g a) := by rw [List.getElem?_map, hj, e]; rfl
  have := (List.getElem?_inj (List.getElem?_eq_some_iff.mp e1).1 nd).mp (e1.trans e2.symm)
  subst this
  exact Option.some.inj (hi.symm.trans hj)
theorem tabC_len {k : Clk} (ls : List (List Int × List Int)) (x : List Int) : (tabC k ls x).length ≤ ls.length := by
  unfold tabC; rw [List.length_map]; exact List.length_filter_le _ _

def sp_push_table : Sp := fun vs H Q _ => ∃ (v : V) (k : Clk), vs = [v] ∧ ClkAt H v k ∧ k.Ok ∧ ∀ H' T, Xn H H' → TbAt H' T k → Q (.ref T) H'
theorem ok_push_table (T : Txt mg) (C_all_exchanges : Callee P w K mg base "all_exchanges" 1 ["clock"] sp_all_exchanges) (C_leaning_pairs : Callee P w K mg base "leaning_pairs" 3 ["clock"] sp_leaning_pairs) (C_row_of_push : Callee P w K mg base "row_of_push" 4 ["clock", "exchange", "other"] sp_row_of_push) (F : FunC K "push_table" s_push_table f fd c) : FnOk P w K mg base CX0 5 f fd ["clock"] sp_push_table := by
  refine F.ok sc_push_table (fun vs H Q E h => ?_) (fun A outer s H vs Q E hr h => ⟨_, (pss_cons (LC.ps_setDcT (i := 1) (own := [("exchange", 2)]) (Nat.lt_of_succ_lt (hu_of hr)) rfl sc_push_table.nd rfl rfl (LC.sw_trueD rfl rfl rfl (by decide +kernel)) (piK (K := K) iTup (pi_tup (pe_callC C_all_exchanges hr (by rfl) (pa_cons (pv 0) pa_nil))) rfl) (blkOk_by (N := N_push_table) (sc := defScope s_push_table) (own := [("exchange", 2)]) (by decide +kernel)) (fun _ _ _ _ _ => (pg_name (i := 2) sc_push_table.nd rfl (Or.inl rfl))) (fun _ _ _ _ _ => pts_nil) (fun _ _ _ _ _ => (pv 2)) (fun _ _ _ _ _ => (pe_lst pa_nil)))
    (pss_cons (ps_for PassesOwn.never rfl (piK (K := K) iList (pi_list (pe_callC C_leaning_pairs hr (by rfl) (pa_cons (pv 0) pa_nil))) rfl) (pg_tup rfl (pgs_cons (pg_name (i := 2) sc_push_table.nd rfl (Or.inl rfl)) (pgs_cons (pg_name (i := 3) sc_push_table.nd rfl (Or.inl rfl)) pgs_nil))) (pss_one (ps_expr (pe_bm PySem.F.plainAttrs_list PySem.F.slot_list_append PySem.F.type_list_append mt_append (pe_dget (hu_of hr) (pv 1) (pv 3) (fun _ _ => rfl)) (pa_cons (pe_tup (pa_cons (pv 2) (pa_cons (pe_callC C_row_of_push hr (by rfl) (pa_cons (pv 0) (pa_cons (pv 2) (pa_cons (pv 3) pa_nil)))) pa_nil))) pa_nil)))))
    (pss_one (ps_ret (pv 1))))), ?_⟩)
  · obtain ⟨v, k, rfl, _⟩ := h; rfl
  · obtain ⟨v, k, rfl, hC, ok, q⟩ := h
    have hdl := due_len k.eds ok.eds k.eds.length
    have hl12 := ok.len.2
    have hnd := due_nodup k k.eds.length
    refine ⟨_, rfl, v, k, rfl, hC, ok, fun H1 ap rs x1 hap hrs => ?_⟩
    refine ⟨ap, rfl, ⟨_, SqT.of hap⟩, fun D hD => ?_⟩
    refine drvT (xs := rs) (fun i H' => Xn H1 H' ∧ ∃ ps : List (List Int × V), H' D = some (.dT (dOf ps)) ∧ ps.map (·.1) = (due k.eds k.eds.length).take i ∧ (ps.map (·.2)).Nodup ∧ ∀ p ∈ ps, ∃ l, p.2 = V.ref l ∧ H' l = some (.lst []) ∧ H1 l = none) ⟨Xt.new hD, [], upd_same, rfl, List.nodup_nil, fun p h => nomatch h⟩ (fun i H' _ hp => SqT.of (hp.1.tups _ _ hap)) (fun i x H' ex hp => ?_) (fun H2 hp => ?_)
    · obtain ⟨hx, ps, hD', hks, hdn, hls⟩ := hp
      obtain ⟨b, u, rfl, e1, e2⟩ := hrs.get ex
      have hi : i < (due k.eds k.eds.length).length := (List.getElem?_eq_some_iff.mp e1).1
      have hpl : ps.length = i := by rw [← List.length_map (f := (·.1)), hks, List.length_take]; omega
      refine ⟨rfl, yes_of ⟨_, rfl, by show 0 ≤ sizeLine; decide, fun l hl => ?_⟩⟩
      have hx2 : Xn H1 (upd H' l (.lst [])) := hx.trans (Xt.new hl)
      have hD2 := upd_old (u := .lst []) hD' hl
      have hl0 : H1 l = none := hx.backN hl
      refine ⟨_, kI u, b, rfl, by rw [kI_kV]; exact hx2.tups _ _ e2, hD2, sz_lt (by rw [dOf_len, hpl]; omega), hx2.young hD, ps ++ [(u, V.ref l)], ?_, ?_, ?_, fun p hp => ?_⟩
      · rw [upd_same, put_new]
        rw [hks]
        intro hm
        obtain ⟨j, hj⟩ := List.mem_iff_getElem?.mp hm
        have hjl : j < i := by have := (List.getElem?_eq_some_iff.mp hj).1; rw [List.length_take] at this; omega
        rw [List.getElem?_take_of_lt hjl] at hj
        have := (List.getElem?_inj (List.getElem?_eq_some_iff.mp hj).1 hnd).mp (hj.trans e1.symm)
        omega
      · rw [List.map_append, hks, take_snocE e1]; rfl
      · rw [List.map_append, List.nodup_append]
        refine ⟨hdn, by simp, fun a ha b' hb' => ?_⟩
        rw [show [(u, V.ref l)].map (·.2) = [V.ref l] from rfl, List.mem_singleton] at hb'
        obtain ⟨p, hp, rfl⟩ := List.mem_map.mp ha
        obtain ⟨l', e3, e4, _⟩ := hls p hp
        rw [e3, hb']
        intro z
        cases z
        rw [hl] at e4; cases e4
      · rcases List.mem_append.mp hp with hp | hp
        · obtain ⟨l', e3, e4, e5⟩ := hls p hp
          refine ⟨l', e3, ?_, e5⟩
          have n1 : l' ≠ l := ne_none e4 hl
          have n2 : l' ≠ D := fun z => by rw [z, hD'] at e4; cases e4
          rw [upd_ne n2, upd_ne n1]; exact e4
        · rw [List.mem_singleton] at hp
          have n2 : l ≠ D := fun z => by rw [z, hD'] at hl; cases hl
          refine ⟨l, by rw [hp], ?_, hl0⟩
          rw [upd_ne n2]; exact upd_same
    obtain ⟨hx, ps, hD2, hks, hdn, hls⟩ := hp
    rw [hrs.1, List.take_length] at hks
    have hx2 := x1.trans hx
    -- the pairs
    refine ⟨_, rfl, v, k, rfl, hC.x hx2, ok, fun H3 lp ls x3 hlp hlsP => ?_⟩
    refine ⟨lp, rfl, ⟨_, SqL.of hlp⟩, ?_⟩
    have hks3 : H3 D = some (.dT (dOf ps)) := x3.keep D _ (fun z => z) (fun _ z => by cases z) hD2
    have hnl : ls ≠ [] → ∀ p ∈ ps, ∀ l, p.2 = V.ref l → l ≠ lp := fun hne p hp l e z => by
      obtain ⟨l', e3, e4, _⟩ := hls p hp
      rw [e] at e3; cases e3
      have := x3.keep l _ (fun z => z) (fun _ z => by cases z) e4
      rw [z, hlp] at this
      cases this
      exact hne rfl
    refine for_list (xs := ls) (fun n σ H' => ∃ x2 x3, σ = [some v, some (.ref D), x2, x3] ∧ Xn H H' ∧ H' lp = some (.lst ls) ∧ PPs H' ls (leans k) ∧ H' D = some (.dT (dOf ps)) ∧ ∀ p ∈ ps, ∃ l rs, p.2 = V.ref l ∧ H' l = some (.lst rs) ∧ PPs H' rs (tabC k ((leans k).take n) p.1) ∧ H l = none) ⟨_, _, rfl, hx2.trans x3, hlp, hlsP, hks3, fun p hp => ?_⟩ (fun n σ H' _ hp => ?_) (fun n x σ H' ex hp => ?_) (fun σ H' hp => ?_)
    · obtain ⟨l, e3, e4, e5⟩ := hls p hp
      exact ⟨l, [], e3, x3.keep l _ (fun z => z) (fun _ z => by cases z) e4, ⟨rfl, fun i p e => by simp [tabC] at e⟩, x1.backN e5⟩
    · obtain ⟨_, _, _, _, e, _⟩ := hp
      exact SqL.of e
    · obtain ⟨x2', x3', rfl, hxx, hlp', hPP, hD', hls'⟩ := hp
      obtain ⟨bb, u, wv, pp, rfl, f1, f2, f3, f4⟩ := hPP.get ex
      obtain ⟨i, a, j, b, rfl, hl⟩ := mem_leans ok (List.mem_of_getElem? f1)
      refine ⟨bb, _, rfl, SqT.of f2, rfl, _, _, rfl, _, _, rfl, rfl, ?_⟩
      have hw : [j, b] ∈ ps.map (·.1) := by
        rw [hks]
        have h1 := hl.j0
        have h2 := hl.b0
        have := due_mem (eds := k.eds) (n := k.eds.length) (i := j.toNat) (a := (b - 1).toNat) (by omega) (by omega)
        rw [Int.toNat_of_nonneg (by omega), Int.toNat_of_nonneg (by omega), show 1 + (b - 1) = b by omega] at this
        exact this
      obtain ⟨p, hp, ep⟩ := List.mem_map.mp hw
      obtain ⟨l, rs', e3, e4, e5, e6⟩ := hls' p hp
      have hv : valV (dOf ps) (kI [j, b]) = some p.2 := val_ps (by rw [hks]; exact hnd) (by rw [← ep]; exact hp)
      refine ⟨_, rfl, _, rfl, D, p.2, rfl, ?_, ?_⟩
      · rw [← hv]; exact DGet.t hD' (by rw [kI_kV]; exact f4)
      rw [e3]
      refine ⟨.inl ⟨rfl, _, SqL.of e4⟩, ?_⟩
      refine ⟨_, rfl, _, rfl, _, rfl, _, rfl, v, k, u, wv, i, a, j, b, rfl, hC.x hxx, ok, f3, f4, hl, fun H4 rp rr x4 hrp hrl hrr => ⟨by show 2 ≤ sizeLine; decide, fun T2 hT2 => ?_⟩⟩
      have hrow := rowC_of hrl hrr
      have x5 : Xn H' (upd H4 T2 (.tup [V.ref u, V.ref rp])) := x4.trans (Xt.new hT2)
      have hT5 : upd H4 T2 (.tup [V.ref u, V.ref rp]) T2 = some (.tup [V.ref u, V.ref rp]) := upd_same
      have hrp5 := upd_old (u := .tup [V.ref u, V.ref rp]) hrp hT2
      generalize upd H4 T2 (.tup [V.ref u, V.ref rp]) = H5 at x5 hT5 hrp5 ⊢
      have e45 := x5.keep l _ (fun z => z) (fun _ z => by cases z) e4
      have hlen : rs'.length ≤ 600 := by
        rw [e5.1]
        refine Nat.le_trans (tabC_len _ _) ?_
        rw [List.length_take]
        have := leans_len ok; omega
      refine ⟨l, rs', _, rfl, rfl, e45, sz_lt (by omega), ?_⟩
      have own : Xt (At1 l) H5 (upd H5 l (.lst (rs' ++ [V.ref T2]))) := Xt.own rfl e45
      have hnel : l ≠ lp := hnl (fun z => by rw [z] at ex; cases ex) p hp l e3
      have hnD : D ≠ l := fun z => by rw [← z, hD'] at e4; cases e4
      have hD5 := x5.keep D _ (fun z => z) (fun _ z => by cases z) hD'
      have hlp5 := x5.keep lp _ (fun z => z) (fun _ z => by cases z) hlp'
      refine ⟨_, _, rfl, (hxx.trans x5).young e6, own.keep lp _ (fun z => hnel z.symm) (fun _ z => by cases z) hlp5, (hPP.x x5).x own, own.keep D _ hnD (fun _ z => by cases z) hD5, fun p' hp' => ?_⟩
      by_cases hpp : p'.1 = [j, b]
      · obtain rfl : p' = p := nodup_map_inj (by rw [hks]; exact hnd) hp' hp (hpp.trans ep.symm)
        refine ⟨l, _, e3, upd_same, ?_, e6⟩
        rw [take_snocE f1, tabC_snoc, if_pos hpp.symm]
        refine ((e5.x x5).x own).snoc (own.tups _ _ hT5) (own.tups _ _ (x5.tups _ _ f3)) ?_
        show upd H5 l (.lst (rs' ++ [V.ref T2])) rp = some (.tup ((rowC k i j).map V.int))
        rw [← hrow]; exact own.tups _ _ hrp5
      · obtain ⟨l', rs2, g3, g4, g5, g6⟩ := hls' p' hp'
        have hne : l' ≠ l := fun z => hpp (by rw [nodup_map_inj hdn hp' hp (by rw [g3, e3, z]), ep])
        refine ⟨l', rs2, g3, own.keep l' _ hne (fun _ z => by cases z) (x5.keep l' _ (fun z => z) (fun _ z => by cases z) g4), ?_, g6⟩
        rw [take_snocE f1, tabC_snoc, if_neg (fun z => hpp z.symm), List.append_nil]
        exact (g5.x x5).x own
    · obtain ⟨x2', x3', rfl, hxx, _, _, hD', hls'⟩ := hp
      refine ⟨_, rfl, q H' D hxx ⟨ps, hD', hks, fun p hp => ?_⟩⟩
      obtain ⟨l, rs', e3, e4, e5, _⟩ := hls' p hp
      rw [hlsP.1, List.take_length] at e5
      exact ⟨l, rs', e3, e4, e5⟩

end K17
-- K17_v2
namespace K17
open PySem PySem.Spec PyProof.Rows L2 LC
variable [Tbl]
variable {P : Program} {w : World} {K : PySem.W.Frag} {mg : Str → Option Value} {base : Heap} {f c : Addr} {fd : FuncData} {Ts : List Addr} {TP : Addr}

theorem due_gps {k : Clk} (ok : k.Ok) {u : List Int} (h : u ∈ due k.eds k.eds.length) : ∃ (i : Nat) (a : Int) (gp : List Int), u = [(i : Int), a] ∧ k.gps[i]? = some gp ∧ gp ≠ [] := by
  obtain ⟨i, a, rfl, hi, ha⟩ := mem_due h
  obtain ⟨gp, eg⟩ : ∃ z, k.gps[i]? = some z := ⟨_, List.getElem?_eq_getElem (by rw [ok.gpsN]; exact hi)⟩
  obtain ⟨g1, _⟩ := ok.gps i _ gp (List.getElem?_eq_getElem hi) eg
  refine ⟨i, _, gp, rfl, eg, g1 ?_⟩
  rw [List.getElem?_eq_getElem hi] at ha
  have : a < (k.eds[i]).toNat := ha
  omega

def sp_pushed_pairs : Sp := fun vs H Q _ => ∃ (T p b : Addr) (k : Clk) (x : List Int) (t : Int), vs = [.ref T, .ref p] ∧ k.Ok ∧ TbAt H T k ∧ H p = some (.tup [.ref b, .int t]) ∧ H b = some (.tup (x.map V.int)) ∧ x ∈ due k.eds k.eds.length ∧ ∀ H' l rs, Xn H H' → H l = none → H' l = some (.lst rs) → Nps H' rs ((tabC k (leans k) x).map fun q => (q.1, sn q.2 t)) → Q (.ref l) H'
theorem ok_pushed_pairs (T : Txt mg) (C_stair_at : Callee P w K mg base "stair_at" 1 ["row", "number"] sp_stair_at) (F : FunC K "pushed_pairs" s_pushed_pairs f fd c) : FnOk P w K mg base CX0 2 f fd ["table", "pair"] sp_pushed_pairs := by
  refine F.ok sc_pushed_pairs (fun vs H Q E h => ?_) (fun A outer s H vs Q E hr h => ⟨_, (pss_cons (ps_asg (pv 1) (pg_tup rfl (pgs_cons (pg_name (i := 2) sc_pushed_pairs.nd rfl (Or.inl rfl)) (pgs_cons (pg_name (i := 3) sc_pushed_pairs.nd rfl (Or.inr rfl)) pgs_nil))))
    (pss_one (ps_ret (pe_lc (own := [("leaner", 4), ("row", 5)]) rfl sc_pushed_pairs.nd (piK (K := K) iList (pi_list (pe_dget (hu_of hr) (pv 0) (pv 2) (fun _ _ => rfl))) rfl) (blkOk_by (N := N_pushed_pairs) (sc := defScope s_pushed_pairs) (own := [("leaner", 4), ("row", 5)]) (by decide +kernel)) (fun _ _ _ _ _ => (pg_tupK (K := K) (n := 2) rfl rfl (pgs_cons (pg_name (i := 4) sc_pushed_pairs.nd rfl (Or.inl rfl) (hf := Or.inr rfl)) (pgs_cons (pg_name (i := 5) sc_pushed_pairs.nd rfl (Or.inl rfl) (hf := Or.inr rfl)) pgs_nil)) rfl rfl)) (fun _ _ _ _ _ => pts_nil) (fun _ _ _ _ _ => (pe_tup (pa_cons (pv 4) (pa_cons (pe_callC C_stair_at hr (by rfl) (pa_cons (pv 5) (pa_cons (pv 3) pa_nil))) pa_nil)))))))), ?_⟩)
  · obtain ⟨T, p, b, k, x, t, rfl, _⟩ := h; rfl
  · obtain ⟨T, p, b, k, x, t, rfl, ok, hT, hp, hb, hx, q⟩ := h
    obtain ⟨ps, e1, e2, e3⟩ := hT.ex
    have hnd := due_nodup k k.eds.length
    have hm : x ∈ ps.map (·.1) := by rw [e2]; exact hx
    obtain ⟨pr, hpr, epr⟩ := List.mem_map.mp hm
    obtain ⟨l, rs, g1, g2, g3⟩ := e3 pr hpr
    rw [epr] at g3
    have hv : valV (dOf ps) (kI x) = some pr.2 := val_ps (by rw [e2]; exact hnd) (by rw [← epr]; exact hpr)
    refine ⟨_, rfl, p, _, rfl, SqT.of hp, rfl, _, _, rfl, _, _, rfl, rfl, ?_⟩
    refine ⟨_, rfl, _, rfl, T, pr.2, rfl, by rw [← hv]; exact DGet.t e1 (by rw [kI_kV]; exact hb), l, g1, ⟨_, SqL.of g2⟩, fun D hD => ?_⟩
    have hlen : (tabC k (leans k) x).length ≤ 600 := Nat.le_trans (tabC_len _ _) (leans_len ok)
    have hps := ok.per
    refine drvL (xs := rs) (fun i H' => Xn H H' ∧ ∃ acc, H' D = some (.lst acc) ∧ Nps H' acc (((tabC k (leans k) x).take i).map fun q => (q.1, sn q.2 t))) ⟨Xt.new hD, [], upd_same, Nps.nil⟩ (fun i H' _ hp => SqL.of (hp.1.keep l _ (fun z => z) (fun _ z => by cases z) g2)) (fun i y H' ey hp => ?_) (fun H2 hp => ?_)
    · obtain ⟨hxx, acc, hD', hacc⟩ := hp
      obtain ⟨bb, u, r, pp, rfl, f1, f2, f3, f4⟩ := g3.get ey
      have hmem := List.mem_of_getElem? f1
      have hrl : pp.2.length = k.per.toNat := by
        unfold tabC at hmem
        obtain ⟨z, _, rfl⟩ := List.mem_map.mp hmem
        unfold rowC
        rw [List.length_map, List.length_range]
      refine ⟨bb, _, rfl, SqT.of (hxx.tups _ _ f2), rfl, _, _, rfl, _, _, rfl, rfl, rfl, yes_of ⟨_, rfl, _, rfl, _, rfl, r, pp.2, t, rfl, hxx.tups _ _ f4, by omega, by omega, fun H3 x3 => ⟨by show 2 ≤ sizeLine; decide, fun T2 hT2 => ?_⟩⟩⟩
      have hx3 := hxx.trans x3
      have hD3 := upd_old (u := .tup [V.ref u, V.int (sn pp.2 t)]) (x3.keep D _ (fun z => z) (fun _ z => by cases z) hD') hT2
      have hx4 := hx3.trans (Xt.new (o := .tup [V.ref u, V.int (sn pp.2 t)]) hT2)
      have xs : Xn H' (upd H3 T2 (.tup [V.ref u, V.int (sn pp.2 t)])) := x3.trans (Xt.new hT2)
      have hl : acc.length < 1000 := by rw [hacc.1, List.length_map, List.length_take]; omega
      refine ⟨acc, hD3, sz_lt hl, hx4.young hD, _, upd_same, ?_⟩
      have own : Xt (At1 D) (upd H3 T2 (.tup [V.ref u, V.int (sn pp.2 t)])) (upd (upd H3 T2 (.tup [V.ref u, V.int (sn pp.2 t)])) D (.lst (acc ++ [V.ref T2]))) := Xt.own rfl hD3
      rw [take_snocE f1, List.map_append]
      exact ((hacc.x xs).x own).snoc (own.tups _ _ upd_same) (own.tups _ _ (hx4.tups _ _ f3))
    · obtain ⟨hxx, acc, hD', hacc⟩ := hp
      rw [g3.1, List.take_length] at hacc
      exact q H2 D acc hxx hD hD' hacc

end K17
-- K17_v3
namespace K17
open PySem PySem.Spec PyProof.Rows L2 LC
variable [Tbl]
variable {P : Program} {w : World} {K : PySem.W.Frag} {mg : Str → Option Value} {base : Heap} {f c : Addr} {fd : FuncData} {Ts : List Addr} {TP : Addr}

def sp_lifted_numbers : Sp := fun vs H Q _ => ∃ (T F M : Addr) (lim : Int) (k : Clk) (ks : List (List Int)) (g : List Int → Int) (rs0 : List V), vs = [.ref T, .ref F, .ref M, .int lim] ∧ k.Ok ∧ TbAt H T k ∧ H F = some (.dT (dOf (nmb ks g))) ∧ ks.Nodup ∧ (∀ x ∈ ks, x ∈ due k.eds k.eds.length) ∧ H M = some (.lst rs0) ∧ Rows H rs0 ks ∧ mu ks lim g ≤ 1000000 ∧ ks.length ≤ 900 ∧
  (∀ x, ∀ p ∈ tabC k (leans k) x, ∀ s u : Int, s ≤ u → sn p.2 s ≤ sn p.2 u) ∧ (∀ H', Xn H H' → NoneLow k ks g lim → Q .non H') ∧ ∀ H' D N, Xn H H' → H' D = some (.dT (dOf (nmb ks N))) → LeastN k ks g N → Q (.ref D) H'
theorem ok_lifted_numbers (T : Txt mg) (C_pushed_pairs : Callee P w K mg base "pushed_pairs" 2 ["table", "pair"] sp_pushed_pairs) (F : FunC K "lifted_numbers" s_lifted_numbers f fd c) : FnOk P w K mg base CX0 3 f fd ["table", "firsts", "moved", "limit"] sp_lifted_numbers := by
  refine F.ok sc_lifted_numbers (fun vs H Q E h => ?_) (fun A outer s H vs Q E hr h => ⟨_, (pss_cons (ps_lock (LC.ps_setDcT (i := 4) (own := [("exchange", 6)]) (Nat.lt_of_succ_lt (hu_of hr)) rfl sc_lifted_numbers.nd rfl rfl (LC.sw_trueD rfl rfl rfl (by decide +kernel)) (pi_keys (pv 1)) (blkOk_by (N := N_lifted_numbers) (sc := defScope s_lifted_numbers) (own := [("exchange", 6)]) (by decide +kernel)) (fun _ _ _ _ _ => (pg_name (i := 6) sc_lifted_numbers.nd rfl (Or.inl rfl))) (fun _ _ _ _ _ => pts_nil) (fun _ _ _ _ _ => (pv 6)) (fun _ _ _ _ _ => (pe_dget (hu_of hr) (pv 1) (pv 6) (fun _ _ => rfl)))))
    (pss_cons (ps_while PassesOwn.never (pt_truth (pv 2) (by intro _; rfl)) (pss_cons (ps_set (i := 5) sc_lifted_numbers.nd rfl (Or.inl rfl) (pe_lst pa_nil))
    (pss_cons (ps_for PassesOwn.never rfl (piK (K := K) iList (pi_list (pv 2)) rfl) (pg_name (i := 6) sc_lifted_numbers.nd rfl (Or.inl rfl)) (pss_one (ps_for PassesOwn.never rfl (piK (K := K) iList (pi_list (pe_callC C_pushed_pairs hr (by rfl) (pa_cons (pv 0) (pa_cons (pe_tup (pa_cons (pv 6) (pa_cons (pe_dget (hu_of hr) (pv 4) (pv 6) (fun _ _ => rfl)) pa_nil))) pa_nil)))) rfl) (pg_tup rfl (pgs_cons (pg_name (i := 7) sc_lifted_numbers.nd rfl (Or.inl rfl)) (pgs_cons (pg_name (i := 8) sc_lifted_numbers.nd rfl (Or.inl rfl)) pgs_nil))) (pss_one (ps_if (PW.pt (pw_and (pt_cmp (pc_din (hu_of hr) (pv 7) (pv 4))) (pw_and1 (pt_cmpR op_gt (pv 8) (pe_dget (hu_of hr) (pv 4) (pv 7) (fun _ _ => rfl)) (nomark _))))) (pss_cons (ps_if (pt_cmpR op_ge (pv 8) (pv 3) (nomark _)) (pss_one (ps_ret pe_non)) pss_nil)
    (pss_cons (ps_dput (hu_of hr) (pv 4) (pv 7) (pv 8) rfl)
    (pss_one (ps_expr (pe_bm PySem.F.plainAttrs_list PySem.F.slot_list_append PySem.F.type_list_append mt_append (pv 5) (pa_cons (pv 7) pa_nil)))))) pss_nil)))))
    (pss_one (ps_set (i := 2) sc_lifted_numbers.nd rfl (Or.inl rfl) (pv 5))))))
    (pss_one (ps_ret (pv 4))))), ?_⟩)
  · obtain ⟨T, F, M, lim, k, ks, g, rs0, rfl, _⟩ := h; rfl
  · obtain ⟨Ta, F, M, lim, k, ks, g, rs0, rfl, ok, hT, hF, nd, hdue, hM, hrs0, hmu, hkl, mono, qn, qs⟩ := h
    refine ⟨F, _, hF, True.intro, fun od => ?_⟩
    refine ⟨_, rfl, F, od, rfl, .inr ⟨_, upd_same, fun D hD => ?_⟩⟩
    have nDF : D ≠ F := fun z => by rw [z, upd_same] at hD; cases hD
    refine drvK (ps := nmb ks g) (fun i H' => Xn (upd H F (.frz od (.dT (dOf (nmb ks g))))) H' ∧ H' D = some (.dT (dOf (nmb (ks.take i) g)))) ⟨Xt.new hD, upd_same⟩ (fun i H' _ hp => hp.1.keep F _ (fun z => z) (fun _ z => by cases z) upd_same) (fun i x v b H' ex hp hb => ?_) (fun H' hp => ?_)
    · obtain ⟨hx, hD'⟩ := hp
      unfold nmb at ex
      rw [List.getElem?_map] at ex
      cases ek : ks[i]? with
      | none => rw [ek] at ex; cases ex
      | some x' =>
        rw [ek] at ex
        cases ex
        have hi : i < ks.length := (List.getElem?_eq_some_iff.mp ek).1
        have hFf := hx.keep F _ (fun z => z) (fun _ z => by cases z) (upd_same (H := H) (o := .frz od (.dT (dOf (nmb ks g)))))
        refine ⟨rfl, yes_of ⟨_, rfl, _, rfl, _, rfl, F, _, rfl, .inr ⟨_, kI x, b, .inr ⟨od, hFf⟩, rfl, by rw [kI_kV]; exact hb, (nmb_val nd (List.mem_of_getElem? ek)).symm⟩, ?_⟩⟩
        refine ⟨_, kI x, b, rfl, by rw [kI_kV]; exact hb, hD', sz_lt (by rw [dOf_len, nmb_len, List.length_take]; omega), hx.young hD, ?_⟩
        rw [upd_same, put_new]
        · rw [take_snocE ek]
          unfold nmb
          rw [List.map_append]; rfl
        · rw [nmb_keys]
          intro hm
          obtain ⟨j, hj⟩ := List.mem_iff_getElem?.mp hm
          have hjl : j < i := by have := (List.getElem?_eq_some_iff.mp hj).1; rw [List.length_take] at this; omega
          rw [List.getElem?_take_of_lt hjl] at hj
          have := (List.getElem?_inj (List.getElem?_eq_some_iff.mp hj).1 nd).mp (hj.trans ek.symm)
          omega
    obtain ⟨hx, hD'⟩ := hp
    rw [nmb_len, List.take_length] at hD'
    refine ⟨hx.keep F _ (fun z => z) (fun _ z => by cases z) upd_same, ?_⟩
    have hx0 : Xn H (upd H' F (.dT (dOf (nmb ks g)))) := xn_unlock hF hx
    have hD0 : upd H' F (.dT (dOf (nmb ks g))) D = some (.dT (dOf (nmb ks g))) := (upd_ne nDF).trans hD'
    have hDn : H D = none := by rw [← hD]; exact (upd_ne nDF).symm
    generalize upd H' F (.dT (dOf (nmb ks g))) = G0 at hx0 hD0 ⊢
    clear hx hD' hD
    dsimp only
    refine while_cnt (fun m σ G => ∃ M' rs ms N x5 x6 x7 x8, σ = [some (.ref Ta), some (.ref F), some (.ref M'), some (.int lim), some (.ref D), x5, x6, x7, x8] ∧ Xn H G ∧ G M' = some (.lst rs) ∧ Rows G rs ms ∧ (∀ x ∈ ms, x ∈ ks) ∧ G D = some (.dT (dOf (nmb ks N))) ∧ LSt k ks g N ms ∧ mu ks lim N ≤ 1000000 ∧ m = 2 * mu ks lim N + (if ms = [] then 0 else 1))
      ⟨_, M, rs0, ks, g, _, _, _, _, rfl, hx0, hx0.keep M _ (fun z => z) (fun _ z => by cases z) hM, hrs0.x hx0, fun x hx => hx, hD0, LSt.start, hmu, rfl⟩ ?_
    rintro m σ G ⟨M', rs, ms, N, x5, x6, x7, x8, rfl, hx, hM', hrs, hms, hDG, hL, hmuN, rfl⟩
    refine ⟨_, rfl, _, .inl ⟨rs, SqL.of hM', rfl⟩, ?_⟩
    cases ms with
    | nil =>
      obtain rfl : rs = [] := List.eq_nil_of_length_eq_zero hrs.1
      exact iteF ⟨_, rfl, qs G D N hx hDG hL.fin⟩
    | cons x0 ms' =>
      have hne : (!rs.isEmpty) = true := by
        cases rs with
        | nil => exact nomatch hrs.1
        | cons _ _ => rfl
      rw [hne]
      refine iteT ⟨fun σ' G' => ∃ m', m' < 2 * mu ks lim N + (if x0 :: ms' = [] then 0 else 1) ∧ ∃ M' rs ms N x5 x6 x7 x8, σ' = [some (.ref Ta), some (.ref F), some (.ref M'), some (.int lim), some (.ref D), x5, x6, x7, x8] ∧ Xn H G' ∧ G' M' = some (.lst rs) ∧ Rows G' rs ms ∧ (∀ x ∈ ms, x ∈ ks) ∧ G' D = some (.dT (dOf (nmb ks N))) ∧ LSt k ks g N ms ∧ mu ks lim N ≤ 1000000 ∧ m' = 2 * mu ks lim N + (if ms = [] then 0 else 1), fun σ' G' z => z, ?_⟩
      rw [if_neg (List.cons_ne_nil _ _)]
      obtain ⟨ms, ems⟩ : ∃ ms, x0 :: ms' = ms := ⟨_, rfl⟩
      rw [ems] at hrs hms hL
      refine ⟨by show 0 ≤ sizeLine; decide, fun L hLn => ?_⟩
      have hL0 : H L = none := hx.backN hLn
      have nLM : M' ≠ L := ne_none hM' hLn
      have nLD : D ≠ L := ne_none hDG hLn
      refine ⟨_, rfl, M', rfl, ⟨_, SqL.of (upd_old hM' hLn)⟩, ?_⟩
      refine for_list (xs := rs) (fun i σ G' => ∃ N' ls lrs x6 x7 x8, σ = [some (.ref Ta), some (.ref F), some (.ref M'), some (.int lim), some (.ref D), some (.ref L), x6, x7, x8] ∧ Xn H G' ∧ G' M' = some (.lst rs) ∧ Rows G' rs ms ∧ G' L = some (.lst lrs) ∧ Rows G' lrs ls ∧ (∀ x ∈ ls, x ∈ ks) ∧ G' D = some (.dT (dOf (nmb ks N'))) ∧ LSt k ks g N' (ms.drop i ++ ls) ∧ ls.length + mu ks lim N' ≤ mu ks lim N)
        ⟨N, [], [], _, _, _, rfl, hx.trans (Xt.new hLn), upd_old hM' hLn, hrs.x (Xt.new (S := No) hLn), upd_same, Rows.nil, (fun x h => nomatch h), upd_old hDG hLn, by rw [List.drop_zero, List.append_nil]; exact hL, by show 0 + _ ≤ _; omega⟩ (fun i σ G' _ hp => ?_) (fun i v σ G' ev hp => ?_) (fun σ G' hp => ?_)
      · obtain ⟨_, _, _, _, _, _, _, _, e, _⟩ := hp
        exact SqL.of e
      · obtain ⟨N', ls, lrs, x6, x7, x8, rfl, hxG, hMG, hrsG, hLG, hlrs, hls, hDG', hLS, hcnt⟩ := hp
        obtain ⟨b, x, rfl, ex, hb⟩ := hrsG.get ev
        have hxk : x ∈ ks := hms x (List.mem_of_getElem? ex)
        have hdr : ms.drop i = x :: ms.drop (i + 1) := by
          have hi := (List.getElem?_eq_some_iff.mp ex).1
          rw [List.drop_eq_getElem_cons hi, (List.getElem?_eq_some_iff.mp ex).2]
        rw [hdr] at hLS
        refine ⟨_, rfl, _, rfl, _, rfl, _, rfl, D, _, rfl, nmb_get nd hxk hDG' hb, by show 2 ≤ sizeLine; decide, fun pt hpt => ?_⟩
        have xp : Xn G' (upd G' pt (.tup [V.ref b, V.int (N' x)])) := Xt.new hpt
        refine ⟨Ta, pt, b, k, x, N' x, rfl, ok, (hT.x hxG).x xp, upd_same, xp.tups _ _ hb, hdue x hxk, fun G2 pl prs xg hpl0 hpl hnp => ?_⟩
        have nplL : pl ≠ L := fun z => by rw [z] at hpl0; exact absurd (upd_old (u := .tup [V.ref b, V.int (N' x)]) hLG hpt) (by rw [hpl0]; exact fun z => by cases z)
        have nplD : pl ≠ D := fun z => by rw [z] at hpl0; exact absurd (upd_old (u := .tup [V.ref b, V.int (N' x)]) hDG' hpt) (by rw [hpl0]; exact fun z => by cases z)
        have xg := xp.trans xg
        clear xp hpl0
        refine ⟨pl, rfl, ⟨_, SqL.of hpl⟩, ?_⟩
        refine for_list (xs := prs) (fun j σ G3 => ∃ N2 ls2 lrs2 x7 x8, σ = [some (.ref Ta), some (.ref F), some (.ref M'), some (.int lim), some (.ref D), some (.ref L), some (.ref b), x7, x8] ∧ Xn H G3 ∧ G3 pl = some (.lst prs) ∧ Nps G3 prs ((tabC k (leans k) x).map fun q => (q.1, sn q.2 (N' x))) ∧ G3 M' = some (.lst rs) ∧ Rows G3 rs ms ∧ G3 L = some (.lst lrs2) ∧ Rows G3 lrs2 ls2 ∧ (∀ x ∈ ls2, x ∈ ks) ∧ G3 D = some (.dT (dOf (nmb ks N2))) ∧ LIn k ks g N2 x (N' x) j (ms.drop (i + 1)) ls2 ∧ ls2.length + mu ks lim N2 ≤ mu ks lim N)
          ⟨N', ls, lrs, _, _, rfl, hxG.trans xg, hpl, hnp, xg.keep M' _ (fun z => z) (fun _ z => by cases z) hMG, hrsG.x xg, xg.keep L _ (fun z => z) (fun _ z => by cases z) hLG, hlrs.x xg, hls, xg.keep D _ (fun z => z) (fun _ z => by cases z) hDG', LIn.start hLS, hcnt⟩ (fun j σ G3 _ hp => ?_) (fun j v σ G3 ev2 hp => ?_) (fun σ G3 hp => ?_)
        · obtain ⟨_, _, _, _, _, _, _, e, _⟩ := hp
          exact SqL.of e
        · obtain ⟨N2, ls2, lrs2, x7, x8, rfl, hx3, hpl3, hnp3, hM3, hrs3, hL3, hlrs3, hls3, hD3, hIn, hcnt3⟩ := hp
          obtain ⟨bb, cc, y, n, rfl, f1, f2, f3⟩ := hnp3.get ev2
          rw [List.getElem?_map] at f1
          cases et : (tabC k (leans k) x)[j]? with
          | none => rw [et] at f1; cases f1
          | some p =>
            rw [et] at f1
            cases f1
            refine ⟨bb, _, rfl, SqT.of f2, rfl, _, _, rfl, _, _, rfl, rfl, ?_⟩
            obtain ⟨o, ho, eo⟩ := nmb_in nd hD3 f3
            refine ⟨_, rfl, _, rfl, D, o, rfl, ho, _, rfl, ?_⟩
            rw [eo]
            by_cases hk : p.1 ∈ ks
            · rw [decide_eq_true hk]
              refine iteT ⟨_, rfl, _, rfl, _, rfl, D, _, rfl, nmb_get nd hk hD3 f3, _, _, rfl, rfl, _, rfl, ?_⟩
              by_cases hgt : sn p.2 (N' x) > N2 p.1
              · rw [decide_eq_true hgt]
                refine iteT ⟨_, rfl, _, rfl, _, _, rfl, rfl, _, rfl, ?_⟩
                by_cases hge : sn p.2 (N' x) ≥ lim
                · rw [decide_eq_true hge]
                  exact iteT (qn G3 hx3 (hIn.none (mono x) hxk et hk hge))
                · rw [decide_eq_false hge]
                  refine iteF ⟨_, rfl, _, rfl, _, rfl, D, _, rfl, DPut.t hD3 (by rw [kI_kV]; exact f3) (sz_lt (by rw [dOf_len, nmb_len]; omega)), ?_⟩
                  rw [nmb_put hk]
                  have own : Xt (At1 D) G3 (upd G3 D (.dT (dOf (nmb ks fun y => if y = p.1 then sn p.2 (N' x) else N2 y)))) := Xt.ownD rfl hD3
                  have hx4 : Xn H (upd G3 D (.dT (dOf (nmb ks fun y => if y = p.1 then sn p.2 (N' x) else N2 y)))) := hx3.young hDn
                  have hD4 : upd G3 D (.dT (dOf (nmb ks fun y => if y = p.1 then sn p.2 (N' x) else N2 y))) D = some (.dT (dOf (nmb ks (put1 N2 p.1 (sn p.2 (N' x)))))) := upd_same
                  generalize upd G3 D (.dT (dOf (nmb ks fun y => if y = p.1 then sn p.2 (N' x) else N2 y))) = G4 at own hx4 hD4 ⊢
                  have hL4 := own.keep L _ (fun z => nLD z.symm) (fun _ z => by cases z) hL3
                  have hpl4 := own.keep pl _ nplD (fun _ z => by cases z) hpl3
                  have hM4 := own.keep M' _ (fun z => by rw [show M' = D from z] at hM3; rw [hM3] at hD3; cases hD3) (fun _ z => by cases z) hM3
                  have hlen : lrs2.length < sizeLine := by rw [hlrs3.1, sizeLine_eq]; omega
                  refine ⟨_, rfl, .inl ⟨rfl, _, SqL.of hL4⟩, _, rfl, L, _, _, rfl, rfl, hL4, hlen, ?_⟩
                  have own2 : Xt (At1 L) G4 (upd G4 L (.lst (lrs2 ++ [V.ref cc]))) := Xt.own rfl hL4
                  have := mu_put (ks := ks) (lim := lim) (n := sn p.2 (N' x)) (N := N2) hk (by omega) (by omega)
                  refine ⟨put1 N2 p.1 (sn p.2 (N' x)), ls2 ++ [p.1], _, _, _, rfl, hx4.young hL0, own2.keep pl _ nplL (fun _ z => by cases z) hpl4, (hnp3.x own).x own2, own2.keep M' _ nLM (fun _ z => by cases z) hM4, (hrs3.x own).x own2, upd_same, ((hlrs3.x own).x own2).snoc (own2.tups _ _ (own.tups _ _ f3)), fun z hz => ?_, own2.keep D _ nLD (fun _ z => by cases z) hD4, hIn.lift (mono x) hxk et hk (by omega), by rw [List.length_append]; show ls2.length + 1 + _ ≤ _; omega⟩
                  rcases List.mem_append.mp hz with hz | hz
                  · exact hls3 z hz
                  · rw [List.mem_singleton] at hz; rw [hz]; exact hk
              · rw [decide_eq_false hgt]
                exact iteF ⟨N2, ls2, lrs2, _, _, rfl, hx3, hpl3, hnp3, hM3, hrs3, hL3, hlrs3, hls3, hD3, hIn.skip et fun _ => by omega, hcnt3⟩
            · rw [decide_eq_false hk]
              exact iteF (iteF ⟨N2, ls2, lrs2, _, _, rfl, hx3, hpl3, hnp3, hM3, hrs3, hL3, hlrs3, hls3, hD3, hIn.skip et fun z => absurd z hk, hcnt3⟩)
        · obtain ⟨N2, ls2, lrs2, x7, x8, rfl, hx3, hpl3, hnp3, hM3, hrs3, hL3, hlrs3, hls3, hD3, hIn, hcnt3⟩ := hp
          rw [hnp3.1, List.length_map] at hIn
          exact ⟨N2, ls2, lrs2, _, _, _, rfl, hx3, hM3, hrs3, hL3, hlrs3, hls3, hD3, hIn.stop, hcnt3⟩
      · obtain ⟨N', ls, lrs, x6, x7, x8, rfl, hxG, hMG, hrsG, hLG, hlrs, hls, hDG', hLS, hcnt⟩ := hp
        rw [hrsG.1, List.drop_length, List.nil_append] at hLS
        refine ⟨_, rfl, _, ?_, L, lrs, ls, N', _, _, _, _, rfl, hxG, hLG, hlrs, hls, hDG', hLS, by omega, rfl⟩
        cases ls with
        | nil => rw [if_pos rfl]; show 2 * mu ks lim N' + 0 < _; omega
        | cons y ys =>
          rw [if_neg (List.cons_ne_nil _ _)]
          rw [List.length_cons] at hcnt; omega

end K17
-- K17_v4
namespace K17
open PySem PySem.Spec PyProof.Rows L2 LC
variable [Tbl]
variable {P : Program} {w : World} {K : PySem.W.Frag} {mg : Str → Option Value} {base : Heap} {f c : Addr} {fd : FuncData} {Ts : List Addr} {TP : Addr}

theorem sum_le {B : Nat} {h : List Int → Nat} : ∀ {ks : List (List Int)}, (∀ x ∈ ks, h x ≤ B) → (ks.map h).sum ≤ B * ks.length
  | [], _ => Nat.zero_le _
  | x :: ks, hb => by
    have := sum_le (ks := ks) fun y hy => hb y (List.mem_cons_of_mem _ hy)
    have := hb x List.mem_cons_self
    rw [List.map_cons, List.sum_cons, List.length_cons, Nat.mul_succ]
    omega
theorem due_few {k : Clk} (ok : k.Ok) {ks : List (List Int)} (nd : ks.Nodup) (h : ∀ x ∈ ks, x ∈ due k.eds k.eds.length) : ks.length ≤ 48 := by
  have := nodup_le nd h
  have := due_len k.eds ok.eds k.eds.length
  have := ok.len.2
  omega

def sp_settled_by : Sp := fun vs H Q _ => ∃ (T F : Addr) (k : Clk) (ks : List (List Int)) (g : List Int → Int), vs = [.ref T, .int k.per, .ref F] ∧ k.Ok ∧ TbAt H T k ∧ H F = some (.dT (dOf (nmb ks g))) ∧ ks.Nodup ∧ (∀ x ∈ ks, x ∈ due k.eds k.eds.length) ∧ (∀ x ∈ ks, ∀ y ∈ ks, g y ≤ g x + 1000) ∧
  (∀ H', Xn H H' → (∀ h, Closed k ks h → ¬ Above ks g h) → Q .non H') ∧ ∀ H' D N, Xn H H' → H' D = some (.dT (dOf (nmb ks N))) → LeastN k ks g N → Q (.ref D) H'
theorem ok_settled_by (T : Txt mg) (C_lifted_numbers : Callee P w K mg base "lifted_numbers" 3 ["table", "firsts", "moved", "limit"] sp_lifted_numbers) (F : FunC K "settled_by" s_settled_by f fd c) : FnOk P w K mg base CX0 4 f fd ["table", "period", "firsts"] sp_settled_by := by
  refine F.ok sc_settled_by (fun vs H Q E h => ?_) (fun A outer s H vs Q E hr h => ⟨_, (pss_cons (ps_set (i := 3) sc_settled_by.nd rfl (Or.inl rfl) (pe_op op_add (pe_callBK (cr_maxDf rfl) (by rfl) T.g_max (by decide +kernel) (pa_cons (LC.pe_listVals rfl (by rfl) T.g_list (pv 2)) pa_nil) (pk_cons pe_int pk_nil)) (pe_op op_mul (pe_op op_mul pe_int (pv 1)) (pe_callB call_len_dT (by rfl) T.g_len (by decide +kernel) (pa_cons (pv 2) pa_nil)))))
    (pss_one (ps_ret (pe_callC C_lifted_numbers hr (by rfl) (pa_cons (pv 0) (pa_cons (pv 2) (pa_cons (pe_callTy (call_list_dT rfl) (by rfl) T.g_list (by decide +kernel) (pa_cons (pv 2) pa_nil)) (pa_cons (pv 3) pa_nil)))))))), ?_⟩)
  · obtain ⟨T, F, k, ks, g, rfl, _⟩ := h; rfl
  · obtain ⟨Ta, F, k, ks, g, rfl, ok, hT, hF, nd, hdue, hsp, qn, qs⟩ := h
    have hk48 := due_few ok nd hdue
    have hp := ok.per
    refine ⟨_, rfl, F, _, rfl, .inl hF, fun L hL => ?_⟩
    have ev : ((dOf (nmb ks g)).map (·.2)) = (ks.map g).map V.int := by
      unfold dOf nmb
      rw [List.map_map, List.map_map, List.map_map]; rfl
    rw [ev]
    refine ⟨L, ks.map g, 0, rfl, rfl, SqL.of upd_same, fun m hm0 hm1 => ?_⟩
    have x1 : Xn H (upd H L (.lst ((ks.map g).map V.int))) := Xt.new hL
    generalize upd H L (.lst ((ks.map g).map V.int)) = H1 at x1 ⊢
    have hF1 := x1.keep F _ (fun z => z) (fun _ z => by cases z) hF
    have hmx : ∀ x ∈ ks, g x ≤ m := fun x hx => (hm1 (fun z => by rw [List.map_eq_nil_iff] at z; rw [z] at hx; cases hx)).2 (g x) (List.mem_map.mpr ⟨x, hx, rfl⟩)
    refine ⟨_, rfl, _, _, rfl, rfl, ?_, _, rfl, F, _, rfl, hF1, _, _, rfl, rfl, ?_, _, _, rfl, rfl, ?_⟩
    · left; omega
    · left; omega
    rw [dOf_len, nmb_len]
    refine ⟨_, rfl, _, rfl, _, rfl, F, _, rfl, .inl hF1, fun M bs hM hbs => ⟨_, rfl, ?_⟩⟩
    have x2 : Xn H1 (upd H1 M (.lst (bs.map V.ref))) := Xt.new hM
    have hM2 : upd H1 M (.lst (bs.map V.ref)) M = _ := upd_same
    have hr2 := (keys_rows hbs).x x2
    rw [nmb_keys] at hr2
    generalize upd H1 M (.lst (bs.map V.ref)) = H2 at x2 hM2 hr2 ⊢
    have x12 := x1.trans x2
    refine ⟨Ta, F, M, _, k, ks, g, _, rfl, ok, hT.x x12, x12.keep F _ (fun z => z) (fun _ z => by cases z) hF, nd, hdue, hM2, hr2, ?_, by omega, tab_mono ok, fun H' x hn => qn H' (x12.trans x) (none_at_all ok hmx hn), fun H' D N x hD hl => qs H' D N (x12.trans x) hD hl⟩
    refine Nat.le_trans (sum_le (B := 2152) fun x hx => ?_) (by omega)
    obtain ⟨y, hy, ey⟩ := List.mem_map.mp (hm1 (fun z => by rw [List.map_eq_nil_iff] at z; rw [z] at hx; cases hx)).1
    have h1 := hsp x hx y hy
    have h2 : 2 * k.per * (ks.length : Int) ≤ 2 * 12 * (ks.length : Int) := Int.mul_le_mul_of_nonneg_right (by omega) (by omega)
    omega

def sp_rows_of (Ts : List Addr) : Sp := fun vs H Q _ => ∃ (v : V) (D : Addr) (k : Clk) (ks : List (List Int)) (N : List Int → Int), vs = [v, .ref D] ∧ ClkAt H v k ∧ k.Ok ∧ H D = some (.dT (dOf (nmb ks N))) ∧ ks.Nodup ∧ Tabs Ts H ∧ ∀ H' p rs, Xn H H' → H' p = some (.tup rs) → Rows H' rs (rowsN k ks N) → Q (.ref p) H'
theorem ok_rows_of (T : Txt mg) (TB : GxR.TabB base mg c TP) (hT : TP ∈ Ts) (C_all_exchanges : Callee P w K mg base "all_exchanges" 1 ["clock"] sp_all_exchanges) (F : FunC K "rows_of" s_rows_of f fd c) : FnOk P w K mg base CX0 5 f fd ["clock", "numbers"] (sp_rows_of Ts) := by
  refine F.ok sc_rows_of (fun vs H Q E h => ?_) (fun A outer s H vs Q E hr h => ⟨_, (pss_cons (ps_setLc (i := 2) (own := [("_", 4)]) rfl sc_rows_of.nd rfl rfl (sw_true rfl rfl rfl (by decide +kernel)) (piK (K := K) iTup (pi_tup (pe_ix (ixK (K := K) rIxT ix_tup rfl) (pv 0) pe_int (fun _ _ => rfl))) rfl) (blkOk_by (N := N_rows_of) (sc := defScope s_rows_of) (own := [("_", 4)]) (by decide +kernel)) (fun _ _ _ _ _ => (pg_name (i := 4) sc_rows_of.nd rfl (Or.inl rfl))) (fun _ _ _ _ _ => pts_nil) (fun _ _ _ _ _ => (pe_lst pa_nil)))
    (pss_cons (ps_for PassesOwn.never rfl (piK (K := K) iTup (pi_tup (pe_callC C_all_exchanges hr (by rfl) (pa_cons (pv 0) pa_nil))) rfl) (pg_name (i := 3) sc_rows_of.nd rfl (Or.inl rfl)) (pss_one (ps_if (pt_cmp (pc_din (hu_of hr) (pv 3) (pv 1))) (pss_one (ps_expr (pe_bm PySem.F.plainAttrs_list PySem.F.slot_list_append PySem.F.type_list_append mt_append (pe_ix (ixK (K := K) rIxL ix_list rfl) (pv 2) (pe_ix (ixK (K := K) rIxT ix_tup rfl) (pv 3) pe_int (fun _ _ => rfl)) (fun _ _ => rfl)) (pa_cons (pe_dget (hu_of hr) (pv 1) (pv 3) (fun _ _ => rfl)) pa_nil)))) pss_nil)))
    (pss_one (ps_ret (pe_tupG (own := [("ticks", 5)]) hr rfl sc_rows_of.nd (by rfl) T.g_tuple (by decide +kernel) TB rfl (piK (K := K) iList (pi_list (pv 2)) rfl) (gscp_by (N := N_rows_of) (sc := defScope s_rows_of) (own := [("ticks", 5)]) (by decide +kernel)) (fun _ _ _ _ _ _ => (pg_name (i := 5) sc_rows_of.nd rfl (Or.inl rfl))) (fun _ _ _ _ _ _ hr9 => pts_nil) (fun _ _ _ _ _ _ hr9 => (pe_callTy (crK (K := K) rTupQ cr_tuple rfl) (by rfl) T.g_tuple (by decide +kernel) (pa_cons (pv 5) pa_nil)))))))), ?_⟩)
  · obtain ⟨v, D, k, ks, N, rfl, _⟩ := h; rfl
  · obtain ⟨v, D, k, ks, N, rfl, hC, ok, hD, nd, hTs, q⟩ := h
    obtain ⟨⟨ca, e, tt, gg, b, rt, rg, rb, rfl, h1, h2, _⟩⟩ := id hC
    have hdl := due_len k.eds ok.eds k.eds.length
    have hl12 := ok.len.2
    refine ⟨_, rfl, rixV 1 h1 rfl rfl ⟨e, rfl, ⟨_, SqT.of h2⟩, fun R hR => ?_⟩⟩
    refine drvT (xs := k.eds.map V.int) (fun i H' => Xn H H' ∧ ∃ ls : List Addr, H' R = some (.lst (ls.map V.ref)) ∧ ls.length = i ∧ ls.Nodup ∧ ∀ l ∈ ls, H' l = some (.lst []) ∧ H l = none ∧ l ≠ R) ⟨Xt.new hR, [], upd_same, rfl, List.nodup_nil, fun l h => nomatch h⟩ (fun i H' _ hp => SqT.of (hp.1.tups _ _ h2)) (fun i x H' ex hp => ?_) (fun H2 hp => ?_)
    · obtain ⟨hx, ls, hR', hll, hnd, hls⟩ := hp
      have hi : i < k.eds.length := by have := (List.getElem?_eq_some_iff.mp ex).1; rw [List.length_map] at this; exact this
      refine ⟨rfl, yes_of ⟨by show 0 ≤ sizeLine; decide, fun l hl => ?_⟩⟩
      have hR2 := upd_old (u := .lst []) hR' hl
      refine ⟨_, hR2, sz_lt (by rw [List.length_map]; omega), (hx.trans (Xt.new hl)).young hR, ls ++ [l], by rw [upd_same, List.map_append]; rfl, by rw [List.length_append, hll]; rfl, ?_, fun l' hl' => ?_⟩
      · rw [List.nodup_append]
        refine ⟨hnd, by simp, fun a ha b' hb' => ?_⟩
        rw [List.mem_singleton] at hb'
        rw [hb']
        exact ne_none (hls a ha).1 hl
      · rcases List.mem_append.mp hl' with hl' | hl'
        · obtain ⟨g1, g2, g3⟩ := hls l' hl'
          have n1 : l' ≠ l := ne_none g1 hl
          exact ⟨by rw [upd_ne g3, upd_ne n1]; exact g1, g2, g3⟩
        · rw [List.mem_singleton] at hl'
          subst hl'
          have n1 : l' ≠ R := (ne_none hR' hl).symm
          exact ⟨by rw [upd_ne n1]; exact upd_same, hx.backN hl, n1⟩
    obtain ⟨hx2, ls, hR2, hll, hnd, hls⟩ := hp
    rw [List.length_map] at hll
    refine ⟨_, rfl, _, k, rfl, hC.x hx2, ok, fun H3 ap rs x3 hap hrs => ?_⟩
    refine ⟨ap, rfl, ⟨_, SqT.of hap⟩, ?_⟩
    refine for_tup (xs := rs) (fun m σ G => ∃ x3, σ = [some (.ref ca), some (.ref D), some (.ref R), x3, none, none] ∧ Xn H G ∧ G ap = some (.tup rs) ∧ Rows G rs (due k.eds k.eds.length) ∧ G R = some (.lst (ls.map V.ref)) ∧ ∀ i l, ls[i]? = some l → G l = some (.lst ((rowN k ks N ((due k.eds k.eds.length).take m) i).map V.int))) ⟨_, rfl, hx2.trans x3, hap, hrs, x3.keep R _ (fun z => z) (fun _ z => by cases z) hR2, fun i l el => ?_⟩ (fun m σ G _ hp => ?_) (fun m x σ G ex hp => ?_) (fun σ G hp => ?_)
    · exact x3.keep l _ (fun z => z) (fun _ z => by cases z) (hls l (List.mem_of_getElem? el)).1
    · obtain ⟨_, _, _, e, _⟩ := hp
      exact SqT.of e
    · obtain ⟨x3', rfl, hxG, hap', hrs', hRG, hLG⟩ := hp
      obtain ⟨b, u, rfl, e1, e2⟩ := hrs'.get ex
      obtain ⟨i, a, rfl, hi, ha⟩ := mem_due (List.mem_of_getElem? e1)
      have hDG := hxG.keep D _ (fun z => z) (fun _ z => by cases z) hD
      obtain ⟨o, ho, eo⟩ := nmb_in nd hDG e2
      obtain ⟨l, el⟩ : ∃ z, ls[i]? = some z := ⟨_, List.getElem?_eq_getElem (by omega)⟩
      have hl := hLG i l el
      obtain ⟨_, hl0, hlR⟩ := hls l (List.mem_of_getElem? el)
      have hlen : (rowN k ks N ((due k.eds k.eds.length).take m) i).length ≤ 48 := by
        refine Nat.le_trans rowN_len ?_
        rw [List.length_take]; omega
      refine ⟨_, rfl, _, rfl, D, o, rfl, ho, _, rfl, ?_⟩
      rw [eo]
      by_cases hk : [(i : Int), 1 + (a : Int)] ∈ ks
      · rw [decide_eq_true hk]
        refine iteT ⟨_, rfl, _, rfl, rixV 0 e2 rfl rfl (rixL i (SqL.of hRG) rfl (by rw [List.getElem?_map, el]; rfl) ?_)⟩
        refine ⟨.inl ⟨rfl, _, SqL.of hl⟩, _, rfl, _, rfl, D, _, rfl, nmb_get nd hk hDG e2, l, _, _, rfl, rfl, hl, sz_lt (by rw [List.length_map]; omega), ?_⟩
        have own : Xt (At1 l) G (upd G l (.lst ((rowN k ks N ((due k.eds k.eds.length).take m) i).map V.int ++ [V.int (N [(i : Int), 1 + (a : Int)])]))) := Xt.own rfl hl
        refine ⟨_, rfl, hxG.young hl0, own.tups _ _ hap', hrs'.x own, own.keep R _ (fun z => hlR z.symm) (fun _ z => by cases z) hRG, fun i' l' el' => ?_⟩
        rw [take_snocE e1, rowN_snoc]
        by_cases hii : i' = i
        · subst hii
          rw [el] at el'; cases el'
          rw [if_pos ⟨rfl, hk⟩, upd_same, List.map_append]; rfl
        · rw [if_neg (fun z => hii (by have z1 := z.1; have : ((i : Nat) : Int) = (i' : Int) := z1; omega)), List.append_nil]
          refine own.keep l' _ (fun z => ?_) (fun _ z => by cases z) (hLG i' l' el')
          rw [show l' = l from z] at el'
          exact hii ((List.getElem?_inj (List.getElem?_eq_some_iff.mp el').1 hnd).mp (el'.trans el.symm))
      · rw [decide_eq_false hk]
        refine iteF ⟨_, rfl, hxG, hap', hrs', hRG, fun i' l' el' => ?_⟩
        rw [take_snocE e1, rowN_snoc, if_neg (fun z => hk z.2), List.append_nil]
        exact hLG i' l' el'
    · obtain ⟨x3', rfl, hxG, hap', hrs', hRG, hLG⟩ := hp
      rw [hrs'.1, List.take_length] at hLG
      have hTG := hTs.x hxG
      refine ⟨_, rfl, R, rfl, ⟨_, SqL.of hRG⟩, hTG _ hT, fun H4 htb => ?_⟩
      have x4 := Xt.tabbed (S := No) (hTG _ hT) htb
      refine tupG_lst (xs := ls.map V.ref) (fun m zs H' => Xn G H' ∧ Rows H' zs ((rowsN k ks N).take m)) ⟨x4, Rows.nil⟩ (fun m zs H' _ hp => SqL.of (hp.1.keep R _ (fun z => z) (fun _ z => by cases z) hRG)) (fun m x zs H' ex hp => ?_) (fun zs H' hp => ?_)
      · obtain ⟨hxx, hzs⟩ := hp
        rw [List.getElem?_map] at ex
        cases el : ls[m]? with
        | none => rw [el] at ex; cases ex
        | some l =>
          rw [el] at ex
          cases ex
          have hm : m < k.eds.length := by have := (List.getElem?_eq_some_iff.mp el).1; omega
          have hl := hxx.keep l _ (fun z => z) (fun _ z => by cases z) (hLG m l el)
          refine ⟨rfl, yes_of ⟨_, rfl, l, _, rfl, .inl ⟨SqL.of hl, fun p hp => ⟨sz_lt (by rw [hzs.1, List.length_take]; omega), hxx.trans (Xt.new hp), ?_⟩⟩⟩⟩
          have er : (rowsN k ks N)[m]? = some (rowN k ks N (due k.eds k.eds.length) m) := by
            unfold rowsN
            rw [List.getElem?_map, List.getElem?_range hm]; rfl
          rw [take_snocE er]
          exact (hzs.x (Xt.new (S := No) hp)).snoc upd_same
      · obtain ⟨hxx, hzs⟩ := hp
        have en : (ls.map V.ref).length = (rowsN k ks N).length := by unfold rowsN; rw [List.length_map, List.length_map, List.length_range, hll]
        rw [en, List.take_length] at hzs
        refine ⟨?_, fun p hp => q _ p zs ((hxG.trans hxx).trans (Xt.new hp)) upd_same (hzs.x (Xt.new (S := No) hp))⟩
        rw [hzs.1, ← en, List.length_map, sizeLine_eq]; omega
end K17
-- K17_y1
namespace K17
open PySem PySem.Spec PyProof.Rows L2 LC
variable [Tbl]
variable {P : Program} {w : World} {K : PySem.W.Frag} {mg : Str → Option Value} {base : Heap} {f c : Addr} {fd : FuncData} {Ts : List Addr} {TP : Addr}

def sp_is_standing : Sp := fun vs H Q _ => ∃ (v : V) (k : Clk) (s : Addr) (st : List Int), vs = [v, .ref s] ∧ ClkAt H v k ∧ k.Ok ∧ H s = some (.tup (st.map V.int)) ∧ StOk k st ∧ ∀ H', Xn H H' → Q (.bl true) H'
theorem ok_is_standing (T : Txt mg) (C_is_tuple_of : Callee P w K mg base "is_tuple_of" 1 ["value", "many"] sb_tuple_of) (C_is_between : Callee P w K mg base "is_between" 2 ["value", "low", "high"] sb_between) (F : FunC K "is_standing" s_is_standing f fd c) : FnOk P w K mg base CX0 3 f fd ["clock", "value"] sp_is_standing := by
  refine F.ok sc_is_standing (fun vs H Q E h => ?_) (fun A outer s H vs Q E hr h => ⟨_, (pss_cons (ps_if (pt_not (pt_val (pe_callC C_is_tuple_of hr (by rfl) (pa_cons (pv 1) (pa_cons (pe_callB (crK (K := K) rLenQ cr_len rfl) (by rfl) T.g_len (by decide +kernel) (pa_cons (pe_ix (ixK (K := K) rIxT ix_tup rfl) (pv 0) pe_int (fun _ _ => rfl)) pa_nil)) pa_nil))))) (pss_one (ps_ret pe_bl)) pss_nil)
    (pss_one (ps_ret (pe_callB (crK (K := K) rAll (cr_all rfl) rfl) (by rfl) T.g_all (by decide +kernel) (pa_cons (pe_lc (own := [("edition", 2), ("last", 3)]) rfl sc_is_standing.nd (piA (K := K) RZ.iZipA (RZ.pi_zipA (by rfl) T.g_zip (pa_cons (pv 1) (pa_cons (pe_ix (ixK (K := K) rIxT ix_tup rfl) (pv 0) pe_int (fun _ _ => rfl)) pa_nil))) rfl) (blkOk_by (N := N_is_standing) (sc := defScope s_is_standing) (own := [("edition", 2), ("last", 3)]) (by decide +kernel)) (fun _ _ _ _ _ => (pg_tupK (K := K) (n := 2) rfl rfl (pgs_cons (pg_name (i := 2) sc_is_standing.nd rfl (Or.inl rfl) (hf := Or.inr rfl)) (pgs_cons (pg_name (i := 3) sc_is_standing.nd rfl (Or.inl rfl) (hf := Or.inr rfl)) pgs_nil)) rfl rfl)) (fun _ _ _ _ _ => pts_nil) (fun _ _ _ _ _ => (pe_callC C_is_between hr (by rfl) (pa_cons (pv 2) (pa_cons pe_int (pa_cons (pv 3) pa_nil)))))) pa_nil))))), ?_⟩)
  · obtain ⟨v, k, s, st, rfl, _⟩ := h; rfl
  · obtain ⟨v, k, sa, st, rfl, hC, ok, hs, so, q⟩ := h
    obtain ⟨⟨ca, e, t, g, b, rt, rg, rb, rfl, h1, h2, h3, h4, h5, h6, h7, h8⟩⟩ := id hC
    refine ⟨_, rfl, _, rfl, rixV 1 h1 rfl rfl ⟨e, _, rfl, .inr (SqT.of h2), ?_⟩⟩
    refine ⟨sa, _, _, rfl, hs, by rw [List.length_map, List.length_map, so.len], true, rfl, iteF ?_⟩
    refine ⟨_, rfl, _, rfl, rixV 1 h1 rfl rfl ⟨sa, e, _, _, rfl, .inr ⟨SqT.of hs, SqT.of h2, fun D hD => ?_⟩⟩⟩
    refine lc_zipT (xs := st.map V.int) (ys := k.eds.map V.int) (by rw [List.length_map, List.length_map, so.len]) (fun i H' => Xn H H' ∧ H' D = some (.lst ((List.replicate i true).map V.bl))) ⟨Xt.new hD, upd_same⟩ (fun i H' _ hp => ⟨SqT.of (hp.1.tups _ _ hs), SqT.of (hp.1.tups _ _ h2)⟩) (fun i x y TT H' ex ey hp hTT => ?_) (fun H' hp => ?_)
    · obtain ⟨hx, hD'⟩ := hp
      obtain ⟨s1, es, rfl⟩ := getI ex
      obtain ⟨e1, ee, rfl⟩ := getI ey
      have hb := so.bd i s1 e1 es ee
      have hi := (List.getElem?_eq_some_iff.mp es).1
      have hl := ok.len.2
      have hD2 := upd_old (u := .tup [V.int s1, V.int e1]) hD' hTT
      refine ⟨TT, _, rfl, SqT.of upd_same, rfl, _, _, rfl, _, _, rfl, rfl, rfl, yes_of ⟨_, rfl, _, rfl, s1, 0, e1, rfl, hb.1, hb.2, ?_⟩⟩
      refine ⟨_, hD2, sz_lt (by rw [List.length_map, List.length_replicate]; rw [so.len] at hi; omega), (hx.trans (Xt.new hTT)).young hD, ?_⟩
      rw [upd_same, List.replicate_succ', List.map_append]; rfl
    · obtain ⟨hx, hD'⟩ := hp
      refine ⟨D, _, rfl, SqL.of hD', ?_⟩
      exact bl_of (Q := Q) (by rw [List.all_eq_true]; intro b hb; rw [List.eq_of_mem_replicate hb]; rfl) (q H' hx)

def sp_undone : Sp := fun vs H Q _ => ∃ (v : V) (k : Clk) (s : Addr) (st : List Int), vs = [v, .ref s] ∧ ClkAt H v k ∧ k.Ok ∧ H s = some (.tup (st.map V.int)) ∧ StOk k st ∧ ∀ H' l rs, Xn H H' → H l = none → H' l = some (.lst rs) → Rows H' rs (und k st) → Q (.ref l) H'
theorem ok_undone (T : Txt mg) (C_all_exchanges : Callee P w K mg base "all_exchanges" 1 ["clock"] sp_all_exchanges) (F : FunC K "undone" s_undone f fd c) : FnOk P w K mg base CX0 2 f fd ["clock", "standing"] sp_undone := by
  refine F.ok sc_undone (fun vs H Q E h => ?_) (fun A outer s H vs Q E hr h => ⟨_, (pss_one (ps_ret (pe_lc (own := [("exchange", 2)]) rfl sc_undone.nd (piK (K := K) iTup (pi_tup (pe_callC C_all_exchanges hr (by rfl) (pa_cons (pv 0) pa_nil))) rfl) (blkOk_by (N := N_undone) (sc := defScope s_undone) (own := [("exchange", 2)]) (by decide +kernel)) (fun _ _ _ _ _ => (pg_name (i := 2) sc_undone.nd rfl (Or.inl rfl))) (fun _ _ _ _ _ => (pts_one (pt_cmpR op_gt (pe_ix (ixK (K := K) rIxT ix_tup rfl) (pv 2) pe_int (fun _ _ => rfl)) (pe_ix (ixK (K := K) rIxT ix_tup rfl) (pv 1) (pe_ix (ixK (K := K) rIxT ix_tup rfl) (pv 2) pe_int (fun _ _ => rfl)) (fun _ _ => rfl)) (nomark _)))) (fun _ _ _ _ _ => (pv 2))))), ?_⟩)
  · obtain ⟨v, k, s, st, rfl, _⟩ := h; rfl
  · obtain ⟨v, k, sa, st, rfl, hC, ok, hs, so, q⟩ := h
    refine ⟨_, rfl, v, k, rfl, hC, ok, fun H1 ap rs x1 hap hrs => ?_⟩
    have hdl := dueA_len ok
    refine ⟨ap, rfl, ⟨_, SqT.of hap⟩, fun D hD => ?_⟩
    refine drvT (xs := rs) (fun n H' => Xn H1 H' ∧ ∃ acc, H' D = some (.lst acc) ∧ Rows H' acc (((dueA k).take n).filter fun x => decide (sg st (x[0]?.getD 0) < x[1]?.getD 0))) ⟨Xt.new hD, [], upd_same, Rows.nil⟩ (fun n H' _ hp => SqT.of (hp.1.tups _ _ hap)) (fun n x H' ex hp => ?_) (fun H' hp => ?_)
    · obtain ⟨hx, acc, hD', hacc⟩ := hp
      obtain ⟨r, u, rfl, e1, e2⟩ := hrs.get ex
      obtain ⟨i, a, rfl, i0, a0⟩ := due_is (List.mem_of_getElem? e1)
      have e2 := hx.tups _ _ e2
      have hs' := hx.tups _ _ (x1.tups _ _ hs)
      have hn := (List.getElem?_eq_some_iff.mp e1).1
      have esi : (st.map V.int)[i.toNat]? = some (.int (sg st i)) := by
        have := List.getElem?_eq_getElem (show i.toNat < st.length by rw [so.len]; omega)
        unfold sg
        rw [List.getElem?_map, this]; rfl
      refine ⟨rfl, ⟨_, rfl, rixV 1 e2 rfl rfl ⟨_, rfl, _, rfl, rixV 0 e2 rfl rfl (rixT_of (j := i.toNat) hs' (by omega) esi ⟨_, _, rfl, rfl, _, rfl, ?_⟩)⟩⟩⟩
      by_cases z : a > sg st i
      · rw [decide_eq_true z]
        refine iteT ⟨_, rfl, acc, hD', sz_lt ?_, hx.young hD, acc ++ [V.ref r], upd_same, ?_⟩
        · rw [hacc.1]
          refine Nat.lt_of_le_of_lt (List.length_filter_le _ _) ?_
          rw [List.length_take]; omega
        · rw [filt_yes e1 (show decide (sg st i < a) = true from decide_eq_true z)]
          have own : Xt (At1 D) H' (upd H' D (.lst (acc ++ [V.ref r]))) := Xt.own rfl hD'
          exact (hacc.x own).snoc (own.tups _ _ e2)
      · rw [decide_eq_false z]
        refine iteF ⟨hx, acc, hD', ?_⟩
        rw [filt_no e1 (show decide (sg st i < a) = false from decide_eq_false z)]
        exact hacc
    · obtain ⟨hx, acc, hD', hacc⟩ := hp
      rw [hrs.1, List.take_length] at hacc
      exact q H' D acc (x1.trans hx) (x1.backN hD) hD' hacc

def sp_check_standing : Sp := fun vs H Q _ => ∃ (v : V) (k : Clk) (s : Addr) (st : List Int), vs = [v, .ref s] ∧ ClkAt H v k ∧ k.Ok ∧ H s = some (.tup (st.map V.int)) ∧ StOk k st ∧ ∀ H', Xn H H' → Q .non H'
theorem ok_check_standing (T : Txt mg) (C_is_standing : Callee P w K mg base "is_standing" 3 ["clock", "value"] sp_is_standing) (F : FunC K "check_standing" s_check_standing f fd c) : FnOk P w K mg base CX0 4 f fd ["clock", "standing"] sp_check_standing := by
  refine F.ok sc_check_standing (fun vs H Q E h => ?_) (fun A outer s H vs Q E hr h => ⟨_, (pss_one (ps_if (pt_not (pt_val (pe_callC C_is_standing hr (by rfl) (pa_cons (pv 0) (pa_cons (pv 1) pa_nil))))) (pss_one ps_never) pss_nil)), ?_⟩)
  · obtain ⟨v, k, s, st, rfl, _⟩ := h; rfl
  · obtain ⟨v, k, sa, st, rfl, hC, ok, hs, so, q⟩ := h
    exact ⟨_, rfl, _, rfl, v, k, sa, st, rfl, hC, ok, hs, so, fun H' x => ⟨true, rfl, iteF (q H' x)⟩⟩

def sp_check_moment (Ts : List Addr) : Sp := fun vs H Q _ => ∃ (v : V) (k : Clk) (t : Int) (s : Addr) (st : List Int), vs = [v, .int t, .ref s] ∧ ClkAt H v k ∧ k.Ok ∧ 0 ≤ t ∧ t ≤ 1000000000000000000000000000000 ∧ H s = some (.tup (st.map V.int)) ∧ StOk k st ∧ Tabs Ts H ∧ ∀ H', Xn H H' → Q .non H'
theorem ok_check_moment (T : Txt mg) (C_check_clock : Callee P w K mg base "check_clock" 8 ["clock"] (sp_check_clock Ts)) (C_check_tick : Callee P w K mg base "check_tick" 3 ["tick", "least"] sp_check_tick) (C_check_standing : Callee P w K mg base "check_standing" 4 ["clock", "standing"] sp_check_standing) (F : FunC K "check_moment" s_check_moment f fd c) : FnOk P w K mg base CX0 9 f fd ["clock", "tick", "standing"] (sp_check_moment Ts) := by
  refine F.ok sc_check_moment (fun vs H Q E h => ?_) (fun A outer s H vs Q E hr h => ⟨_, (pss_cons (ps_expr (pe_callC C_check_clock hr (by rfl) (pa_cons (pv 0) pa_nil)))
    (pss_cons (ps_expr (pe_callC C_check_tick hr (by rfl) (pa_cons (pv 1) (pa_cons pe_int pa_nil))))
    (pss_one (ps_expr (pe_callC C_check_standing hr (by rfl) (pa_cons (pv 0) (pa_cons (pv 2) pa_nil))))))), ?_⟩)
  · obtain ⟨v, k, t, s, st, rfl, _⟩ := h; rfl
  · obtain ⟨v, k, t, sa, st, rfl, hC, ok, t0, t1, hs, so, hTs, q⟩ := h
    refine ⟨_, rfl, v, k, rfl, hC, ok, hTs, fun H1 x1 => ?_⟩
    refine ⟨_, rfl, t, 0, rfl, t0, t1, ?_⟩
    exact ⟨_, rfl, _, rfl, v, k, sa, st, rfl, hC.x x1, ok, x1.tups _ _ hs, so, fun H' x => q H' (x1.trans x)⟩

theorem set_cat {st : List Int} {i : Nat} {x : Int} (h : i < st.length) : ((st.map V.int).take i ++ [V.int x]) ++ (st.map V.int).drop (i + 1) = (st.set i x).map V.int := by
  rw [List.set_eq_take_append_cons_drop, if_pos h, List.map_append, List.map_cons, List.map_take, List.map_drop, List.append_assoc]; rfl

def sp_raised : Sp := fun vs H Q _ => ∃ (sa : Addr) (st : List Int) (i : Nat), vs = [.ref sa, .int i] ∧ H sa = some (.tup (st.map V.int)) ∧ i < st.length ∧ st.length ≤ 100 ∧ ∀ H' p, Xn H H' → H' p = some (.tup ((st.set i (sg st i + 1)).map V.int)) → Q (.ref p) H'
theorem ok_raised (T : Txt mg) (F : FunC K "raised" s_raised f fd c) : FnOk P w K mg base CX0 1 f fd ["standing", "wheel"] sp_raised := by
  refine F.ok sc_raised (fun vs H Q E h => ?_) (fun A outer s H vs Q E hr h => ⟨_, (pss_one (ps_ret (pe_op (opK (K := K) rCatA op_catA rfl) (pe_op (opK (K := K) rCatA op_catA rfl) (pe_slice (slK (K := K) rSlA sl_tupA rfl) (pv 0) po_none (po_some (pv 1))) (pe_tup (pa_cons (pe_op op_add (pe_ix (ixK (K := K) rIxT ix_tup rfl) (pv 0) (pv 1) (fun _ _ => rfl)) pe_int) pa_nil))) (pe_slice (slK (K := K) rSlA sl_tupA rfl) (pv 0) (po_some (pe_op op_add (pv 1) pe_int)) po_none)))), ?_⟩)
  · obtain ⟨sa, st, i, rfl, _⟩ := h; rfl
  · obtain ⟨sa, st, i, rfl, hs, hi, hl, q⟩ := h
    have esi : (st.map V.int)[i]? = some (.int (sg st i)) := by
      have := List.getElem?_eq_getElem hi
      unfold sg
      rw [List.getElem?_map, Int.toNat_natCast, this]; rfl
    refine ⟨_, rfl, _, rfl, _, rfl, LX.sl_to (k := i) hs (by rw [List.length_map]; omega) fun H1 p1 x1 e1 => ?_⟩
    refine ⟨_, rfl, _, rfl, rixT_of (j := i) (x1.tups _ _ hs) rfl esi ⟨_, _, rfl, rfl, by show 1 ≤ sizeLine; decide, fun p2 hp2 => ?_⟩⟩
    have x2 := x1.trans (Xt.new (S := No) (o := .tup [V.int (sg st i + 1)]) hp2)
    refine LX.catA (upd_old e1 hp2) upd_same (by rw [List.length_take, List.length_map]; show min i st.length + 1 ≤ 1000; omega) fun H3 p3 x3 e3 => ?_
    have x23 := x2.trans x3
    refine ⟨_, rfl, _, rfl, _, _, rfl, rfl, _, rfl, LX.sl_fromN (k := i + 1) (x23.tups _ _ hs) (by omega) (by rw [List.length_map]; omega) fun H4 p4 x4 e4 => ?_⟩
    refine LX.catA (x4.tups _ _ e3) e4 (by rw [List.length_append, List.length_take, List.length_drop, List.length_map]; show min i st.length + 1 + _ ≤ 1000; omega) fun H5 p5 x5 e5 => q H5 p5 (x23.trans (x4.trans x5)) ?_
    rw [set_cat hi] at e5
    exact e5

def sp_firsts_from : Sp := fun vs H Q _ => ∃ (v : V) (k : Clk) (s0 : Int) (s b : Addr) (st hs : List Int), vs = [v, .int s0, .ref s, .ref b] ∧ ClkAt H v k ∧ k.Ok ∧ H s = some (.tup (st.map V.int)) ∧ StOk k st ∧ H b = some (.tup (hs.map V.int)) ∧ ∀ H' D, Xn H H' → H' D = some (.dT (dOf (nmb (und k st) (gapL k (loH s0 hs))))) → Q (.ref D) H'
theorem ok_firsts_from (T : Txt mg) (C_undone : Callee P w K mg base "undone" 2 ["clock", "standing"] sp_undone) (C_first_gap : Callee P w K mg base "first_gap" 2 ["clock", "wheel", "low"] sp_first_gap) (F : FunC K "firsts_from" s_firsts_from f fd c) : FnOk P w K mg base CX0 3 f fd ["clock", "tick", "standing", "busy"] sp_firsts_from := by
  refine F.ok sc_firsts_from (fun vs H Q E h => ?_) (fun A outer s H vs Q E hr h => ⟨_, (pss_cons (ps_set (i := 4) sc_firsts_from.nd rfl (Or.inl rfl) pe_dnewT)
    (pss_cons (ps_for PassesOwn.never rfl (piK (K := K) iList (pi_list (pe_callC C_undone hr (by rfl) (pa_cons (pv 0) (pa_cons (pv 2) pa_nil)))) rfl) (pg_name (i := 5) sc_firsts_from.nd rfl (Or.inl rfl)) (pss_cons (ps_set (i := 6) sc_firsts_from.nd rfl (Or.inl rfl) (pe_ifExp (pt_cmpR (opK (K := K) rInS op_inS rfl) (pe_ix (ixK (K := K) rIxT ix_tup rfl) (pv 5) pe_int (fun _ _ => rfl)) (pv 3) (by rfl)) (pe_op op_add (pv 1) pe_int) (pv 1)))
    (pss_one (ps_dput (hu_of hr) (pv 4) (pv 5) (pe_callC C_first_gap hr (by rfl) (pa_cons (pv 0) (pa_cons (pe_ix (ixK (K := K) rIxT ix_tup rfl) (pv 5) pe_int (fun _ _ => rfl)) (pa_cons (pv 6) pa_nil)))) rfl))))
    (pss_one (ps_ret (pv 4))))), ?_⟩)
  · obtain ⟨v, k, s0, s, b, st, hs, rfl, _⟩ := h; rfl
  · obtain ⟨v, k, s0, sa, ba, st, hs, rfl, hC, ok, hst, so, hb, q⟩ := h
    have hud : ∀ x ∈ und k st, x ∈ due k.eds k.eds.length := fun x hx => und_due hx
    have hfew := und_few ok st
    have hnd := und_nodup k st (due_nodup k k.eds.length)
    refine fun D hD => ?_
    have x0 : Xn H (upd H D (.dT [])) := Xt.new hD
    have hDe : upd H D (.dT []) D = some (.dT []) := upd_same
    generalize upd H D (.dT []) = H0 at x0 hDe ⊢
    refine ⟨_, rfl, _, rfl, v, k, sa, st, rfl, hC.x x0, ok, x0.tups _ _ hst, so, fun H1 l rs x1 hln hl hrs => ?_⟩
    refine ⟨l, rfl, ⟨_, SqL.of hl⟩, ?_⟩
    have nlD : l ≠ D := fun z => by rw [z, hDe] at hln; cases hln
    have hDl := x1.keep D _ (fun z => z) (fun _ z => by cases z) hDe
    have x01 := x0.trans x1
    refine for_list (xs := rs) (fun n σ G => ∃ x5 x6, σ = [some v, some (.int s0), some (.ref sa), some (.ref ba), some (.ref D), x5, x6] ∧ Xn H G ∧ G l = some (.lst rs) ∧ Rows G rs (und k st) ∧ G D = some (.dT (dOf (nmb ((und k st).take n) (gapL k (loH s0 hs)))))) ⟨_, _, rfl, x01, hl, hrs, hDl⟩ (fun n σ G _ hp => ?_) (fun n x σ G ex hp => ?_) (fun σ G hp => ?_)
    · obtain ⟨_, _, _, _, e, _⟩ := hp
      exact SqL.of e
    · obtain ⟨x5, x6, rfl, hx, hlG, hrsG, hDG⟩ := hp
      obtain ⟨r, u, rfl, e1, e2⟩ := (hrsG).get ex
      have hn := (List.getElem?_eq_some_iff.mp e1).1
      obtain ⟨i, a, gp, rfl, eg, hne⟩ := due_gps ok (hud _ (List.mem_of_getElem? e1))
      have er := e2
      refine ⟨_, rfl, rixV 0 er rfl rfl ⟨_, rfl, ba, _, rfl, .inr (SqT.of (hx.tups _ _ hb)), rfl, flat_ints _, ?_⟩⟩
      rw [inV_ints]
      by_cases m : (i : Int) ∈ hs
      case' pos =>
        refine ⟨true, by rw [if_neg Bool.false_ne_true]; exact congrArg V.bl (decide_eq_true m), iteT ⟨_, rfl, _, _, rfl, rfl, ?_⟩⟩
        have elo : s0 + 1 = loH s0 hs i := (if_pos m).symm
      case' neg =>
        refine ⟨false, by rw [if_neg Bool.false_ne_true]; exact congrArg V.bl (decide_eq_false m), iteF ⟨_, rfl, ?_⟩⟩
        have elo : s0 = loH s0 hs i := (if_neg m).symm
      all_goals
        refine ⟨_, rfl, _, rfl, rixV 0 er rfl rfl ⟨_, rfl, v, k, i, _, gp, rfl, hC.x hx, ok, by omega, eg, hne, fun H3 z x3 hz => ?_⟩⟩
        have hz' : GF k.per gp (loH s0 hs i) z := elo ▸ hz
        have hDG3 := x3.keep D _ (fun z => z) (fun _ z => by cases z) hDG
        refine ⟨_, rfl, _, rfl, D, _, rfl, DPut.t hDG3 (by rw [kI_kV]; exact x3.tups _ _ er) (sz_lt (by rw [dOf_len, nmb_len, List.length_take]; omega)), _, _, rfl, (hx.trans x3).young hD, ?_⟩
        have own : Xt (At1 D) H3 (upd H3 D (.dT (putK (dOf (nmb ((und k st).take n) (gapL k (loH s0 hs)))) (kI [(i : Int), a]) (.int z)))) := Xt.ownD rfl hDG3
        refine ⟨own.keep l _ (fun y => nlD y) (fun _ y => by cases y) (x3.keep l _ (fun y => y) (fun _ y => by cases y) hlG), (hrsG.x x3).x own, ?_⟩
        rw [upd_same, put_new]
        · rw [take_snocE e1]
          unfold nmb
          rw [List.map_append]
          have : gapL k (loH s0 hs) [(i : Int), a] = z := by
            unfold gapL gapOf
            show gfC k.per (k.gps[((i : Nat) : Int).toNat]?.getD []) (loH s0 hs i) = z
            rw [Int.toNat_natCast, eg]
            exact gfC_of hz'
          show some (HO.dT (dOf (_ ++ [([(i : Int), a], V.int z)]))) = some (HO.dT (dOf (_ ++ [([(i : Int), a], V.int (gapL k (loH s0 hs) [(i : Int), a]))])))
          rw [this]
        · rw [nmb_keys]
          intro hm
          obtain ⟨j, hj⟩ := List.mem_iff_getElem?.mp hm
          have hjl : j < n := by have := (List.getElem?_eq_some_iff.mp hj).1; rw [List.length_take] at this; omega
          rw [List.getElem?_take_of_lt hjl] at hj
          have := (List.getElem?_inj (List.getElem?_eq_some_iff.mp hj).1 hnd).mp (hj.trans e1.symm)
          omega
    · obtain ⟨x5, x6, rfl, hx, hlG, hrsG, hDG⟩ := hp
      rw [hrs.1, List.take_length] at hDG
      exact ⟨_, rfl, q G D hx hDG⟩


end K17
-- K17_y2
namespace K17
open PySem PySem.Spec PyProof.Rows L2 LC
variable [Tbl]
variable {P : Program} {w : World} {K : PySem.W.Frag} {mg : Str → Option Value} {base : Heap} {f c : Addr} {fd : FuncData} {Ts : List Addr} {TP : Addr}

/-- one entry is in time -/
def TmE (k : Clk) (st : List Int) (s0 : Int) (N : List Int → Int) (t : List Int) : Prop := t[1]?.getD 0 ≤ sg st (t[0]?.getD 0) → sg st (t[2]?.getD 0) < t[3]?.getD 0 → ∀ r, GF k.per (phs k.tch (t[0]?.getD 0) (t[2]?.getD 0)) s0 r → N [t[2]?.getD 0, t[3]?.getD 0] ≤ r

def sp_first_fromL : Sp := fun vs H Q _ => ∃ (v : V) (k : Clk) (g : Addr) (gp : List Int) (low : Int), vs = [v, .ref g, .int low] ∧ ClkAt H v k ∧ k.Ok ∧ H g = some (.lst (gp.map V.int)) ∧ gp ≠ [] ∧ gp.length ≤ 1000 ∧ (∀ p ∈ gp, 0 ≤ p ∧ p < k.per) ∧ ∀ H' r, Xn H H' → GF k.per gp low r → Q (.int r) H'
theorem ok_first_fromL (T : Txt mg) (F : FunC K "first_from" s_first_from f fd c) : FnOk P w K mg base CX0 1 f fd ["clock", "phases", "low"] sp_first_fromL := by
  refine F.ok sc_first_from (fun vs H Q E h => ?_) (fun A outer s H vs Q E hr h => ⟨_, (pss_one (ps_ret (pe_op op_add (pv 2) (pe_callB (cr_min rfl) (by rfl) T.g_min (by decide +kernel) (pa_cons (pe_lc (own := [("phase", 3)]) rfl sc_first_from.nd (piK (K := K) iList (pi_list (pv 1)) rfl) (blkOk_by (N := N_first_from) (sc := defScope s_first_from) (own := [("phase", 3)]) (by decide +kernel)) (fun _ _ _ _ _ => (pg_name (i := 3) sc_first_from.nd rfl (Or.inl rfl))) (fun _ _ _ _ _ => pts_nil) (fun _ _ _ _ _ => (pe_op op_modN (pe_op op_sub (pv 3) (pv 2)) (pe_ix (ixK (K := K) rIxT ix_tup rfl) (pv 0) pe_int (fun _ _ => rfl))))) pa_nil))))), ?_⟩)
  · obtain ⟨v, k, g, gp, low, rfl, _⟩ := h; rfl
  · obtain ⟨v, k, g, gp, low, rfl, ⟨⟨ca, e, t, gg, b, rt, rg, rb, rfl, h1, h2, h3, h4, h5, h6, h7, h8⟩⟩, ok, hg, hne, hl, hgb, q⟩ := h
    have p0 := ok.per.1
    refine ⟨_, rfl, _, rfl, g, rfl, ⟨_, SqL.of hg⟩, fun D hD => ?_⟩
    refine drvL (xs := gp.map V.int) (fun n H' => Xn H H' ∧ H' D = some (.lst (((gp.take n).map fun p => (p - low) % k.per).map V.int))) ⟨Xt.new hD, upd_same⟩ (fun n H' _ hp => SqL.of (hp.1.keep g _ (fun z => z) (fun _ z => by cases z) hg)) (fun n x H' ex hp => ?_) (fun H' hp => ?_)
    · obtain ⟨hx, hD'⟩ := hp
      obtain ⟨p, ep, rfl⟩ := getI ex
      have hn : n < gp.length := (List.getElem?_eq_some_iff.mp ep).1
      refine ⟨rfl, yes_of ⟨_, rfl, _, rfl, _, _, rfl, rfl, _, rfl, rixV 0 (hx.tups _ _ h1) rfl rfl ⟨_, _, rfl, rfl, by omega, ?_⟩⟩⟩
      refine ⟨_, hD', sz_lt (by rw [List.length_map, List.length_map, List.length_take]; omega), hx.young hD, ?_⟩
      have ef : (p - low).fmod k.per = (p - low) % k.per := Int.fmod_eq_emod_of_nonneg _ (by omega)
      rw [upd_same, take_snocE ep]; simp [ef]
    · obtain ⟨hx, hD'⟩ := hp
      rw [List.length_map, List.take_length] at hD'
      refine ⟨D, _, rfl, SqL.of hD', by rw [List.length_map]; exact List.length_pos_iff.mpr hne, fun m hm hmin => ⟨_, _, rfl, rfl, ?_⟩⟩
      exact q H' _ hx (gf_min p0 hgb hm hmin)

def sp_Rests_is_late (C : Addr) : Sp := fun vs H Q _ => ∃ (p sa D : Addr) (tick : Int) (k : Clk) (st : List Int) (N : List Int → Int), vs = [.ref p, .int tick, .ref sa, .ref D] ∧ RestsAt C H p k ∧ k.Ok ∧ H sa = some (.tup (st.map V.int)) ∧ StOk k st ∧ H D = some (.dT (dOf (nmb (und k st) N))) ∧ ∀ H' b, Xn H H' → (b = true ↔ ¬ InTime k st tick N) → Q (.bl b) H'
theorem ok_Rests_is_late {C : Addr} (T : Txt mg) (TC : RestsC K C) (C_first_from : Callee P w K mg base "first_from" 1 ["clock", "phases", "low"] sp_first_fromL) (F : Fun K "is_late" "Rests.is_late" s_Rests_is_late f fd) : FnOk P w K mg base CX0 2 f fd ["self", "tick", "standing", "numbers"] (sp_Rests_is_late C) := by
  refine F.ok sc_Rests_is_late (fun vs H Q E h => ?_) (fun cdv A outer s H vs Q E hr h => ⟨_, (pss_cons (ps_for PassesOwn.never rfl (piK (K := K) iList (pi_list (LC.fldK (K := K) (pe_fld (pv 0) rfl) rfl)) rfl) (pg_tup rfl (pgs_cons (pg_name (i := 4) sc_Rests_is_late.nd rfl (Or.inl rfl)) (pgs_cons (pg_name (i := 5) sc_Rests_is_late.nd rfl (Or.inl rfl)) pgs_nil))) (pss_cons (ps_asg (pv 4) (pg_tup rfl (pgs_cons (pg_name (i := 6) sc_Rests_is_late.nd rfl (Or.inl rfl)) (pgs_cons (pg_name (i := 7) sc_Rests_is_late.nd rfl (Or.inl rfl)) (pgs_cons (pg_name (i := 8) sc_Rests_is_late.nd rfl (Or.inl rfl)) (pgs_cons (pg_name (i := 9) sc_Rests_is_late.nd rfl (Or.inl rfl)) pgs_nil))))))
    (pss_one (ps_if (PW.pt (pw_and (pt_cmpR op_ge (pe_ix (ixK (K := K) rIxT ix_tup rfl) (pv 2) (pv 6) (fun _ _ => rfl)) (pv 7) (nomark _)) (pw_and1 (pt_cmpR op_lt (pe_ix (ixK (K := K) rIxT ix_tup rfl) (pv 2) (pv 8) (fun _ _ => rfl)) (pv 9) (nomark _))))) (pss_one (ps_if (pt_cmpR op_gt (pe_dget (hu_of hr) (pv 3) (pe_tup (pa_cons (pv 8) (pa_cons (pv 9) pa_nil))) (fun _ _ => rfl)) (pe_callC C_first_from hr (by rfl) (pa_cons (LC.fldK (K := K) (pe_fld (pv 0) rfl) rfl) (pa_cons (pv 5) (pa_cons (pv 1) pa_nil)))) (nomark _)) (pss_one (ps_ret pe_bl)) pss_nil)) pss_nil))))
    (pss_one (ps_ret pe_bl))), ?_⟩)
  · obtain ⟨p, sa, D, tick, k, st, N, rfl, _⟩ := h; rfl
  · obtain ⟨p, sa, D, tick, k, st, N, rfl, hR, ok, hs, so, hD, q⟩ := h
    obtain ⟨dx, Tt, nd, v, rs, h1, h2, h3, h4, h5⟩ := id hR.ex
    refine ⟨_, rfl, p, C, dx, _, _, rfl, h1, TC.cl, TC.n3, rfl3_needs _ _ _, nd, rfl, ⟨_, SqL.of h4⟩, ?_⟩
    refine for_list (xs := rs) (fun n σ G => ∃ x4 x5 x6 x7 x8 x9, σ = [some (.ref p), some (.int tick), some (.ref sa), some (.ref D), x4, x5, x6, x7, x8, x9] ∧ Xn H G ∧ ∀ t ∈ (needL k).take n, TmE k st tick N t) ⟨_, _, _, _, _, _, rfl, Xt.refl, fun t h => nomatch h⟩ (fun n σ G _ hp => ?_) (fun n x σ G ex hp => ?_) (fun σ G hp => ?_)
    · obtain ⟨_, _, _, _, _, _, _, hx, _⟩ := hp
      exact SqL.of (hx.keep _ _ (fun z => z) (fun _ z => by cases z) h4)
    · obtain ⟨x4, x5, x6, x7, x8, x9, rfl, hx, hin⟩ := hp
      obtain ⟨b, e, l, t, rfl, et, g2, g3, g4⟩ := (h5.x hx).get ex
      obtain ⟨i, a, j, bb, rfl, i0, i1, j0, j1, ne, a1, a2, b1, b2⟩ := ok.bok t (List.mem_filter.mp (List.mem_of_getElem? et)).1
      have hne : phs k.tch i j ≠ [] := of_decide_eq_true (List.mem_filter.mp (List.mem_of_getElem? et)).2
      have hs' := hx.tups _ _ hs
      have get : ∀ i : Int, 0 ≤ i → i < k.eds.length → (st.map V.int)[i.toNat]? = some (.int (sg st i)) := fun i i0 i1 => by
        have := List.getElem?_eq_getElem (show i.toNat < st.length by rw [so.len]; omega)
        unfold sg
        rw [List.getElem?_map, this]; rfl
      refine ⟨b, _, rfl, SqT.of g2, rfl, _, _, rfl, _, _, rfl, rfl, ?_⟩
      refine ⟨_, rfl, e, _, rfl, SqT.of g3, rfl, _, _, rfl, _, _, rfl, _, _, rfl, _, _, rfl, rfl, ?_⟩
      have step : TmE k st tick N [i, a, j, bb] → ∀ t ∈ (needL k).take (n + 1), TmE k st tick N t := fun ht t hm => by
        rw [take_snocE et] at hm
        rcases List.mem_append.mp hm with hm | hm
        · exact hin t hm
        · rw [List.mem_singleton] at hm; rw [hm]; exact ht
      refine ⟨_, rfl, _, rfl, rixT_of (j := i.toNat) hs' (by omega) (get i i0 i1) ⟨_, rfl, _, _, rfl, rfl, _, rfl, ?_⟩⟩
      by_cases c1 : a ≤ sg st i
      · rw [decide_eq_true c1]
        refine iteT ⟨_, rfl, _, rfl, rixT_of (j := j.toNat) hs' (by omega) (get j j0 j1) ⟨_, rfl, _, _, rfl, rfl, _, rfl, ?_⟩⟩
        by_cases c2 : sg st j < bb
        · rw [decide_eq_true c2]
          refine iteT ⟨_, rfl, _, rfl, _, rfl, by show 2 ≤ sizeLine; decide, fun kt hkt => ?_⟩
          have hjb : [j, bb] ∈ und k st := mem_und.mpr ⟨j, bb, rfl, ⟨j0, j1⟩, ⟨b1, b2⟩, c2⟩
          have nd := und_nodup k st (due_nodup k k.eds.length)
          have xk : Xn G (upd G kt (.tup [.int j, .int bb])) := Xt.new hkt
          have hxk := hx.trans xk
          have hkte : upd G kt (.tup [.int j, .int bb]) kt = some (.tup (([j, bb] : List Int).map V.int)) := upd_same
          generalize upd G kt (.tup [.int j, .int bb]) = G1 at xk hxk hkte ⊢
          refine ⟨D, _, rfl, nmb_get nd hjb (hxk.keep _ _ (fun z => z) (fun _ z => by cases z) hD) hkte, ?_⟩
          refine ⟨_, rfl, p, C, dx, _, _, rfl, hxk.keep _ _ (fun z => z) (fun _ z => by cases z) h1, TC.cl, TC.n1, rfl3_clock _ _ _, _, rfl, _, rfl, v, k, l, _, tick, rfl, h2.x hxk, ok, xk.keep _ _ (fun z => z) (fun _ z => by cases z) g4, hne, ?_, phs_bd ok, fun G2 r x2 hr => ⟨_, _, rfl, rfl, _, rfl, ?_⟩⟩
          · have h1 : (phs k.tch i j).length ≤ k.tch.length := by unfold phs; rw [List.length_map]; exact List.length_filter_le _ _
            exact Nat.le_trans h1 ok.tchL
          by_cases c3 : r < N [j, bb]
          · rw [decide_eq_true c3]
            refine iteT (q G2 true (hxk.trans x2) ⟨fun _ hi => ?_, fun _ => rfl⟩)
            have := (intime_iff ok).mp hi _ (List.mem_of_getElem? et) c1 c2 r hr
            have this : N [j, bb] ≤ r := this
            omega
          · rw [decide_eq_false c3]
            refine iteF ⟨_, _, _, _, _, _, rfl, hxk.trans x2, step fun _ _ r' hr' => ?_⟩
            rw [hr'.uniq hr]
            show N [j, bb] ≤ r
            omega
        · rw [decide_eq_false c2]
          exact iteF ⟨_, _, _, _, _, _, rfl, hx, step fun _ z => absurd z c2⟩
      · rw [decide_eq_false c1]
        exact iteF (iteF ⟨_, _, _, _, _, _, rfl, hx, step fun z => absurd z c1⟩)
    · obtain ⟨x4, x5, x6, x7, x8, x9, rfl, hx, hin⟩ := hp
      rw [h5.len, List.take_length] at hin
      exact q G false hx ⟨(fun z => nomatch z), fun z => absurd ((intime_iff ok).mpr hin) z⟩

def sp_Rests_numbers_from (C : Addr) : Sp := fun vs H Q _ => ∃ (p sa F : Addr) (tick : Int) (k : Clk) (st : List Int) (g : List Int → Int), vs = [.ref p, .int tick, .ref sa, .ref F] ∧ RestsAt C H p k ∧ k.Ok ∧ H sa = some (.tup (st.map V.int)) ∧ StOk k st ∧ H F = some (.dT (dOf (nmb (und k st) g))) ∧ (∀ x ∈ und k st, ∀ y ∈ und k st, g y ≤ g x + 1000) ∧
  (∀ H', Xn H H' → ((∀ h, Closed k (und k st) h → ¬ Above (und k st) g h) ∨ ∃ N, LeastN k (und k st) g N ∧ ¬ InTime k st tick N) → Q .non H') ∧ ∀ H' D N, Xn H H' → H' D = some (.dT (dOf (nmb (und k st) N))) → LeastN k (und k st) g N → InTime k st tick N → Q (.ref D) H'
theorem ok_Rests_numbers_from {C fm : Addr} {fdm : FuncData} (T : Txt mg) (TC : RestsC K C) (C_settled_by : Callee P w K mg base "settled_by" 4 ["table", "period", "firsts"] sp_settled_by) (M_is_late : CalleeM P w K mg base C "is_late" fm fdm 2 ["self", "tick", "standing", "numbers"] (sp_Rests_is_late C)) (F : Fun K "numbers_from" "Rests.numbers_from" s_Rests_numbers_from f fd) : FnOk P w K mg base CX0 5 f fd ["self", "tick", "standing", "firsts"] (sp_Rests_numbers_from C) := by
  refine F.ok sc_Rests_numbers_from (fun vs H Q E h => ?_) (fun cdv A outer s H vs Q E hr h => ⟨_, (pss_cons (ps_set (i := 4) sc_Rests_numbers_from.nd rfl (Or.inl rfl) (pe_callC C_settled_by hr (by rfl) (pa_cons (LC.fldK (K := K) (pe_fld (pv 0) rfl) rfl) (pa_cons (pe_ix (ixK (K := K) rIxT ix_tup rfl) (LC.fldK (K := K) (pe_fld (pv 0) rfl) rfl) pe_int (fun _ _ => rfl)) (pa_cons (pv 3) pa_nil)))))
    (pss_cons (ps_if (PW.pt (pw_or (pt_cmpR op_isN (pv 4) pe_non (nomark _)) (pw_or1 (pt_val (pe_meth (pv 0) TC.cl M_is_late.at_ M_is_late.F (hr.mono (by decide)) M_is_late.b .nil pass0 (pa_cons (pv 1) (pa_cons (pv 2) (pa_cons (pv 4) pa_nil)))))))) (pss_one (ps_ret pe_non)) pss_nil)
    (pss_one (ps_ret (pv 4))))), ?_⟩)
  · obtain ⟨p, sa, D, tick, k, st, N, rfl, _⟩ := h; rfl
  · obtain ⟨p, sa, D, tick, k, st, g, rfl, hR, ok, hs, so, hD, hsp, qn, qs⟩ := h
    obtain ⟨dx, Tt, nd, v, rs, h1, h2, h3, h4, h5⟩ := id hR.ex
    obtain ⟨⟨ca, e, t, gg, b, rt, rg, rb, rfl, c1, _⟩⟩ := id h2
    refine ⟨_, rfl, p, C, dx, _, _, rfl, h1, TC.cl, TC.n2, rfl3_table _ _ _, ?_⟩
    refine ⟨_, rfl, p, C, dx, _, _, rfl, h1, TC.cl, TC.n1, rfl3_clock _ _ _, rixV 0 c1 rfl rfl ⟨_, rfl, ?_⟩⟩
    refine ⟨Tt, D, k, und k st, g, rfl, ok, h3, hD, und_nodup k st (due_nodup k k.eds.length), fun x hx => und_due hx, hsp, fun H1 x1 hn => ?_, fun H1 D1 N x1 hD1 hN => ?_⟩
    · exact ⟨_, rfl, rfl, _, rfl, iteT (iteT (qn H1 x1 (.inl hn)))⟩
    · refine ⟨_, rfl, rfl, _, rfl, iteF ⟨_, rfl, p, dx, _, rfl, x1.keep _ _ (fun z => z) (fun _ z => by cases z) h1, rfl3_no _ _ _ (by decide +kernel) (by decide +kernel) (by decide +kernel), _, rfl, _, rfl, _, rfl, p, sa, D1, tick, k, st, N, rfl, hR.x x1, ok, x1.tups _ _ hs, so, hD1, fun H2 b x2 hb => ⟨b, rfl, ?_⟩⟩⟩
      cases b with
      | true => exact iteT (qn H2 (x1.trans x2) (.inr ⟨N, hN, hb.mp rfl⟩))
      | false => exact iteF ⟨_, rfl, qs H2 D1 N (x1.trans x2) (x2.keep _ _ (fun z => z) (fun _ z => by cases z) hD1) hN (Classical.byContradiction fun z => nomatch hb.mpr z)⟩

end K17
-- K17_y3
namespace K17
open PySem PySem.Spec PyProof.Rows L2 LC
variable [Tbl]
variable {P : Program} {w : World} {K : PySem.W.Frag} {mg : Str → Option Value} {base : Heap} {f c : Addr} {fd : FuncData} {Ts : List Addr} {TP : Addr}

def sp_touch_phasesF : Sp := fun vs H Q _ => ∃ (v : V) (k : Clk) (i j : Int), vs = [v, .int i, .int j] ∧ ClkAt H v k ∧ k.Ok ∧ ∀ H' p, Xn H H' → H p = none → H' p = some (.lst ((phs k.tch i j).map V.int)) → Q (.ref p) H'
theorem ok_touch_phasesF (T : Txt mg) (F : FunC K "touch_phases" s_touch_phases f fd c) : FnOk P w K mg base CX0 1 f fd ["clock", "wheel", "other"] sp_touch_phasesF := by
  refine F.ok sc_touch_phases (fun vs H Q E h => ?_) (fun A outer s H vs Q E hr h => ⟨_, (pss_cons (ps_set (i := 3) sc_touch_phases.nd rfl (Or.inr rfl) (pe_tup (pa_cons (pe_callB (call_min2 rfl) (by rfl) T.g_min (by decide +kernel) (pa_cons (pv 1) (pa_cons (pv 2) pa_nil))) (pa_cons (pe_callB (call_max2 rfl) (by rfl) T.g_max (by decide +kernel) (pa_cons (pv 1) (pa_cons (pv 2) pa_nil))) pa_nil))))
    (pss_one (ps_ret (pe_lc (own := [("touch", 4)]) rfl sc_touch_phases.nd (piK (K := K) iTup (pi_tup (pe_ix (ixK (K := K) rIxT ix_tup rfl) (pv 0) pe_int (fun _ _ => rfl))) rfl) (blkOk_by (N := N_touch_phases) (sc := defScope s_touch_phases) (own := [("touch", 4)]) (by decide +kernel)) (fun _ _ _ _ _ => (pg_name (i := 4) sc_touch_phases.nd rfl (Or.inl rfl))) (fun _ _ _ _ _ => (pts_one (pt_cmpR (opK (K := K) rEqD (op_eqD hr.units) rfl) (pe_slice (slK (K := K) rSlA sl_tupA rfl) (pv 4) (po_some pe_int) po_none) (pv 3) (nomark _)))) (fun _ _ _ _ _ => (pe_ix (ixK (K := K) rIxT ix_tup rfl) (pv 4) pe_int (fun _ _ => rfl))))))), ?_⟩)
  · obtain ⟨v, k, i, j, rfl, _⟩ := h; rfl
  · obtain ⟨v, k, i, j, rfl, ⟨⟨ca, e, t, g, b, rt, rg, rb, rfl, h1, h2, h3, h4, h5, h6, h7, h8⟩⟩, ok, q⟩ := h
    refine ⟨_, rfl, _, rfl, _, _, rfl, ?_⟩
    refine ⟨_, rfl, _, rfl, _, _, rfl, ?_⟩
    rw [minE, maxE]
    refine ⟨by show 2 ≤ sizeLine; decide, fun pr hpr => ?_⟩
    have x0 : Xn H (upd H pr (.tup [V.int (min i j), V.int (max i j)])) := Xt.new hpr
    refine ⟨_, rfl, rixV 2 (x0.tups _ _ h1) rfl rfl ⟨t, rfl, ⟨_, SqT.of (x0.tups _ _ h3)⟩, fun D hD => ?_⟩⟩
    refine lc_tup (xs := rt) (fun n H' => Xn (upd H pr (.tup [V.int (min i j), V.int (max i j)])) H' ∧ H' D = some (.lst ((phs (k.tch.take n) i j).map V.int))) ⟨Xt.new hD, upd_same⟩ (fun n H' _ hp => SqT.of (hp.1.tups _ _ (x0.tups _ _ h3))) (fun n x H' ex hp => ?_) (fun H' hp => ?_)
    · obtain ⟨hx, hD'⟩ := hp
      obtain ⟨r, ns, rfl, e1, e2⟩ := h4.get ex
      obtain ⟨p, wi, oi, rfl, _⟩ := ok.tch ns (List.mem_of_getElem? e1)
      have e2 := (x0.trans hx).tups _ _ e2
      have hn : n < k.tch.length := (List.getElem?_eq_some_iff.mp e1).1
      have hpl : (phs (k.tch.take n) i j).length < sizeLine := sz_lt (by unfold phs; rw [List.length_map]; exact Nat.lt_of_le_of_lt (List.length_filter_le _ _) (by rw [List.length_take]; have := ok.tchL; omega))
      refine ⟨rfl, ⟨_, rfl, 1, rfl, sl_dropN (k := 1) e2 rfl (by decide) (by show 1 ≤ 3; decide) fun l hl => ⟨_, rfl, eqD_pair upd_same (upd_old (hx.tups _ _ upd_same) hl) ⟨_, rfl, ?_⟩⟩⟩⟩
      have hx1 := hx.trans (Xt.new (o := .tup (([p, wi, oi].drop 1).map V.int)) hl)
      have hD1 := upd_old (u := .tup (([p, wi, oi].drop 1).map V.int)) hD' hl
      have et : decide ([p, wi, oi].drop 1 = [min i j, max i j]) = (decide (wi = min i j) && decide (oi = max i j)) := two_eq _ _ _ _
      cases c1 : (decide (wi = min i j) && decide (oi = max i j)) with
      | true =>
        refine iteT ⟨_, rfl, rixC 0 (upd_old e2 hl) rfl rfl ⟨_, hD1, by rw [List.length_map]; exact hpl, hx1.young hD, ?_⟩⟩
        unfold phs
        rw [upd_same, filt_yes e1 (by rw [et, c1]), List.map_append, List.map_append]; rfl
      | false =>
        refine iteF ⟨hx1, ?_⟩
        unfold phs at hD1 ⊢
        rw [filt_no e1 (by rw [et, c1])]
        exact hD1
    · obtain ⟨hx, hD'⟩ := hp
      rw [h4.1, List.take_length] at hD'
      exact q H' D (x0.trans hx) (x0.backN hD) hD'

def sp_Rests_init (C : Addr) : Sp := fun vs H Q _ => ∃ (p dx : Addr) (v : V) (k : Clk), vs = [.ref p, v] ∧ ClkAt H v k ∧ k.Ok ∧ H p = some (.ins C dx []) ∧ ∀ H', Xt (At1 p) H H' → RestsAt C H' p k → Q .non H'
theorem ok_Rests_init {C : Addr} (T : Txt mg) (TC : RestsC K C) (C_push_table : Callee P w K mg base "push_table" 5 ["clock"] sp_push_table) (C_touch_phases : Callee P w K mg base "touch_phases" 1 ["clock", "wheel", "other"] sp_touch_phasesF) (F : Fun K "__init__" "Rests.__init__" s_Rests_init f fd) : FnOk P w K mg base CX0 6 f fd ["self", "clock"] (sp_Rests_init C) := by
  refine F.ok sc_Rests_init (fun vs H Q E h => ?_) (fun cdv A outer s H vs Q E hr h => ⟨_, (pss_cons (ps_fld (pv 0) (pv 1) rfl)
    (pss_cons (ps_fld (pv 0) (pe_callC C_push_table hr (by rfl) (pa_cons (pv 1) pa_nil)) rfl)
    (pss_cons (ps_setLc (i := 2) (own := [("entry", 3)]) rfl sc_Rests_init.nd rfl rfl (sw_true rfl rfl rfl (by decide +kernel)) (piK (K := K) iTup (pi_tup (pe_ix (ixK (K := K) rIxT ix_tup rfl) (pv 1) pe_int (fun _ _ => rfl))) rfl) (blkOk_by (N := N_Rests_init) (sc := defScope s_Rests_init) (own := [("entry", 3)]) (by decide +kernel)) (fun _ _ _ _ _ => (pg_name (i := 3) sc_Rests_init.nd rfl (Or.inl rfl))) (fun _ _ _ _ _ => pts_nil) (fun _ _ _ _ _ => (pe_tup (pa_cons (pv 3) (pa_cons (pe_callC C_touch_phases hr (by rfl) (pa_cons (pv 1) (pa_cons (pe_ix (ixK (K := K) rIxT ix_tup rfl) (pv 3) pe_int (fun _ _ => rfl)) (pa_cons (pe_ix (ixK (K := K) rIxT ix_tup rfl) (pv 3) pe_int (fun _ _ => rfl)) pa_nil)))) pa_nil)))))
    (pss_one (ps_fld (pv 0) (pe_lc (own := [("entry", 3), ("phases", 4)]) rfl sc_Rests_init.nd (piK (K := K) iList (pi_list (pv 2)) rfl) (blkOk_by (N := N_Rests_init) (sc := defScope s_Rests_init) (own := [("entry", 3), ("phases", 4)]) (by decide +kernel)) (fun _ _ _ _ _ => (pg_tupK (K := K) (n := 2) rfl rfl (pgs_cons (pg_name (i := 3) sc_Rests_init.nd rfl (Or.inl rfl) (hf := Or.inr rfl)) (pgs_cons (pg_name (i := 4) sc_Rests_init.nd rfl (Or.inl rfl) (hf := Or.inr rfl)) pgs_nil)) rfl rfl)) (fun _ _ _ _ _ => (pts_one (LC.pt_truthK (K := K) (pv 4) (by intro _; rfl) rfl))) (fun _ _ _ _ _ => (pe_tup (pa_cons (pv 3) (pa_cons (pv 4) pa_nil))))) rfl))))), ?_⟩)
  · obtain ⟨p, dx, v, k, rfl, _⟩ := h; rfl
  · obtain ⟨p, dx, v, k, rfl, hC, ok, hp, q⟩ := h
    obtain ⟨⟨ca, e, t, g, b, rt, rg, rb, rfl, h1, h2, h3, h4, h5, h6, h7, h8⟩⟩ := id hC
    refine ⟨_, rfl, _, rfl, p, C, dx, _, rfl, hp, TC.cl, TC.n1, (by show 0 < 1000; decide), ?_⟩
    have x1 : Xt (At1 p) H (upd H p (.ins C dx (putF "clock" (.ref ca) []))) := Xt.ownI hp
    have hp1 : upd H p (.ins C dx (putF "clock" (.ref ca) [])) p = some (.ins C dx (putF "clock" (.ref ca) [])) := upd_same
    generalize upd H p (.ins C dx (putF "clock" (.ref ca) [])) = H1 at x1 hp1 ⊢
    refine ⟨_, rfl, .ref ca, k, rfl, hC.x x1, ok, fun H2 Tt x2 hT => ?_⟩
    have hp2 := x2.keep _ _ (fun z => z) (fun _ z => by cases z) hp1
    refine ⟨_, rfl, p, C, dx, _, rfl, hp2, TC.cl, TC.n2, (by show 1 < 1000; decide), ?_⟩
    have x3 : Xt (At1 p) H2 (upd H2 p (.ins C dx (putF "table" (.ref Tt) (putF "clock" (.ref ca) [])))) := Xt.ownI hp2
    have hT3 := hT.off hp2 x3
    have hp3 : upd H2 p (.ins C dx (putF "table" (.ref Tt) (putF "clock" (.ref ca) []))) p = _ := upd_same
    generalize upd H2 p (.ins C dx (putF "table" (.ref Tt) (putF "clock" (.ref ca) []))) = H3 at x3 hp3 hT3 ⊢
    have x13 := (x1.trans x2.any).trans x3
    refine ⟨_, rfl, rixV 4 (x13.tups _ _ h1) rfl rfl ⟨b, rfl, ⟨_, SqT.of (x13.tups _ _ h7)⟩, fun D hD => ?_⟩⟩
    refine drvT (xs := rb) (fun n H' => Xn H3 H' ∧ ∃ acc, H' D = some (.lst acc) ∧ EntA D H' acc k (k.bok.take n)) ⟨Xt.new hD, [], upd_same, EntA.nil⟩ (fun n H' _ hp => SqT.of (hp.1.tups _ _ (x13.tups _ _ h7))) (fun n x H' ex hp => ?_) (fun H4 hp => ?_)
    · obtain ⟨hx, acc, hD', hacc⟩ := hp
      obtain ⟨r, tt, rfl, e1, e2⟩ := (h8.x x13).get ex
      obtain ⟨i, a, j, bb, rfl, i0, i1, j0, j1, ne, a1, a2, b1, b2⟩ := ok.bok tt (List.mem_of_getElem? e1)
      have e2 := hx.tups _ _ e2
      refine ⟨rfl, yes_of ⟨_, rfl, _, rfl, _, rfl, rixV 0 e2 rfl rfl ⟨_, rfl, rixV 2 e2 rfl rfl ?_⟩⟩⟩
      refine ⟨.ref ca, k, i, j, rfl, (hC.x x13).x hx, ok, fun H5 pl x5 hpn hpl => ⟨by show 2 ≤ sizeLine; decide, fun bt hbt => ?_⟩⟩
      have npD : pl ≠ D := fun z => by rw [z, hD'] at hpn; cases hpn
      have x6 : Xn H' (upd H5 bt (.tup [.ref r, .ref pl])) := x5.trans (Xt.new hbt)
      have hD6 := upd_old (u := .tup [.ref r, .ref pl]) (x5.keep D _ (fun z => z) (fun _ z => by cases z) hD') hbt
      have hpl6 := upd_old (u := .tup [.ref r, .ref pl]) hpl hbt
      have hbt6 : upd H5 bt (.tup [.ref r, .ref pl]) bt = some (.tup [.ref r, .ref pl]) := upd_same
      generalize upd H5 bt (.tup [.ref r, .ref pl]) = H6 at x6 hD6 hpl6 hbt6 ⊢
      have hn := (List.getElem?_eq_some_iff.mp e1).1
      have bl := ok.bokL
      have own : Xt (At1 D) H6 (upd H6 D (.lst (acc ++ [V.ref bt]))) := Xt.own rfl hD6
      refine ⟨acc, hD6, sz_lt (by rw [hacc.e.len, List.length_take]; omega), (hx.trans x6).young hD, acc ++ [V.ref bt], upd_same, ?_⟩
      rw [take_snocE e1]
      exact ((hacc.x x6).own hD6).snoc (own.tups _ _ hbt6) (own.tups _ _ (x6.tups _ _ e2)) (own.keep _ _ npD (fun _ z => by cases z) hpl6) npD
    · obtain ⟨hx, acc, hD', hacc⟩ := hp
      rw [(h8.x x13).1, List.take_length] at hacc
      refine ⟨_, rfl, D, rfl, ⟨_, SqL.of hD'⟩, fun D2 hD2 => ?_⟩
      refine drvL (xs := acc) (fun n H' => Xn H4 H' ∧ ∃ ac2, H' D2 = some (.lst ac2) ∧ EntA D2 H' ac2 k ((k.bok.take n).filter fun t => decide (phs k.tch (t[0]?.getD 0) (t[2]?.getD 0) ≠ []))) ⟨Xt.new hD2, [], upd_same, EntA.nil⟩ (fun n H' _ hp => SqL.of (hp.1.keep D _ (fun z => z) (fun _ z => by cases z) hD')) (fun n x H' ex hp => ?_) (fun H5 hp => ?_)
      · obtain ⟨hx2, ac2, hD2', hac2⟩ := hp
        obtain ⟨bt, en, l, tt, rfl, et, g2, g3, g4⟩ := hacc.e.get ex
        have nl2 : l ≠ D2 := fun z => by rw [z, hD2] at g4; cases g4
        have g2 := hx2.tups _ _ g2
        have g3 := hx2.tups _ _ g3
        have g4 := hx2.keep _ _ (fun z => z) (fun _ z => by cases z) g4
        have hn := (List.getElem?_eq_some_iff.mp et).1
        have bl := ok.bokL
        refine ⟨bt, _, rfl, SqT.of g2, rfl, _, _, rfl, _, _, rfl, rfl, rfl, ?_⟩
        refine ⟨_, rfl, _, .inl ⟨_, SqL.of g4, rfl⟩, ?_⟩
        have eb : (!((phs k.tch (tt[0]?.getD 0) (tt[2]?.getD 0)).map V.int).isEmpty) = decide (phs k.tch (tt[0]?.getD 0) (tt[2]?.getD 0) ≠ []) := by
          cases phs k.tch (tt[0]?.getD 0) (tt[2]?.getD 0) <;> rfl
        rw [eb]
        have hll : ((k.bok.take n).filter fun t => decide (phs k.tch (t[0]?.getD 0) (t[2]?.getD 0) ≠ [])).length ≤ n := Nat.le_trans (List.length_filter_le _ _) (by rw [List.length_take]; omega)
        by_cases hne : phs k.tch (tt[0]?.getD 0) (tt[2]?.getD 0) = []
        · rw [decide_eq_false (fun z => z hne)]
          refine iteF ⟨hx2, ac2, hD2', ?_⟩
          rw [filt_no et (decide_eq_false fun z => z hne)]
          exact hac2
        · rw [decide_eq_true hne]
          refine iteT ⟨_, rfl, _, rfl, by show 2 ≤ sizeLine; decide, fun b2 hb2 => ?_⟩
          have x7 : Xn H' (upd H' b2 (.tup [.ref en, .ref l])) := Xt.new hb2
          have hD7 := upd_old (u := .tup [.ref en, .ref l]) hD2' hb2
          have hb7 : upd H' b2 (.tup [.ref en, .ref l]) b2 = some (.tup [.ref en, .ref l]) := upd_same
          generalize upd H' b2 (.tup [.ref en, .ref l]) = H7 at x7 hD7 hb7 ⊢
          have own : Xt (At1 D2) H7 (upd H7 D2 (.lst (ac2 ++ [V.ref b2]))) := Xt.own rfl hD7
          refine ⟨ac2, hD7, sz_lt (by rw [hac2.e.len]; omega), (hx2.trans x7).young hD2, ac2 ++ [V.ref b2], upd_same, ?_⟩
          rw [filt_yes et (decide_eq_true hne)]
          exact ((hac2.x x7).own hD7).snoc (own.tups _ _ hb7) (own.tups _ _ (x7.tups _ _ g3)) (own.keep _ _ nl2 (fun _ z => by cases z) (x7.keep _ _ (fun z => z) (fun _ z => by cases z) g4)) nl2
      · obtain ⟨hx2, ac2, hD2', hac2⟩ := hp
        rw [hacc.e.len, List.take_length] at hac2
        have hp5 := (hx.trans hx2).keep _ _ (fun z => z) (fun _ z => by cases z) hp3
        refine ⟨_, rfl, p, C, dx, _, rfl, hp5, TC.cl, TC.n3, (by show 2 < 1000; decide), ?_⟩
        have x6 : Xt (At1 p) H5 (upd H5 p (.ins C dx (rfl3 (.ref ca) Tt D2))) := Xt.ownI hp5
        refine q _ ((x13.trans (hx.trans hx2).any).trans x6) ⟨dx, Tt, D2, .ref ca, ac2, upd_same, (hC.x (x13.trans (hx.trans hx2).any)).x x6, (hT3.x (hx.trans hx2)).off hp5 x6, x6.keep _ _ (fun z => by rw [show D2 = p from z, hp5] at hD2'; cases hD2') (fun _ z => by cases z) hD2', hac2.e.off hp5 x6⟩

end K17
-- K17_y4
namespace K17
open PySem PySem.Spec PyProof.Rows L2 LC
variable [Tbl]
variable {P : Program} {w : World} {K : PySem.W.Frag} {mg : Str → Option Value} {base : Heap} {f c : Addr} {fd : FuncData} {Ts : List Addr} {TP : Addr}

theorem gap_near {k : Clk} (ok : k.Ok) {st hs : List Int} (s0 : Int) : ∀ x ∈ und k st, ∀ y ∈ und k st, gapL k (loH s0 hs) y ≤ gapL k (loH s0 hs) x + 1000 := fun x hx y hy => by
  have h1 := gapL_bd ok (loH_bd s0 hs) (und_due hx)
  have h2 := gapL_bd ok (loH_bd s0 hs) (und_due hy)
  have := ok.per
  omega

def sp_rest_beside (Ts : List Addr) : Sp := fun vs H Q _ => ∃ (v : V) (k : Clk) (s0 : Int) (sa ba : Addr) (st hs : List Int), vs = [v, .int s0, .ref sa, .ref ba] ∧ ClkAt H v k ∧ k.Ok ∧ H sa = some (.tup (st.map V.int)) ∧ StOk k st ∧ H ba = some (.tup (hs.map V.int)) ∧ Tabs Ts H ∧
  (∀ H', Xn H H' → NoR k st s0 (gapL k (loH s0 hs)) → Q .non H') ∧ ∀ H' p rs N, Xn H H' → H' p = some (.tup rs) → Rows H' rs (rowsN k (und k st) N) → LeastN k (und k st) (gapL k (loH s0 hs)) N → InTime k st s0 N → Q (.ref p) H'
theorem ok_rest_beside {C fI fN : Addr} {fdI fdN : FuncData} (T : Txt mg) (TC : RestsC K C) (I_Rests : CalleeI P w K mg base C "Rests" fI fdI 6 ["self", "clock"] (sp_Rests_init C)) (M_numbers_from : CalleeM P w K mg base C "numbers_from" fN fdN 5 ["self", "tick", "standing", "firsts"] (sp_Rests_numbers_from C)) (C_firsts_from : Callee P w K mg base "firsts_from" 3 ["clock", "tick", "standing", "busy"] sp_firsts_from) (C_rows_of : Callee P w K mg base "rows_of" 5 ["clock", "numbers"] (sp_rows_of Ts)) (F : FunC K "rest_beside" s_rest_beside f fd c) : FnOk P w K mg base CX0 8 f fd ["clock", "tick", "standing", "busy"] (sp_rest_beside Ts) := by
  refine F.ok sc_rest_beside (fun vs H Q E h => ?_) (fun A outer s H vs Q E hr h => ⟨_, (pss_cons (ps_set (i := 4) sc_rest_beside.nd rfl (Or.inl rfl) (pe_meth (pe_make I_Rests.mks I_Rests.F (hr.mono (by decide)) (by rfl) I_Rests.gl I_Rests.b .nil pass0 (pa_cons (pv 0) pa_nil)) TC.cl M_numbers_from.at_ M_numbers_from.F (hr.mono (by decide)) M_numbers_from.b .nil pass0 (pa_cons (pv 1) (pa_cons (pv 2) (pa_cons (pe_callC C_firsts_from hr (by rfl) (pa_cons (pv 0) (pa_cons (pv 1) (pa_cons (pv 2) (pa_cons (pv 3) pa_nil))))) pa_nil)))))
    (pss_cons (ps_if (pt_cmpR op_isN (pv 4) pe_non (nomark _)) (pss_one (ps_ret pe_non)) pss_nil)
    (pss_one (ps_ret (pe_callC C_rows_of hr (by rfl) (pa_cons (pv 0) (pa_cons (pv 4) pa_nil))))))), ?_⟩)
  · obtain ⟨v, k, s0, sa, ba, st, hs, rfl, _⟩ := h; rfl
  · obtain ⟨v, k, s0, sa, ba, st, hs, rfl, hC, ok, hst, so, hb, hTs, qn, qs⟩ := h
    refine ⟨_, rfl, fun xo dx hxo hdx hne => ?_⟩
    have xm : Xn H (upd (upd H dx (.own xo)) xo (.ins C dx [])) := (Xt.new hdx).young hxo
    refine ⟨xo, dx, v, k, rfl, hC.x xm, ok, upd_same, fun H1 x1 hR => ⟨rfl, ?_⟩⟩
    have x1 := Xt.drop xm hxo x1
    obtain ⟨dx1, Tt, nd, v1, rs, r1, _⟩ := id hR.ex
    refine ⟨xo, dx1, _, rfl, r1, rfl3_no _ _ _ (by decide +kernel) (by decide +kernel) (by decide +kernel), ?_⟩
    refine ⟨_, rfl, _, rfl, _, rfl, _, rfl, _, rfl, _, rfl, v, k, s0, sa, ba, st, hs, rfl, hC.x x1, ok, x1.tups _ _ hst, so, x1.tups _ _ hb, fun H2 F x2 hF => ?_⟩
    refine ⟨xo, sa, F, s0, k, st, _, rfl, hR.x x2, ok, (x1.trans x2).tups _ _ hst, so, hF, gap_near ok s0, fun H3 x3 hn => ?_, fun H3 D N x3 hD hN hin => ?_⟩
    · exact ⟨_, rfl, rfl, _, rfl, iteT (qn H3 ((x1.trans x2).trans x3) hn)⟩
    · have x13 := (x1.trans x2).trans x3
      exact ⟨_, rfl, rfl, _, rfl, iteF ⟨_, rfl, _, rfl, v, D, k, _, N, rfl, hC.x x13, ok, hD, und_nodup k st (due_nodup k k.eds.length), hTs.x x13, fun H4 p rs x4 hp hr => qs H4 p rs N (x13.trans x4) hp hr hN hin⟩⟩

def sp_has_later_rest : Sp := fun vs H Q _ => ∃ (v : V) (k : Clk) (s0 : Int) (sa : Addr) (st : List Int), vs = [v, .int s0, .ref sa] ∧ ClkAt H v k ∧ k.Ok ∧ H sa = some (.tup (st.map V.int)) ∧ StOk k st ∧
  (∀ H', Xn H H' → NoR k st s0 (gapL k (loH (s0 + 1) [])) → Q (.bl false) H') ∧ ∀ H' N, Xn H H' → LeastN k (und k st) (gapL k (loH (s0 + 1) [])) N → InTime k st s0 N → Q (.bl true) H'
theorem ok_has_later_rest {C fI fN : Addr} {fdI fdN : FuncData} (T : Txt mg) (TC : RestsC K C) (I_Rests : CalleeI P w K mg base C "Rests" fI fdI 6 ["self", "clock"] (sp_Rests_init C)) (M_numbers_from : CalleeM P w K mg base C "numbers_from" fN fdN 5 ["self", "tick", "standing", "firsts"] (sp_Rests_numbers_from C)) (C_firsts_from : Callee P w K mg base "firsts_from" 3 ["clock", "tick", "standing", "busy"] sp_firsts_from) (F : FunC K "has_later_rest" s_has_later_rest f fd c) : FnOk P w K mg base CX0 8 f fd ["clock", "tick", "standing"] sp_has_later_rest := by
  refine F.ok sc_has_later_rest (fun vs H Q E h => ?_) (fun A outer s H vs Q E hr h => ⟨_, (pss_cons (ps_set (i := 3) sc_has_later_rest.nd rfl (Or.inl rfl) (pe_callC C_firsts_from hr (by rfl) (pa_cons (pv 0) (pa_cons (pe_op op_add (pv 1) pe_int) (pa_cons (pv 2) (pa_cons (pe_tup pa_nil) pa_nil))))))
    (pss_one (ps_ret (pe_cmpR op_notN (pe_meth (pe_make I_Rests.mks I_Rests.F (hr.mono (by decide)) (by rfl) I_Rests.gl I_Rests.b .nil pass0 (pa_cons (pv 0) pa_nil)) TC.cl M_numbers_from.at_ M_numbers_from.F (hr.mono (by decide)) M_numbers_from.b .nil pass0 (pa_cons (pv 1) (pa_cons (pv 2) (pa_cons (pv 3) pa_nil)))) pe_non (nomark _))))), ?_⟩)
  · obtain ⟨v, k, s0, sa, st, rfl, _⟩ := h; rfl
  · obtain ⟨v, k, s0, sa, st, rfl, hC, ok, hst, so, qn, qs⟩ := h
    refine ⟨_, rfl, _, rfl, _, _, rfl, rfl, _, rfl, by show 0 ≤ sizeLine; decide, fun ea hea => ?_⟩
    have xe : Xn H (upd H ea (.tup [])) := Xt.new hea
    refine ⟨v, k, s0 + 1, sa, ea, st, [], rfl, hC.x xe, ok, xe.tups _ _ hst, so, upd_same, fun H0 F x0 hF => ?_⟩
    have x0 := xe.trans x0
    refine ⟨_, rfl, fun xo dx hxo hdx hne => ?_⟩
    have xm : Xn H0 (upd (upd H0 dx (.own xo)) xo (.ins C dx [])) := (Xt.new hdx).young hxo
    refine ⟨xo, dx, v, k, rfl, (hC.x x0).x xm, ok, upd_same, fun H1 x1 hR => ⟨rfl, ?_⟩⟩
    have x1 := Xt.drop xm hxo x1
    obtain ⟨dx1, Tt, nd, v1, rs, r1, _⟩ := id hR.ex
    have x01 := x0.trans x1
    refine ⟨xo, dx1, _, rfl, r1, rfl3_no _ _ _ (by decide +kernel) (by decide +kernel) (by decide +kernel), ?_⟩
    refine ⟨_, rfl, _, rfl, _, rfl, ?_⟩
    refine ⟨xo, sa, F, s0, k, st, _, rfl, hR, ok, x01.tups _ _ hst, so, x1.keep _ _ (fun z => z) (fun _ z => by cases z) hF, gap_near ok (s0 + 1), fun H3 x3 hn => ?_, fun H3 D N x3 hD hN hin => ?_⟩
    · exact ⟨rfl, qn H3 (x01.trans x3) hn⟩
    · exact ⟨rfl, qs H3 N (x01.trans x3) hN hin⟩

def sp_is_safe (Ts : List Addr) : Sp := fun vs H Q _ => ∃ (v : V) (k : Clk) (s0 : Int) (sa ba : Addr) (st hs : List Int) (i : Nat) (e : Int) (gp : List Int), vs = [v, .int s0, .ref sa, .int i, .ref ba] ∧ ClkAt H v k ∧ k.Ok ∧ H sa = some (.tup (st.map V.int)) ∧ StOk k st ∧ H ba = some (.tup (hs.map V.int)) ∧ hs.length ≤ 100 ∧ Tabs Ts H ∧ k.eds[i]? = some e ∧ k.gps[i]? = some gp ∧
  (∀ H', Xn H H' → (sg st i = e ∨ s0 % k.per ∉ gp) → Q (.bl false) H') ∧
  (∀ H', Xn H H' → sg st i < e → s0 % k.per ∈ gp → NoR k (st.set i (sg st i + 1)) s0 (gapL k (loH s0 (hs ++ [(i : Int)]))) → Q (.bl false) H') ∧
  ∀ H' N, Xn H H' → sg st i < e → s0 % k.per ∈ gp → LeastN k (und k (st.set i (sg st i + 1))) (gapL k (loH s0 (hs ++ [(i : Int)]))) N → InTime k (st.set i (sg st i + 1)) s0 N → Q (.bl true) H'
theorem ok_is_safe (T : Txt mg) (C_rest_beside : Callee P w K mg base "rest_beside" 8 ["clock", "tick", "standing", "busy"] (sp_rest_beside Ts)) (C_raised : Callee P w K mg base "raised" 1 ["standing", "wheel"] sp_raised) (F : FunC K "is_safe" s_is_safe f fd c) : FnOk P w K mg base CX0 9 f fd ["clock", "tick", "standing", "wheel", "busy"] (sp_is_safe Ts) := by
  refine F.ok sc_is_safe (fun vs H Q E h => ?_) (fun A outer s H vs Q E hr h => ⟨_, (pss_cons (ps_if (PW.pt (pw_or (pt_cmpR op_eq (pe_ix (ixK (K := K) rIxT ix_tup rfl) (pv 2) (pv 3) (fun _ _ => rfl)) (pe_ix (ixK (K := K) rIxT ix_tup rfl) (pe_ix (ixK (K := K) rIxT ix_tup rfl) (pv 0) pe_int (fun _ _ => rfl)) (pv 3) (fun _ _ => rfl)) (nomark _)) (pw_or1 (pt_cmpR (opK (K := K) rNinS op_ninS rfl) (pe_op op_modN (pv 1) (pe_ix (ixK (K := K) rIxT ix_tup rfl) (pv 0) pe_int (fun _ _ => rfl))) (pe_ix (ixK (K := K) rIxT ix_tup rfl) (pe_ix (ixK (K := K) rIxT ix_tup rfl) (pv 0) pe_int (fun _ _ => rfl)) (pv 3) (fun _ _ => rfl)) (by rfl))))) (pss_one (ps_ret pe_bl)) pss_nil)
    (pss_one (ps_ret (pe_cmpR op_notN (pe_callC C_rest_beside hr (by rfl) (pa_cons (pv 0) (pa_cons (pv 1) (pa_cons (pe_callC C_raised hr (by rfl) (pa_cons (pv 2) (pa_cons (pv 3) pa_nil))) (pa_cons (pe_op (opK (K := K) rCatA op_catA rfl) (pv 4) (pe_tup (pa_cons (pv 3) pa_nil))) pa_nil))))) pe_non (nomark _))))), ?_⟩)
  · obtain ⟨v, k, s0, sa, ba, st, hs, i, e, gp, rfl, _⟩ := h; rfl
  · obtain ⟨v, k, s0, sa, ba, st, hs, i, e, gp, rfl, hC, ok, hst, so, hb, hlen, hTs, ee, eg, q0, qn, qs⟩ := h
    obtain ⟨⟨ca, ea, t, g, b, rt, rg, rb, rfl, h1, h2, h3, h4, h5, h6, h7, h8⟩⟩ := id hC
    have hi := (List.getElem?_eq_some_iff.mp ee).1
    have hl := ok.len
    have esi : (st.map V.int)[i]? = some (.int (sg st i)) := by
      have := List.getElem?_eq_getElem (show i < st.length by rw [so.len]; exact hi)
      unfold sg
      rw [List.getElem?_map, Int.toNat_natCast, this]; rfl
    obtain ⟨gr, er, hgr⟩ := h6.2 i gp eg
    have sb := st_bd so (i := (i : Int)) (by omega)
    rw [Int.toNat_natCast, ee] at sb
    have sb : 0 ≤ sg st i ∧ sg st i ≤ e := sb
    have p0 := ok.per.1
    refine ⟨_, rfl, _, rfl, rixT_of (j := i) hst rfl esi ⟨_, rfl, rixV 1 h1 rfl rfl ⟨_, rfl, rixI i h2 rfl ee ⟨rfl, ?_⟩⟩⟩⟩
    rw [deceq]
    refine ⟨_, rfl, ?_⟩
    by_cases c1 : sg st i = e
    · rw [decide_eq_true c1]
      exact iteT (iteT (q0 H Xt.refl (.inl c1)))
    · rw [decide_eq_false c1]
      refine iteF ?_
      refine ⟨_, rfl, _, rfl, rixV 0 h1 rfl rfl ⟨_, _, rfl, rfl, by omega, _, rfl, rixV 3 h1 rfl rfl ⟨_, rfl, rixT_of (j := i) h5 rfl er ⟨gr, _, rfl, .inr (SqT.of hgr), rfl, flat_ints _, ?_⟩⟩⟩⟩
      rw [inV_ints, Int.fmod_eq_emod_of_nonneg _ (by omega)]
      by_cases c2 : s0 % k.per ∈ gp
      · refine ⟨false, by rw [if_pos rfl, decide_eq_true c2]; rfl, iteF ?_⟩
        have lt : sg st i < e := by omega
        refine ⟨_, rfl, _, rfl, _, rfl, _, rfl, sa, st, i, rfl, hst, by rw [so.len]; exact hi, by rw [so.len]; omega, fun H1 pr x1 hpr => ?_⟩
        refine ⟨_, rfl, _, rfl, by show 1 ≤ sizeLine; decide, fun p1 hp1 => ?_⟩
        have x2 := x1.trans (Xt.new (S := No) (o := .tup [V.int (i : Int)]) hp1)
        refine LX.catA (x2.tups _ _ hb) upd_same (by rw [List.length_map]; show hs.length + 1 ≤ 1000; omega) fun H3 p3 x3 e3 => ?_
        have x23 := x2.trans x3
        have e3 : H3 p3 = some (.tup ((hs ++ [(i : Int)]).map V.int)) := by rw [List.map_append]; exact e3
        refine ⟨.ref ca, k, s0, pr, p3, _, hs ++ [(i : Int)], rfl, hC.x x23, ok, x3.tups _ _ (upd_old hpr hp1), so.set ee lt, e3, hTs.x x23, fun H4 x4 hn => ?_, fun H4 p rs N x4 _ _ hN hin => ?_⟩
        · exact ⟨rfl, qn H4 (x23.trans x4) lt c2 hn⟩
        · exact ⟨rfl, qs H4 N (x23.trans x4) lt c2 hN hin⟩
      · exact ⟨true, by rw [if_pos rfl, decide_eq_false c2]; rfl, iteT (q0 H Xt.refl (.inr c2))⟩

end K17
-- K17_y5
namespace K17
open PySem PySem.Spec PyProof.Rows L2 LC
variable [Tbl]
variable {P : Program} {w : World} {K : PySem.W.Frag} {mg : Str → Option Value} {base : Heap} {f c : Addr} {fd : FuncData} {Ts : List Addr} {TP : Addr}

theorem getW {f : Nat → V} {xs : List Nat} {i : Nat} {v : V} (h : (xs.map f)[i]? = some v) : ∃ j, xs[i]? = some j ∧ f j = v := by
  rw [List.getElem?_map] at h
  cases e : xs[i]? with
  | none => rw [e] at h; cases h
  | some j => rw [e] at h; exact ⟨j, rfl, Option.some.inj h⟩

def sp_safe_beside (Ts : List Addr) : Sp := fun vs H Q _ => ∃ (v : V) (k : Clk) (s0 : Int) (sa ba : Addr) (st hs : List Int), vs = [v, .int s0, .ref sa, .ref ba] ∧ ClkAt H v k ∧ k.Ok ∧ H sa = some (.tup (st.map V.int)) ∧ StOk k st ∧ H ba = some (.tup (hs.map V.int)) ∧ hs.length ≤ 100 ∧ (∀ i ∈ hs, 0 ≤ i) ∧ 0 ≤ s0 ∧ s0 ≤ 50000 ∧ Tabs Ts H ∧
  ∀ H' p, Xn H H' → H' p = some (.tup ((((List.range k.eds.length).filter fun i : Nat => decide ((i : Int) ∉ hs)).filter fun i => isSafe k st s0 hs i).map fun (i : Nat) => V.int i)) → Q (.ref p) H'
theorem ok_safe_beside (T : Txt mg) (C_is_safe : Callee P w K mg base "is_safe" 9 ["clock", "tick", "standing", "wheel", "busy"] (sp_is_safe Ts)) (F : FunC K "safe_beside" s_safe_beside f fd c) : FnOk P w K mg base CX0 10 f fd ["clock", "tick", "standing", "busy"] (sp_safe_beside Ts) := by
  refine F.ok sc_safe_beside (fun vs H Q E h => ?_) (fun A outer s H vs Q E hr h => ⟨_, (pss_cons (ps_setLc (i := 4) (own := [("wheel", 5)]) rfl sc_safe_beside.nd rfl rfl (sw_true rfl rfl rfl (by decide +kernel)) (pi_range1 (by rfl) T.g_range (pa_cons (pe_callB (crK (K := K) rLenQ cr_len rfl) (by rfl) T.g_len (by decide +kernel) (pa_cons (pv 2) pa_nil)) pa_nil)) (blkOk_by (N := N_safe_beside) (sc := defScope s_safe_beside) (own := [("wheel", 5)]) (by decide +kernel)) (fun _ _ _ _ _ => (pg_name (i := 5) sc_safe_beside.nd rfl (Or.inl rfl))) (fun _ _ _ _ _ => (pts_one (pt_cmpR (opK (K := K) rNinS op_ninS rfl) (pv 5) (pv 3) (by rfl)))) (fun _ _ _ _ _ => (pv 5)))
    (pss_one (ps_ret (pe_callTy (crK (K := K) rTupQ cr_tuple rfl) (by rfl) T.g_tuple (by decide +kernel) (pa_cons (pe_lc (own := [("wheel", 5)]) rfl sc_safe_beside.nd (piK (K := K) iList (pi_list (pv 4)) rfl) (blkOk_by (N := N_safe_beside) (sc := defScope s_safe_beside) (own := [("wheel", 5)]) (by decide +kernel)) (fun _ _ _ _ _ => (pg_name (i := 5) sc_safe_beside.nd rfl (Or.inl rfl))) (fun _ _ _ _ _ => (pts_one (pt_val (pe_callC C_is_safe hr (by rfl) (pa_cons (pv 0) (pa_cons (pv 1) (pa_cons (pv 2) (pa_cons (pv 5) (pa_cons (pv 3) pa_nil))))))))) (fun _ _ _ _ _ => (pv 5))) pa_nil))))), ?_⟩)
  · obtain ⟨v, k, s0, sa, ba, st, hs, rfl, _⟩ := h; rfl
  · obtain ⟨v, k, s0, sa, ba, st, hs, rfl, hC, ok, hst, so, hb, hlen, hpos, s1, s2, hTs, q⟩ := h
    have hl := ok.len
    refine ⟨_, rfl, sa, _, rfl, .inr (SqT.of hst), _, rfl, by rw [List.length_map]; omega, by rw [List.length_map, so.len]; omega, fun D hD => ?_⟩
    have en : ((((st.map V.int).length : Nat) : Int)).toNat = k.eds.length := by rw [Int.toNat_natCast, List.length_map, so.len]
    rw [en]
    refine drvR (lo := 0) (n := k.eds.length) (fun n H' => Xn H H' ∧ H' D = some (.lst (((List.range n).filter fun i : Nat => decide ((i : Int) ∉ hs)).map fun (i : Nat) => V.int i))) ⟨Xt.new hD, upd_same⟩ (fun n H' hn hp => ?_) (fun H1 hp => ?_)
    · obtain ⟨hx, hD'⟩ := hp
      refine ⟨rfl, ⟨_, rfl, _, rfl, ba, _, rfl, .inr (SqT.of (hx.tups _ _ hb)), rfl, flat_ints _, ?_⟩⟩
      rw [inV_ints, Int.zero_add]
      have fl : ((List.range n).filter fun i : Nat => decide ((i : Int) ∉ hs)).length ≤ n := Nat.le_trans (List.length_filter_le _ _) (by rw [List.length_range]; exact Nat.le_refl _)
      rw [List.range_succ, List.filter_append]
      by_cases m : (n : Int) ∈ hs
      · refine ⟨false, by rw [if_pos rfl, decide_eq_true m]; rfl, iteF ⟨hx, ?_⟩⟩
        rw [List.filter_cons_of_neg (by rw [decide_eq_true_eq]; exact fun z => z m), List.filter_nil, List.append_nil]
        exact hD'
      · refine ⟨true, by rw [if_pos rfl, decide_eq_false m]; rfl, iteT ⟨_, rfl, _, hD', sz_lt (by rw [List.length_map]; omega), hx.young hD, ?_⟩⟩
        rw [List.filter_cons_of_pos (by rw [decide_eq_true_eq]; exact m), List.filter_nil, upd_same, List.map_append]; rfl
    · obtain ⟨hx, hD1⟩ := hp
      generalize hws : (List.range k.eds.length).filter (fun i : Nat => decide ((i : Int) ∉ hs)) = ws at hD1 q
      have hwl : ws.length ≤ 12 := by rw [← hws]; refine Nat.le_trans (List.length_filter_le _ _) ?_; rw [List.length_range]; exact hl.2
      refine ⟨_, rfl, D, rfl, ⟨_, SqL.of hD1⟩, fun D2 hD2 => ?_⟩
      refine drvL (xs := ws.map fun (i : Nat) => V.int i) (fun n H' => Xn H1 H' ∧ H' D2 = some (.lst (((ws.take n).filter fun i => isSafe k st s0 hs i).map fun (i : Nat) => V.int i))) ⟨Xt.new hD2, upd_same⟩ (fun n H' _ hp => SqL.of (hp.1.keep D _ (fun z => z) (fun _ z => by cases z) hD1)) (fun n x H' ex hp => ?_) (fun H2 hp => ?_)
      · obtain ⟨hx2, hD2'⟩ := hp
        obtain ⟨i, ei, rfl⟩ := getW ex
        have him : i ∈ (List.range k.eds.length).filter (fun i : Nat => decide ((i : Int) ∉ hs)) := by rw [hws]; exact List.mem_of_getElem? ei
        have hi : i < k.eds.length := List.mem_range.mp (List.mem_filter.mp him).1
        have ee := List.getElem?_eq_getElem hi
        obtain ⟨gp, eg⟩ : ∃ z, k.gps[i]? = some z := ⟨_, List.getElem?_eq_getElem (by rw [ok.gpsN]; exact hi)⟩
        have sb := st_bd so (i := (i : Int)) (by omega)
        rw [Int.toNat_natCast, ee] at sb
        have sb : 0 ≤ sg st i ∧ sg st i ≤ k.eds[i] := sb
        have x02 := hx.trans hx2
        have hbi : ∀ j ∈ hs ++ [(i : Int)], 0 ≤ j := fun j hj => by
          rcases List.mem_append.mp hj with hj | hj
          · exact hpos j hj
          · rw [List.mem_singleton] at hj; omega
        have hn := (List.getElem?_eq_some_iff.mp ei).1
        have fl : ((ws.take n).filter fun i => isSafe k st s0 hs i).length ≤ 12 := Nat.le_trans (List.length_filter_le _ _) (by rw [List.length_take]; omega)
        refine ⟨rfl, _, rfl, _, rfl, _, rfl, _, rfl, _, rfl, v, k, s0, sa, ba, st, hs, i, _, gp, rfl, hC.x x02, ok, x02.tups _ _ hst, so, x02.tups _ _ hb, hlen, hTs.x x02, ee, eg, fun H3 x3 hno => ?_, fun H3 x3 lt hg hno => ?_, fun H3 N x3 lt hg hN hin => ?_⟩
        · have hs0 := isSafe_no (k := k) (st := st) (s0 := s0) (hs := hs) (i := i) fun z => hno.elim (fun y => by have := z.1; rw [ee] at this; have : sg st i < k.eds[i] := this; omega) fun y => y (by have := z.2.1; rw [eg] at this; exact this)
          refine ⟨false, rfl, iteF ⟨hx2.trans x3, ?_⟩⟩
          rw [filt_no ei hs0]
          exact x3.keep _ _ (fun z => z) (fun _ z => by cases z) hD2'
        · have hs0 := isSafe_no (k := k) (st := st) (s0 := s0) (hs := hs) (i := i) fun z => z.2.2 (noR_nil ok (so.set ee lt) s1 s2 hbi hno)
          refine ⟨false, rfl, iteF ⟨hx2.trans x3, ?_⟩⟩
          rw [filt_no ei hs0]
          exact x3.keep _ _ (fun z => z) (fun _ z => by cases z) hD2'
        · have hs1 := isSafe_iff (k := k) (st := st) (s0 := s0) (hs := hs) (i := i) |>.mpr ⟨by rw [ee]; exact lt, by rw [eg]; exact hg, some_restsL ok (so.set ee lt) s1 s2 hbi hN hin⟩
          refine ⟨true, rfl, iteT ⟨_, rfl, _, x3.keep _ _ (fun z => z) (fun _ z => by cases z) hD2', sz_lt (by rw [List.length_map]; omega), (hx2.trans x3).young hD2, ?_⟩⟩
          rw [filt_yes ei hs1, upd_same, List.map_append]; rfl
      · obtain ⟨hx2, hD2'⟩ := hp
        rw [List.length_map, List.take_length] at hD2'
        exact ⟨D2, _, rfl, .inl ⟨SqL.of hD2', fun p hp => q _ p ((hx.trans hx2).trans (Xt.new hp)) upd_same⟩⟩

def sp_safe (Ts : List Addr) : Sp := fun vs H Q _ => ∃ (v : V) (k : Clk) (s0 : Int) (sa : Addr) (st : List Int), vs = [v, .int s0, .ref sa] ∧ ClkAt H v k ∧ k.Ok ∧ 0 ≤ s0 ∧ s0 ≤ 50000 ∧ H sa = some (.tup (st.map V.int)) ∧ StOk k st ∧ Tabs Ts H ∧
  ∀ H' p, Xn H H' → H' p = some (.tup (((List.range k.eds.length).filter fun i => isSafe k st s0 [] i).map fun (i : Nat) => V.int i)) → Q (.ref p) H'
theorem ok_safe (T : Txt mg) (C_check_moment : Callee P w K mg base "check_moment" 9 ["clock", "tick", "standing"] (sp_check_moment Ts)) (C_safe_beside : Callee P w K mg base "safe_beside" 10 ["clock", "tick", "standing", "busy"] (sp_safe_beside Ts)) (F : FunC K "safe" s_safe f fd c) : FnOk P w K mg base CX0 11 f fd ["clock", "tick", "standing"] (sp_safe Ts) := by
  refine F.ok sc_safe (fun vs H Q E h => ?_) (fun A outer s H vs Q E hr h => ⟨_, (pss_cons (ps_expr (pe_callC C_check_moment hr (by rfl) (pa_cons (pv 0) (pa_cons (pv 1) (pa_cons (pv 2) pa_nil)))))
    (pss_one (ps_ret (pe_callC C_safe_beside hr (by rfl) (pa_cons (pv 0) (pa_cons (pv 1) (pa_cons (pv 2) (pa_cons (pe_tup pa_nil) pa_nil)))))))), ?_⟩)
  · obtain ⟨v, k, s0, sa, st, rfl, _⟩ := h; rfl
  · obtain ⟨v, k, s0, sa, st, rfl, hC, ok, s1, s2, hst, so, hTs, q⟩ := h
    refine ⟨_, rfl, _, rfl, _, rfl, v, k, s0, sa, st, rfl, hC, ok, s1, by omega, hst, so, hTs, fun H1 x1 => ?_⟩
    refine ⟨_, rfl, _, rfl, _, rfl, by show 0 ≤ sizeLine; decide, fun ea hea => ?_⟩
    have x2 := x1.trans (Xt.new (S := No) (o := .tup []) hea)
    refine ⟨v, k, s0, sa, ea, st, [], rfl, hC.x x2, ok, x2.tups _ _ hst, so, upd_same, by decide, (fun _ z => nomatch z), s1, s2, hTs.x x2, fun H3 p x3 hp => q H3 p (x2.trans x3) ?_⟩
    have e0 : (List.range k.eds.length).filter (fun i : Nat => decide ((i : Int) ∉ ([] : List Int))) = List.range k.eds.length := List.filter_eq_self.mpr fun i _ => decide_eq_true List.not_mem_nil
    rw [e0] at hp
    exact hp

def sp_may_wait (Ts : List Addr) : Sp := fun vs H Q _ => ∃ (v : V) (k : Clk) (s0 : Int) (sa : Addr) (st : List Int), vs = [v, .int s0, .ref sa] ∧ ClkAt H v k ∧ k.Ok ∧ 0 ≤ s0 ∧ s0 ≤ 50000 ∧ H sa = some (.tup (st.map V.int)) ∧ StOk k st ∧ Tabs Ts H ∧
  (∀ H', Xn H H' → NoR k st s0 (gapL k (loH (s0 + 1) [])) → Q (.bl false) H') ∧ ∀ H' N, Xn H H' → LeastN k (und k st) (gapL k (loH (s0 + 1) [])) N → InTime k st s0 N → Q (.bl true) H'
theorem ok_may_wait (T : Txt mg) (C_check_moment : Callee P w K mg base "check_moment" 9 ["clock", "tick", "standing"] (sp_check_moment Ts)) (C_has_later_rest : Callee P w K mg base "has_later_rest" 8 ["clock", "tick", "standing"] sp_has_later_rest) (F : FunC K "may_wait" s_may_wait f fd c) : FnOk P w K mg base CX0 11 f fd ["clock", "tick", "standing"] (sp_may_wait Ts) := by
  refine F.ok sc_may_wait (fun vs H Q E h => ?_) (fun A outer s H vs Q E hr h => ⟨_, (pss_cons (ps_expr (pe_callC C_check_moment hr (by rfl) (pa_cons (pv 0) (pa_cons (pv 1) (pa_cons (pv 2) pa_nil)))))
    (pss_one (ps_ret (pe_callC C_has_later_rest hr (by rfl) (pa_cons (pv 0) (pa_cons (pv 1) (pa_cons (pv 2) pa_nil))))))), ?_⟩)
  · obtain ⟨v, k, s0, sa, st, rfl, _⟩ := h; rfl
  · obtain ⟨v, k, s0, sa, st, rfl, hC, ok, s1, s2, hst, so, hTs, qn, qs⟩ := h
    refine ⟨_, rfl, _, rfl, _, rfl, v, k, s0, sa, st, rfl, hC, ok, s1, by omega, hst, so, hTs, fun H1 x1 => ?_⟩
    exact ⟨_, rfl, _, rfl, _, rfl, v, k, s0, sa, st, rfl, hC.x x1, ok, x1.tups _ _ hst, so, fun H2 x2 hn => qn H2 (x1.trans x2) hn, fun H2 N x2 hN hin => qs H2 N (x1.trans x2) hN hin⟩

end K17
-- YH
namespace LC
variable [Tbl]
open PySem PySem.Spec PyProof.Rows L2
/-! min and max of one tuple of ints -/

def rMinT (K : PySem.W.Frag) : List V → Hp → VK → Prop := fun vs H Q => ∃ (a : Addr) (ns : List Int), vs = [V.ref a] ∧ SqT K H a (ns.map V.int) ∧ 0 < ns.length ∧ ∀ m, m ∈ ns → (∀ y, y ∈ ns → m ≤ y) → Q (.int m) H
theorem cr_minT {X : Cx} (hc : X.calm = true) : CallR X (.builtin "min") (rMinT X.K) := by
  intro pins s σ H vs us Q I r h
  obtain ⟨a, ns, rfl, hs, hne, q⟩ := h
  obtain ⟨its, rv, hl, _⟩ := I.tuple hs
  rw [Vals.ref1 r]
  have hi := rv.ints
  obtain ⟨xs, e⟩ := hi.allInts.items
  have hn : numsOf (intItems xs).toList = ns := by rw [← e]; exact hi.numsOf
  rw [nums_intItems] at hn
  subst hn
  have hT : s.heap.IsTuple a (intItems xs) := by rw [← e]; exact hl
  have hsz : 0 < xs.size := by simpa using hne
  have hlt : a < s.heap.objs.size := hl.lt
  have hna : a ≠ s.heap.objs.size := Nat.ne_of_lt hlt
  refine call_min_walk (wpAny_pyIter_tuple hT ⟨s.heap.objs.size, _, _, _, _, _, _, rfl, Walks.tuple (A := X.A.in1) (I.ok.hd hc) s.heap.objs.size a hna (intItems xs), ⟨⟨_, Heap.get?_push_size _ rfl, rfl, rfl⟩, ?_⟩, ?_, by simpa [intItems] using hsz, CmpOf.ints_lt (numAt xs) (fun _ _ => intItems_at), fun v h' tk hv hk => ?_⟩)
  · obtain ⟨o, ho, r⟩ := hT
    exact ⟨o, Heap.get?_push_of_some _ ho, r⟩
  · intro b hb
    show b < (s.heap.push _).objs.size
    rw [Heap.size_push]
    rcases List.mem_cons.mp hb with z | z
    · rw [z]; exact Nat.lt_succ_self _
    · rw [List.mem_singleton.mp z]; exact Nat.lt_succ_of_lt hlt
  · have hk' : ∀ b o, s.heap.get? b = some o → h'.get? b = some o := fun b o e => hk b o (fun z => by rw [List.mem_singleton.mp z] at e; exact absurd (Heap.lt_size e) (Nat.lt_irrefl _)) (Heap.get?_push_of_some _ e)
    have hsz2 : (intItems xs).size = xs.size := by simp [intItems]
    rw [hsz2] at hv
    obtain ⟨t, rfl⟩ := intItems_at hv
    obtain ⟨h1, h2⟩ := argBest_lt (numAt xs) (xs.size - 1)
    refine ⟨.int _, H, I.kept (t' := tk) hk', ⟨_, rfl⟩, q _ ?_ fun y hy => ?_⟩
    · rw [numAt_eq]; exact PySem.getD_mem (by rw [List.length_map, Array.length_toList]; omega)
    · obtain ⟨j, hj, rfl⟩ := mem_getD hy
      rw [List.length_map, Array.length_toList] at hj
      rw [← numAt_eq]; exact h2 j (by omega)

def rMaxT (K : PySem.W.Frag) : List V → Hp → VK → Prop := fun vs H Q => ∃ (a : Addr) (ns : List Int), vs = [V.ref a] ∧ SqT K H a (ns.map V.int) ∧ 0 < ns.length ∧ ∀ m, m ∈ ns → (∀ y, y ∈ ns → y ≤ m) → Q (.int m) H
theorem cr_maxT {X : Cx} (hc : X.calm = true) : CallR X (.builtin "max") (rMaxT X.K) := by
  intro pins s σ H vs us Q I r h
  obtain ⟨a, ns, rfl, hs, hne, q⟩ := h
  obtain ⟨its, rv, hl, _⟩ := I.tuple hs
  rw [Vals.ref1 r]
  have hi := rv.ints
  obtain ⟨xs, e⟩ := hi.allInts.items
  have hn : numsOf (intItems xs).toList = ns := by rw [← e]; exact hi.numsOf
  rw [nums_intItems] at hn
  subst hn
  have hT : s.heap.IsTuple a (intItems xs) := by rw [← e]; exact hl
  have hsz : 0 < xs.size := by simpa using hne
  have hlt : a < s.heap.objs.size := hl.lt
  have hna : a ≠ s.heap.objs.size := Nat.ne_of_lt hlt
  refine call_max_walk (wpAny_pyIter_tuple hT ⟨s.heap.objs.size, _, _, _, _, _, _, rfl, Walks.tuple (A := X.A.in1) (I.ok.hd hc) s.heap.objs.size a hna (intItems xs), ⟨⟨_, Heap.get?_push_size _ rfl, rfl, rfl⟩, ?_⟩, ?_, by simpa [intItems] using hsz, CmpOf.ints_gt (numAt xs) (fun _ _ => intItems_at), fun v h' tk hv hk => ?_⟩)
  · obtain ⟨o, ho, r⟩ := hT
    exact ⟨o, Heap.get?_push_of_some _ ho, r⟩
  · intro b hb
    show b < (s.heap.push _).objs.size
    rw [Heap.size_push]
    rcases List.mem_cons.mp hb with z | z
    · rw [z]; exact Nat.lt_succ_self _
    · rw [List.mem_singleton.mp z]; exact Nat.lt_succ_of_lt hlt
  · have hk' : ∀ b o, s.heap.get? b = some o → h'.get? b = some o := fun b o e => hk b o (fun z => by rw [List.mem_singleton.mp z] at e; exact absurd (Heap.lt_size e) (Nat.lt_irrefl _)) (Heap.get?_push_of_some _ e)
    have hsz2 : (intItems xs).size = xs.size := by simp [intItems]
    rw [hsz2] at hv
    obtain ⟨t, rfl⟩ := intItems_at hv
    obtain ⟨h1, h2⟩ := argBest_gt (numAt xs) (xs.size - 1)
    refine ⟨.int _, H, I.kept (t' := tk) hk', ⟨_, rfl⟩, q _ ?_ fun y hy => ?_⟩
    · rw [numAt_eq]; exact PySem.getD_mem (by rw [List.length_map, Array.length_toList]; omega)
    · obtain ⟨j, hj, rfl⟩ := mem_getD hy
      rw [List.length_map, Array.length_toList] at hj
      rw [← numAt_eq]; exact h2 j (by omega)

theorem nePls_nil {K : PySem.W.Frag} {H : Hp} {S T : Addr} {rs : List V} {pls : List (List (List Int))} {Q : VK} (h : H S = some (.lst rs)) (r : Plns H rs pls) (e : H T = some (.lst [])) (q : Q (.bl (!pls.isEmpty)) H) : rNeD K (.ref S) (.ref T) H Q := by
  refine ⟨.list (pls.map planP), .list [], .lst (SqL.of h) (dpPls r), .lst (SqL.of e) .nil, shpPls pls, PySem.W.ke_shaped_ints [], ?_⟩
  cases pls with
  | nil => exact q
  | cons x xs => exact q
theorem eqvI : ∀ a b : List Int, PyData.eqvAll (a.map PyData.int) (b.map PyData.int) = true → a = b
  | [], [], _ => rfl
  | [], b :: bs, h => by simp [PyData.eqvAll] at h
  | a :: as, [], h => by simp [PyData.eqvAll] at h
  | a :: as, b :: bs, h => by
    have h : (PyData.eqv (.int a) (.int b) && PyData.eqvAll (as.map .int) (bs.map .int)) = true := h
    rw [Bool.and_eq_true] at h
    have e1 : a = b := by have := h.1; simpa [PyData.eqv] using this
    rw [e1, eqvI as bs h.2]
theorem eqvR : ∀ f g : List (List Int), PyData.eqvAll (rowsP f) (rowsP g) = true → f = g
  | [], [], _ => rfl
  | [], b :: bs, h => by simp [PyData.eqvAll, rowsP] at h
  | a :: as, [], h => by simp [PyData.eqvAll, rowsP] at h
  | a :: as, b :: bs, h => by
    have h : (PyData.eqvAll (a.map .int) (b.map .int) && PyData.eqvAll (rowsP as) (rowsP bs)) = true := h
    rw [Bool.and_eq_true] at h
    rw [eqvI a b h.1, eqvR as bs h.2]
theorem eqvP {f g : List (List Int)} (h : PyData.eqv (planP f) (planP g) = true) : f = g := eqvR f g h
/-- whether a plan is among plans -/
theorem in_plansD {K : PySem.W.Frag} {H : Hp} {S : Addr} {v : V} {rs : List V} {pls : List (List (List Int))} {pl : List (List Int)} {Q : VK} (hv : PlnAt H v pl) (h : H S = some (.lst rs)) (r : Plns H rs pls) (q : ∀ b : Bool, (b = true → pl ∈ pls) → Q (.bl b) H) : rInD K v (.ref S) H Q := by
  refine ⟨planP pl, pls.map planP, dpPl hv, .lst (SqL.of h) (dpPls r), shpPl pl, shpPls pls, q _ fun e => ?_⟩
  rw [List.any_eq_true] at e
  obtain ⟨z, hz, e⟩ := e
  obtain ⟨p, hp, rfl⟩ := List.mem_map.mp hz
  rw [← eqvP e]; exact hp
end LC
-- K17_z2
namespace K17
open PySem PySem.Spec PyProof.Rows L2 LC
variable [Tbl]
variable {P : Program} {w : World} {K : PySem.W.Frag} {mg : Str → Option Value} {base : Heap} {f c : Addr} {fd : FuncData} {Ts : List Addr} {TP : Addr}

def sp_law (K : PySem.W.Frag) (Ts : List Addr) : Sp := fun vs H Q _ => ∃ (scr : Addr) (ns : List Int), vs = [.ref scr] ∧ SqL K H scr (ns.map V.int) ∧ Tabs Ts H ∧ ∀ H', Q (.bl true) H'
theorem dI_dep3 (rs : List Int) : (D.tup (rs.map D.int)).dep < 3 := by
  show D.deps (rs.map D.int) + 1 < 3
  rw [deps_ints]; decide
theorem ok_law (T : Txt mg) (C_law_tiny : Callee P w K mg base "_law_tiny" 3 ["row"] (sp_law_tiny K)) (C_law_taken : Callee P w K mg base "_law_taken" 1 ["row", "many"] (sb_taken K)) (C_law_rests : Callee P w K mg base "_law_rests" 4 ["clock", "tick", "standing", "held"] sp_law_rests) (C_law_alike : Callee P w K mg base "_law_alike" 3 ["found", "wished"] (sp_alike 3)) (C_safe : Callee P w K mg base "safe" 11 ["clock", "tick", "standing"] (sp_safe Ts)) (C_may_wait : Callee P w K mg base "may_wait" 11 ["clock", "tick", "standing"] (sp_may_wait Ts)) (F : FunC K "law" s_law f fd c) : FnOk P w K mg base CX0 12 f fd ["script"] (sp_law K Ts) := by
  refine F.ok sc_law (fun vs H Q E h => ?_) (fun A outer s H vs Q E hr h => ⟨_, (pss_cons (ps_set (i := 1) sc_law.nd rfl (Or.inr rfl) (pe_lst (pa_cons (pv 0) (pa_cons pe_int (pa_cons pe_int (pa_cons pe_int pa_nil))))))
    (pss_cons (ps_par (i := 5) (j := 6) rfl sc_law.nd rfl rfl (by decide) rfl rfl (pa_cons (pe_callC C_law_tiny hr (by rfl) (pa_cons (pv 1) pa_nil)) (pa_cons (pe_callC C_law_taken hr (by rfl) (pa_cons (pv 1) (pa_cons pe_int pa_nil))) pa_nil)) (by rfl))
    (pss_cons (ps_set (i := 2) sc_law.nd rfl (Or.inl rfl) (pe_callTy (crK (K := K) rTupQ cr_tuple rfl) (by rfl) T.g_tuple (by decide +kernel) (pa_cons (pe_lc (own := [("last", 8)]) rfl sc_law.nd (piK (K := K) iTup (pi_tup (pe_ix (ixK (K := K) rIxT ix_tup rfl) (pv 5) pe_int (fun _ _ => rfl))) rfl) (blkOk_by (N := N_law) (sc := defScope s_law) (own := [("last", 8)]) (by decide +kernel)) (fun _ _ _ _ _ => (pg_name (i := 8) sc_law.nd rfl (Or.inl rfl))) (fun _ _ _ _ _ => pts_nil) (fun _ _ _ _ _ => (pe_callC C_law_taken hr (by rfl) (pa_cons (pv 1) (pa_cons (pe_op op_add (pv 8) pe_int) pa_nil))))) pa_nil)))
    (pss_cons (ps_set (i := 3) sc_law.nd rfl (Or.inl rfl) (pe_lst pa_nil))
    (pss_cons (ps_for PassesOwn.never rfl (piA (K := K) iEnumT (pi_enumT (by rfl) T.g_enumerate (pa_cons (pe_ix (ixK (K := K) rIxT ix_tup rfl) (pv 5) pe_int (fun _ _ => rfl)) pa_nil)) rfl) (pg_tup rfl (pgs_cons (pg_name (i := 7) sc_law.nd rfl (Or.inl rfl)) (pgs_cons (pg_name (i := 8) sc_law.nd rfl (Or.inl rfl)) pgs_nil))) (pss_one (ps_if (PW.pt (pw_and (pt_cmpR op_lt (pe_ix (ixK (K := K) rIxT ix_tup rfl) (pv 2) (pv 7) (fun _ _ => rfl)) (pv 8) (nomark _)) (pw_and1 (pt_cmpR (opK (K := K) rInS op_inS rfl) (pe_op op_modN (pe_callTy call_int1 (by rfl) T.g_int (by decide +kernel) (pa_cons (pv 6) pa_nil)) (pe_ix (ixK (K := K) rIxT ix_tup rfl) (pv 5) pe_int (fun _ _ => rfl))) (pe_ix (ixK (K := K) rIxT ix_tup rfl) (pe_ix (ixK (K := K) rIxT ix_tup rfl) (pv 5) pe_int (fun _ _ => rfl)) (pv 7) (fun _ _ => rfl)) (by rfl))))) (pss_cons (ps_set (i := 9) sc_law.nd rfl (Or.inl rfl) (pe_op (opK (K := K) rCatA op_catA rfl) (pe_op (opK (K := K) rCatA op_catA rfl) (pe_slice (slK (K := K) rSlA sl_tupA rfl) (pv 2) po_none (po_some (pv 7))) (pe_tup (pa_cons (pe_op op_add (pe_ix (ixK (K := K) rIxT ix_tup rfl) (pv 2) (pv 7) (fun _ _ => rfl)) pe_int) pa_nil))) (pe_slice (slK (K := K) rSlA sl_tupA rfl) (pv 2) (po_some (pe_op op_add (pv 7) pe_int)) po_none)))
    (pss_one (ps_if (pt_cmpR (op_neD hr.units) (pe_callC C_law_rests hr (by rfl) (pa_cons (pv 5) (pa_cons (pv 6) (pa_cons (pv 9) (pa_cons (pe_lst (pa_cons (pv 7) pa_nil)) pa_nil))))) (pe_lst pa_nil) (nomark _)) (pss_one (ps_expr (pe_bm PySem.F.plainAttrs_list PySem.F.slot_list_append PySem.F.type_list_append mt_append (pv 3) (pa_cons (pv 7) pa_nil)))) pss_nil))) pss_nil)))
    (pss_cons (ps_if (pt_not (pt_val (pe_callC C_law_alike hr (by rfl) (pa_cons (pe_callC C_safe hr (by rfl) (pa_cons (pv 5) (pa_cons (pv 6) (pa_cons (pv 2) pa_nil)))) (pa_cons (pe_callTy (crK (K := K) rTupQ cr_tuple rfl) (by rfl) T.g_tuple (by decide +kernel) (pa_cons (pv 3) pa_nil)) pa_nil))))) (pss_one (ps_ret pe_bl)) pss_nil)
    (pss_cons (ps_set (i := 4) sc_law.nd rfl (Or.inl rfl) (pe_listRg rfl (by rfl) T.g_list (prg_1 (by rfl) T.g_range (pe_callB (crK (K := K) rLenQ cr_len rfl) (by rfl) T.g_len (by decide +kernel) (pa_cons (pe_ix (ixK (K := K) rIxT ix_tup rfl) (pv 5) pe_int (fun _ _ => rfl)) pa_nil)))))
    (pss_one (ps_ret (pe_callC C_law_alike hr (by rfl) (pa_cons (pe_callC C_may_wait hr (by rfl) (pa_cons (pv 5) (pa_cons (pv 6) (pa_cons (pv 2) pa_nil)))) (pa_cons (pe_cmpR (op_neD hr.units) (pe_callC C_law_rests hr (by rfl) (pa_cons (pv 5) (pa_cons (pv 6) (pa_cons (pv 2) (pa_cons (pv 4) pa_nil))))) (pe_lst pa_nil) (nomark _)) pa_nil)))))))))))), ?_⟩)
  · obtain ⟨scr, ns, rfl, _⟩ := h; rfl
  · obtain ⟨scr, ns, rfl, hsc, hTs, q⟩ := h
    refine ⟨_, rfl, by show 4 ≤ sizeLine; decide, fun row hrow => ?_⟩
    have hR0 : RowAt K (upd H row (.lst [.ref scr, .int 0, .int 6017, .int 0])) row scr ns := by
      refine ⟨⟨0, 6017, 0, upd_same, by decide, by decide, by decide, by decide⟩, sqL_x (Xt.new hrow) hsc, ?_⟩
      rcases hsc with (h | ⟨o, h⟩) | h
      · exact .inl (ne_none h hrow)
      · exact .inl (ne_none h hrow)
      · exact .inr h
    have hTs1 := hTs.x (Xt.new (S := No) (o := .lst [.ref scr, .int 0, .int 6017, .int 0]) hrow)
    refine ⟨_, rfl, row, scr, ns, rfl, hR0, fun H2 cv k x2 hR2 hC ok hs3 hp3 hl3 hl2 => ?_⟩
    have hTs2 := hTs1.x x2
    clear x2 hR0 hTs hsc hTs1
    obtain ⟨⟨ca, e, t, g, b, rt, rg, rb, rfl, h1, h2, h3, h4, h5, h6, h7, h8⟩⟩ := id hC
    refine ⟨_, rfl, row, scr, ns, 9, rfl, hR2, by decide, by decide, fun H3 tick s1 s2 x3 hR3 => ?_⟩
    have x23 : Xt (At1 row) H2 H3 := x3
    refine ⟨_, _, rfl, ?_⟩
    refine ⟨_, rfl, rixV 1 (x23.tups _ _ h1) rfl rfl ⟨e, rfl, ⟨_, SqT.of (x23.tups _ _ h2)⟩, fun D hD => ?_⟩⟩
    have nDr : D ≠ row := hR3.nn hD
    refine drvT (xs := k.eds.map V.int) (fun n H' => Xt (At1 row) H3 H' ∧ RowAt K H' row scr ns ∧ ∃ acc : List Int, H' D = some (.lst (acc.map V.int)) ∧ acc.length = n ∧ ∀ (i : Nat) (s e : Int), acc[i]? = some s → k.eds[i]? = some e → 0 ≤ s ∧ s ≤ e)
      ⟨Xt.new hD, hR3.x (Xt.new hD), [], upd_same, rfl, fun i s e h => by simp at h⟩ (fun n H' _ hp => SqT.of (hp.1.tups _ _ (x23.tups _ _ h2))) (fun n x H' ex hp => ?_) (fun H4 hp => ?_)
    · obtain ⟨hx, hR, acc, hD', hal, hab⟩ := hp
      obtain ⟨ed, ee, rfl⟩ := getI ex
      have ed0 := ok.eds ed (List.mem_of_getElem? ee)
      have hn := (List.getElem?_eq_some_iff.mp ee).1
      refine ⟨rfl, yes_of ⟨_, rfl, _, rfl, _, _, rfl, rfl, row, scr, ns, ed + 1, rfl, hR, by omega, by omega, fun H5 t t0 t1 x5 hR5 => ?_⟩⟩
      have hD5 := x5.keep D _ nDr (fun _ z => by cases z) hD'
      refine ⟨_, hD5, sz_lt (by rw [List.length_map]; omega), (hx.trans x5).young hD, hR3.yo ((hx.trans x5).young hD) hR5 nDr, acc ++ [t], by rw [upd_same, List.map_append]; rfl, by rw [List.length_append, hal]; rfl, fun i s e' hs he' => ?_⟩
      by_cases z : i < acc.length
      · rw [List.getElem?_append_left z] at hs
        exact hab i s e' hs he'
      · have hi : i = n := by
          have := (List.getElem?_eq_some_iff.mp hs).1
          rw [List.length_append] at this
          have : i < acc.length + 1 := this
          omega
        subst hi
        rw [List.getElem?_append_right (by omega), hal, Nat.sub_self] at hs
        cases hs
        rw [ee] at he'; cases he'
        omega
    obtain ⟨hx, hR4, st, hD4, hsl, hsb⟩ := hp
    rw [List.length_map] at hsl
    have so : StOk k st := ⟨hsl, hsb⟩
    have hsbd := hsb
    refine ⟨D, _, rfl, .inl ⟨SqL.of hD4, fun sa hsa => ?_⟩⟩
    have x45 : Xn H4 (upd H4 sa (.tup (st.map V.int))) := Xt.new hsa
    have hst5 : upd H4 sa (.tup (st.map V.int)) sa = some (.tup (st.map V.int)) := upd_same
    generalize upd H4 sa (.tup (st.map V.int)) = H5 at x45 hst5 ⊢
    have x25 : Xt (At1 row) H2 H5 := (x23.trans hx).trans x45.any
    have hC5 := hC.x x25
    have hTs5 := hTs2.x x25
    have h1 := x25.tups _ _ h1
    have h2 := x25.tups _ _ h2
    have h5 := x25.tups _ _ h5
    have h6 := h6.x x25
    clear h3 h4 h7 h8 hD4 hR4 hR3 hR2 hC hTs2 hx x45 x23 x3 x25 nDr
    refine ⟨by show 0 ≤ sizeLine; decide, fun G hG => ?_⟩
    have xG : Xn H5 (upd H5 G (.lst [])) := Xt.new hG
    have hGe : upd H5 G (.lst []) G = some (.lst []) := upd_same
    generalize upd H5 G (.lst []) = H6 at xG hGe ⊢
    have h1 := xG.tups _ _ h1
    have h2 := xG.tups _ _ h2
    have h5 := xG.tups _ _ h5
    have h6 := h6.x xG
    have hst := xG.tups _ _ hst5
    have hC6 := hC5.x xG
    have hTs6 := hTs5.x xG
    have p0 := ok.per.1
    refine ⟨_, rfl, rixV 1 h1 rfl rfl ⟨e, k.eds.map V.int, rfl, SqT.of h2, ?_⟩⟩
    refine for_enumT (xs := k.eds.map V.int) (fun n σ H' => ∃ x7 x8 x9, σ = [some (.ref scr), some (.ref row), some (.ref sa), some (.ref G), none, some (.ref ca), some (.int tick), x7, x8, x9] ∧ Xt (At1 G) H6 H' ∧ H' G = some (.lst (((List.range n).filter fun i => isSafe k st tick [] i).map fun (i : Nat) => V.int i))) ⟨_, _, _, rfl, Xt.refl, hGe⟩ (fun n σ H' _ hp => ?_) (fun n x TT σ H' ex hp hTT => ?_) (fun σ H7 hp => ?_)
    · obtain ⟨_, _, _, _, x, _⟩ := hp
      exact SqT.of (x.tups _ _ h2)
    · obtain ⟨x7, x8, x9, rfl, xx, hGG⟩ := hp
      obtain ⟨ed, ee, rfl⟩ := getI ex
      have hn := (List.getElem?_eq_some_iff.mp ee).1
      obtain ⟨gp, eg⟩ : ∃ z, k.gps[n]? = some z := ⟨_, List.getElem?_eq_getElem (by rw [ok.gpsN]; exact hn)⟩
      have esn' : st[n]? = some (sg st n) := by
        have := List.getElem?_eq_getElem (show n < st.length by rw [so.len]; exact hn)
        unfold sg
        rw [Int.toNat_natCast, this]; rfl
      have esn : (st.map V.int)[n]? = some (.int (sg st n)) := by
        have := List.getElem?_eq_getElem (show n < st.length by rw [so.len]; exact hn)
        unfold sg
        rw [List.getElem?_map, Int.toNat_natCast, this]; rfl
      have xT : Xn H' (upd H' TT (.tup [.int (n : Nat), .int ed])) := Xt.new hTT
      have hTe : upd H' TT (.tup [.int (n : Nat), .int ed]) TT = some (.tup [.int (n : Nat), .int ed]) := upd_same
      generalize upd H' TT (.tup [.int (n : Nat), .int ed]) = H8 at xT hTe ⊢
      have xx8 := xx.trans xT.any
      have hG8 := xT.keep G _ (fun z => z) (fun _ z => by cases z) hGG
      have fl : ((List.range n).filter fun i => isSafe k st tick [] i).length ≤ n := Nat.le_trans (List.length_filter_le _ _) (by rw [List.length_range]; exact Nat.le_refl _)
      have hst8 := xx8.tups _ _ hst
      obtain ⟨gr, er, hgr⟩ := (h6.x xx8).2 n gp eg
      have no : isSafe k st tick [] n = false → ∀ H9, Xn H8 H9 → Xt (At1 G) H6 H9 ∧ H9 G = some (.lst (((List.range (n + 1)).filter fun i => isSafe k st tick [] i).map fun (i : Nat) => V.int i)) := fun z H9 x9 => by
        refine ⟨xx8.trans x9.any, ?_⟩
        rw [List.range_succ, List.filter_append, List.filter_cons_of_neg (by rw [z]; exact Bool.false_ne_true), List.filter_nil, List.append_nil]
        exact x9.keep _ _ (fun z => z) (fun _ z => by cases z) hG8
      refine ⟨TT, _, rfl, SqT.of hTe, rfl, _, _, rfl, _, _, rfl, rfl, ?_⟩
      refine ⟨_, rfl, _, rfl, rixT_of (j := n) hst8 rfl esn ⟨_, rfl, _, _, rfl, rfl, _, rfl, ?_⟩⟩
      by_cases c1 : sg st n < ed
      · rw [decide_eq_true c1]
        refine iteT ⟨_, rfl, .inl ⟨_, rfl, _, rfl, rixV 0 (xx8.tups _ _ h1) rfl rfl ⟨_, _, rfl, rfl, by omega, _, rfl, rixV 3 (xx8.tups _ _ h1) rfl rfl ⟨_, rfl, rixT_of (j := n) (xx8.tups _ _ h5) rfl er ⟨gr, _, rfl, .inr (SqT.of hgr), rfl, flat_ints _, ?_⟩⟩⟩⟩⟩
        rw [inV_ints, Int.fmod_eq_emod_of_nonneg _ (by omega)]
        by_cases c2 : tick % k.per ∈ gp
        · refine ⟨true, by rw [if_neg Bool.false_ne_true]; exact congrArg V.bl (decide_eq_true c2), iteT ?_⟩
          have sb := hsbd n (sg st n) ed esn' ee
          have son := so.set ee c1
          have e12 := ok.len.2
          refine ⟨_, rfl, _, rfl, _, rfl, LX.sl_to (k := n) hst8 (by rw [List.length_map, so.len]; omega) fun I1 p1 y1 e1 => ?_⟩
          refine ⟨_, rfl, _, rfl, rixT_of (j := n) (y1.tups _ _ hst8) rfl esn ⟨_, _, rfl, rfl, by show 1 ≤ sizeLine; decide, fun p2 hp2 => ?_⟩⟩
          have y2 := y1.trans (Xt.new (S := No) (o := .tup [V.int (sg st n + 1)]) hp2)
          refine LX.catA (upd_old e1 hp2) upd_same (by rw [List.length_take, List.length_map]; show min n st.length + 1 ≤ 1000; omega) fun I3 p3 y3 e3 => ?_
          have y23 := y2.trans y3
          refine ⟨_, rfl, _, rfl, _, _, rfl, rfl, _, rfl, LX.sl_fromN (k := n + 1) (y23.tups _ _ hst8) (by omega) (by rw [List.length_map, so.len]; omega) fun I4 p4 y4 e4 => ?_⟩
          refine LX.catA (y4.tups _ _ e3) e4 (by rw [List.length_append, List.length_take, List.length_drop, List.length_map, so.len]; show min n k.eds.length + 1 + _ ≤ 1000; omega) fun I5 p5 y5 e5 => ?_
          rw [set_cat (by rw [so.len]; exact hn)] at e5
          have y15 := y23.trans (y4.trans y5)
          clear y1 y2 y3 y4 y5 y23 e1 e3 e4
          refine ⟨_, rfl, _, rfl, _, rfl, _, rfl, by show 1 ≤ sizeLine; decide, fun hl hhl => ?_⟩
          have y6 := y15.trans (Xt.new (S := No) (o := .lst [V.int (n : Int)]) hhl)
          refine ⟨.ref ca, k, tick, p5, hl, _, [(n : Int)], rfl, (hC6.x xx8).x y6, ok, son, hs3, hl3, hp3, s1, by omega, upd_old e5 hhl, upd_same, by show 1 ≤ 12; decide, fun i hi => by rw [List.mem_singleton] at hi; omega, fun I7 l rs y7 hln hl7 hrs => ⟨by show 0 ≤ sizeLine; decide, fun n0 hn0 => nePls_nil (upd_old hl7 hn0) (hrs.x (Xt.new (S := No) hn0)) upd_same ⟨_, rfl, ?_⟩⟩⟩
          have y8 := (y6.trans y7).trans (Xt.new (S := No) (o := .lst []) hn0)
          generalize upd I7 n0 (.lst []) = I8 at y8 ⊢
          by_cases z : restsL k (st.set n (sg st n + 1)) tick [(n : Int)] = []
          · rw [z]
            exact iteF ⟨_, _, _, rfl, no (isSafe_no fun y => y.2.2 z) I8 y8⟩
          · have zb : (!(restsL k (st.set n (sg st n + 1)) tick [(n : Int)]).isEmpty) = true := by
              cases y : restsL k (st.set n (sg st n + 1)) tick [(n : Int)] with
              | nil => exact absurd y z
              | cons _ _ => rfl
            rw [zb]
            have hs1 : isSafe k st tick [] n = true := isSafe_iff.mpr ⟨by rw [ee]; exact c1, by rw [eg]; exact c2, z⟩
            have hG9 := y8.keep G _ (fun z => z) (fun _ z => by cases z) hG8
            refine iteT ⟨_, rfl, .inl ⟨rfl, _, SqL.of hG9⟩, _, rfl, G, _, _, rfl, rfl, hG9, sz_lt (by rw [List.length_map]; omega), _, _, _, rfl, (xx8.trans y8.any).trans (Xt.own rfl hG9), ?_⟩
            rw [List.range_succ, List.filter_append, List.filter_cons_of_pos hs1, List.filter_nil, upd_same, List.map_append]; rfl
        · refine ⟨false, by rw [if_neg Bool.false_ne_true]; exact congrArg V.bl (decide_eq_false c2), iteF ⟨_, _, _, rfl, no (isSafe_no fun z => c2 (by have := z.2.1; rw [eg] at this; exact this)) H8 Xt.refl⟩⟩
      · rw [decide_eq_false c1]
        exact iteF (iteF ⟨_, _, _, rfl, no (isSafe_no fun z => c1 (by have := z.1; rw [ee] at this; exact this)) H8 Xt.refl⟩)
    · obtain ⟨x7, x8, x9, rfl, xx, hGG⟩ := hp
      rw [List.length_map] at hGG
      have hC7 := hC6.x xx
      have hTs7 := hTs6.x xx
      have hst7 := xx.tups _ _ hst
      refine ⟨_, rfl, _, rfl, _, rfl, .ref ca, k, tick, sa, st, rfl, hC7, ok, s1, by omega, hst7, so, hTs7, fun H8 p x8 hp => ?_⟩
      obtain ⟨ws, ews⟩ : ∃ z, ((List.range k.eds.length).filter fun i => isSafe k st tick [] i).map (fun (i : Nat) => (i : Int)) = z := ⟨_, rfl⟩
      have ew : ((List.range k.eds.length).filter fun i => isSafe k st tick [] i).map (fun (i : Nat) => V.int i) = ws.map V.int := by rw [← ews, List.map_map]; rfl
      have ewl : ws.length ≤ 12 := by
        rw [← ews, List.length_map]
        refine Nat.le_trans (List.length_filter_le _ _) ?_
        rw [List.length_range]; exact ok.len.2
      rw [ew] at hGG hp
      refine ⟨_, rfl, G, _, rfl, .inl ⟨SqL.of (x8.keep _ _ (fun z => z) (fun _ z => by cases z) hGG), fun p2 hp2 => ?_⟩⟩
      refine ⟨.ref p, .ref p2, LC.D.tup (ws.map LC.D.int), rfl, dI_dep3 _, dI_sm (by omega), at_ints.mpr ⟨p, rfl, upd_old hp hp2⟩, at_ints.mpr ⟨p2, rfl, upd_same⟩, fun H9 y9 => ⟨true, rfl, iteF ?_⟩⟩
      have x9 := (x8.trans (Xt.new (S := No) (o := .tup (ws.map V.int)) hp2)).trans y9
      have h1 := x9.tups _ _ (xx.tups _ _ h1)
      have h2 := x9.tups _ _ (xx.tups _ _ h2)
      have el : ((((k.eds.map V.int).length : Nat) : Int)) = (k.eds.length : Int) := by rw [List.length_map]
      refine ⟨_, rfl, rixV 1 h1 rfl rfl ⟨e, _, rfl, .inr (SqT.of h2), _, rfl, RgOk.of_le (by decide) (by rw [el]; omega) (by decide) (by rw [el]; omega), fun ev hev => ?_⟩⟩
      have ervl : rgV 0 (((k.eds.map V.int).length : Nat) : Int) = ((List.range k.eds.length).map fun (i : Nat) => (i : Int)).map V.int := by
        unfold rgV
        rw [el, List.map_map, Int.sub_zero, Int.toNat_natCast]
        refine List.map_congr_left fun i _ => ?_
        show V.int (0 + (i : Int)) = V.int i
        rw [Int.zero_add]
      rw [ervl]
      have x10 := x9.trans (Xt.new (S := No) (o := .lst (((List.range k.eds.length).map fun (i : Nat) => (i : Int)).map V.int)) hev)
      have hev10 : upd H9 ev (.lst (((List.range k.eds.length).map fun (i : Nat) => (i : Int)).map V.int)) ev = _ := upd_same
      generalize upd H9 ev (.lst (((List.range k.eds.length).map fun (i : Nat) => (i : Int)).map V.int)) = H10 at x10 hev10 ⊢
      have hC10 := hC7.x x10
      have hTs10 := hTs7.x x10
      have hst10 := x10.tups _ _ hst7
      have hrg : ∀ i ∈ (List.range k.eds.length).map (fun (i : Nat) => (i : Int)), 0 ≤ i ∧ i < k.eds.length := fun i hi => by
        obtain ⟨j, hj, rfl⟩ := List.mem_map.mp hi
        have := List.mem_range.mp hj
        omega
      have hpos : ∀ i ∈ (List.range k.eds.length).map (fun (i : Nat) => (i : Int)), 0 ≤ i := fun i hi => (hrg i hi).1
      have ge := gap_every (k := k) (st := st) (s0 := tick) (n := k.eds.length) rfl
      refine ⟨_, rfl, _, rfl, _, rfl, .ref ca, k, tick, sa, st, rfl, hC10, ok, s1, by omega, hst10, so, hTs10, fun H11 x11 hno => ?_, fun H11 N x11 hN hin => ?_⟩
      · have eb : (!(restsL k st tick ((List.range k.eds.length).map fun (i : Nat) => (i : Int))).isEmpty) = false := by rw [noR_nil ok so s1 (by omega) hpos (hno.congr ge)]; rfl
        refine ⟨_, rfl, _, rfl, _, rfl, _, rfl, .ref ca, k, tick, sa, ev, st, ((List.range k.eds.length).map fun (i : Nat) => (i : Int)), rfl, hC10.x x11, ok, so, hs3, hl3, hp3, s1, by omega, x11.tups _ _ hst10, x11.keep _ _ (fun z => z) (fun _ z => by cases z) hev10, by rw [List.length_map, List.length_range]; omega, hrg, fun J l rs y12 hln hl hrs => ⟨by show 0 ≤ sizeLine; decide, fun n0 hn0 => nePls_nil (upd_old hl hn0) (hrs.x (Xt.new (S := No) hn0)) upd_same ?_⟩⟩
        rw [eb]
        exact ⟨_, _, LC.D.bl _, rfl, (by show 0 < 3; decide), rfl, (by unfold At; rfl), (by unfold At; rfl), fun H' y => q H'⟩
      · have eb : (!(restsL k st tick ((List.range k.eds.length).map fun (i : Nat) => (i : Int))).isEmpty) = true := by
          have := some_restsL ok so s1 (by omega) hpos (hN.congr ge) hin
          cases y : restsL k st tick ((List.range k.eds.length).map fun (i : Nat) => (i : Int)) with
          | nil => exact absurd y this
          | cons _ _ => rfl
        refine ⟨_, rfl, _, rfl, _, rfl, _, rfl, .ref ca, k, tick, sa, ev, st, ((List.range k.eds.length).map fun (i : Nat) => (i : Int)), rfl, hC10.x x11, ok, so, hs3, hl3, hp3, s1, by omega, x11.tups _ _ hst10, x11.keep _ _ (fun z => z) (fun _ z => by cases z) hev10, by rw [List.length_map, List.length_range]; omega, hrg, fun J l rs y12 hln hl hrs => ⟨by show 0 ≤ sizeLine; decide, fun n0 hn0 => nePls_nil (upd_old hl hn0) (hrs.x (Xt.new (S := No) hn0)) upd_same ?_⟩⟩
        rw [eb]
        exact ⟨_, _, LC.D.bl _, rfl, (by show 0 < 3; decide), rfl, (by unfold At; rfl), (by unfold At; rfl), fun H' y => q H'⟩

end K17
-- E1
namespace LC
open PySem PySem.Spec PyProof.Rows L2 LamX
/-- the end of a law whose defs hold generator expressions: what the head leaves at their code objects is handed on, and the loose numbers -/
theorem walk_tb {l : PySem.W.OpenLaw} {n k : Nat} {q : Program} {loose : List Str} {XP : (Str → Option Value) → Heap → Prop} {YP : World → Heap → Prop} {d : DefRec}
    {K : Params → PySem.W.Frag} {CX : World → CXT} {x : Str} (hn : l.most = some n) (hn2 : n ≤ sizeLine) (hdf : d.params.defaults = []) (hr : Room k callerA)
    (hY : ∀ (w : World) (h : Heap), YP w h → (K w.params).In h)
    (F : ∀ (w : World) (mg : Str → Option Value) (fa : Addr) (h : Heap), YP w h → XP mg h → (K w.params).In h → h.Ns mainGlobals mg → mg d.name = some (.ref fa) →
      (∀ (y : Str) (e : DefRec) (c P : Addr), (recsOf q).find? (fun r => r.name == y) = some e → PySem.W.tabIn (K w.params) y = some (c, P) → PySem.W.CodeHd h c P ∧ h.get? P = some (PySem.W.tabObj #[])) →
      LawAtS l w (K w.params) (CX w) k n x mg fa h)
    (hCX : ∀ (w : World) (H : Hp) (s : Shared) (e : Value) (s' : Shared), CX w [] H s (fun _ _ _ => False) e s' → False) :
    PySem.W.WalkO q loose XP YP l.row.toRowW d [] (fun f vs => PySem.call f vs) := by
  refine Att.attach_callB hn hdf ?_
  intro w s₀ s₁ mg mb fa o pm cd doc a vs ns G Y ho hd hcd hmg hobj hints hlen hbits hg
  have KX := hY w _ Y
  obtain ⟨fd, cs, sp, hT, nT, C, hb, hsp, hF⟩ := F w mg fa _ Y G.X KX G.T.g hmg fun y e c P h1 h2 => PySem.W.tab_of G.T KX h1 h2
  exact law_callTs KX G.T.g G.T.b G.T.builtins G.T.nolimit hg hT nT C G.T.bmain hobj hints (Nat.le_trans hlen hn2) hr hF hb
    (fun H hH hS => hsp H a ns hlen hbits hH hS) (fun H e s' => hCX w H s₁ e s')
end LC
namespace LC
open PySem PySem.Spec PyProof.Rows L2
/-- a def of the text as the head leaves it -/
structure DefAt (K : PySem.W.Frag) (x : Str) (st : Stmt) (f c : Addr) : Prop where
  ns : PySem.W.nsIn K mainGlobals x = some (some (.ref f))
  lk : ∃ (oc : Value) (od : Option Addr) (kV doc pm : Value) (an : Option Addr) (ct : Value) (osl : Array (Option Value)), K.lookup f = some ⟨oc, od, .func (PySem.W.fnOf x x (defArgs st) (defBody st) (defScope st) .none kV doc pm an (.ref c) ct), osl⟩
  cd : PySem.W.codeIn K (.ref c) x = true
  kp : PySem.W.keepIn K (.ref f) = true
theorem DefAt.fn {K : PySem.W.Frag} {x : Str} {st : Stmt} {f c : Addr} {h : Heap} {mg : Str → Option Value} (D : DefAt K x st f c) (X : K.In h) (G : h.Ns mainGlobals mg) : ∃ fd, FunC K x st f fd c ∧ mg x = some (.ref f) := by
  obtain ⟨oc, od, kV, doc, pm, an, ct, osl, l⟩ := D.lk
  exact ⟨_, ⟨⟨oc, od, kV, doc, pm, an, ct, osl, rfl, l, D.cd⟩, D.kp⟩, PySem.W.mg_of X G D.ns⟩
end LC
namespace LC
open PySem PySem.Spec PyProof.Rows L2
theorem tabB_of {base : Heap} {mg : Str → Option Value} {c P : Addr} (h : LamX.TabB base mg c P) : GxR.TabB base mg c P := ⟨h.code, h.bm, h.gP⟩
theorem triples_nil : TriplesOk (#[] : Array Value).toList := by
  first | exact .nil | exact trivial | (intro x hx; cases hx)
theorem loose_int {lv : List (Str × PySem.W.WData)} {mg : Str → Option Value} {h : Heap} {x : Str} {i : Int} (L : PySem.W.LooseAre lv mg h) (hm : (x, PySem.W.WData.int i) ∈ lv) : ∃ t, mg x = some (.int i t) := by
  obtain ⟨v, e, r⟩ := L.val _ hm
  cases r
  exact ⟨_, e⟩
end LC
namespace LC
open PySem PySem.Spec PyProof.Rows L2
section
variable {K : PySem.W.Frag} {x : Str} {st : Stmt} {f c P : Addr}
theorem defAt_mk {oc : Value} {od : Option Addr} {kV doc pm : Value} {an : Option Addr} {ct : Value} {osl : Array (Option Value)} (a : PySem.W.nsIn K mainGlobals x = some (some (.ref f)))
    (l : K.lookup f = some ⟨oc, od, .func (PySem.W.fnOf x x (defArgs st) (defBody st) (defScope st) .none kV doc pm an (.ref c) ct), osl⟩) (hc : PySem.W.codeIn K (.ref c) x = true) (hk : PySem.W.keepIn K (.ref f) = true) : DefAt K x st f c :=
  ⟨a, ⟨oc, od, kV, doc, pm, an, ct, osl, l⟩, hc, hk⟩
theorem DefAt.tab {e : Value} {dd : Option Addr} {vs : Array Value} {sl : Array (Option Value)} (D : DefAt K x st f c) (lc : K.lookup c = some ⟨e, dd, .fields vs, sl⟩) (h : (vs[11]? : Option Value) = some (.ref P)) : PySem.W.tabIn K x = some (c, P) := by
  obtain ⟨oc, od, kV, doc, pm, an, ct, osl, l⟩ := D.lk
  unfold PySem.W.tabIn
  rw [D.ns]
  show (match K.lookup f with | _ => _) = _
  simp only [l, lc, h]
theorem mg_int {h : Heap} {mg : Str → Option Value} {i : Int} {t : Tok} (X : K.In h) (G : h.Ns mainGlobals mg) (e : PySem.W.nsIn K mainGlobals x = some (some (.int i t))) : ∃ t, mg x = some (.int i t) := ⟨t, PySem.W.mg_of X G e⟩
end
theorem tabs_of {K : PySem.W.Frag} {h : Heap} {q : Program} (tabs : ∀ (y : Str) (e : DefRec) (c P : Addr), (recsOf q).find? (fun r => r.name == y) = some e → PySem.W.tabIn K y = some (c, P) → PySem.W.CodeHd h c P ∧ h.get? P = some (PySem.W.tabObj #[]))
    {x : Str} {c P : Addr} (r : ((recsOf q).find? (fun r => r.name == x)).isSome = true) (t : PySem.W.tabIn K x = some (c, P)) : PySem.W.CodeHd h c P ∧ h.get? P = some (PySem.W.tabObj #[]) := by
  obtain ⟨e, he⟩ := Option.isSome_iff_exists.mp r
  exact tabs x e c P he t
end LC
-- E2
namespace LC
open PySem PySem.Spec PyProof.Rows L2
/-- a method of an own class as the head leaves it -/
structure MethAt (K : PySem.W.Frag) (C : Addr) (m qual : Str) (st : Stmt) (f : Addr) : Prop where
  at_ : PySem.W.findIn K (.ref C) m = some (some (.ref f))
  fn : PySem.W.isFn K (.ref f) = true
  lk : ∃ (oc : Value) (od : Option Addr) (kV doc pm : Value) (an : Option Addr) (cdv ct : Value) (osl : Array (Option Value)), K.lookup f = some ⟨oc, od, .func (PySem.W.fnOf m qual (defArgs st) (defBody st) (defScope st) .none kV doc pm an cdv ct), osl⟩ ∧ PySem.W.codeIn K cdv qual = true
  kp : PySem.W.keepIn K (.ref f) = true
section
variable {K : PySem.W.Frag} {C : Addr} {m qual : Str} {st : Stmt} {f : Addr}
theorem methAt_mk {oc : Value} {od : Option Addr} {kV doc pm : Value} {an : Option Addr} {cdv ct : Value} {osl : Array (Option Value)} (a : PySem.W.findIn K (.ref C) m = some (some (.ref f))) (i : PySem.W.isFn K (.ref f) = true)
    (l : K.lookup f = some ⟨oc, od, .func (PySem.W.fnOf m qual (defArgs st) (defBody st) (defScope st) .none kV doc pm an cdv ct), osl⟩) (hc : PySem.W.codeIn K cdv qual = true) (hk : PySem.W.keepIn K (.ref f) = true) : MethAt K C m qual st f :=
  ⟨a, i, ⟨oc, od, kV, doc, pm, an, cdv, ct, osl, l, hc⟩, hk⟩
theorem MethAt.fun_ (D : MethAt K C m qual st f) : ∃ fd, Fun K m qual st f fd := by
  obtain ⟨oc, od, kV, doc, pm, an, cdv, ct, osl, l, hc⟩ := D.lk
  exact ⟨_, fun_mk l hc D.kp⟩
theorem MethAt.meth (D : MethAt K C m qual st f) : Meth K C m f := ⟨D.at_, D.fn, D.kp⟩
theorem clsC (a : PySem.W.plainGet K C Str.empty = true) (b : PySem.W.hasDictIn K C = true) (c : PySem.W.plainOver K C = true) (d : PySem.W.findIn K (.ref C) "__setattr__" = some (some (.builtin "object.__setattr__"))) : Cls K C := ⟨a, b, c, d⟩
end
end LC
-- K17_fin
namespace K17
open PySem PySem.Spec PyProof.Rows L2 LC
theorem law_at {w : World} {K : PySem.W.Frag} {h : Heap} {mg : Str → Option Value} {fa : Addr} (X : K.In h) (G : h.Ns mainGlobals mg) (hfa : mg "law" = some (.ref fa)) (T : Txt mg)
    {f_is_whole c_is_whole f_is_between c_is_between f_is_tuple_of c_is_tuple_of f_is_rising c_is_rising f_check_tick c_check_tick f_is_touch c_is_touch f_are_editions c_are_editions f_are_touches c_are_touches f_are_wheel_gaps c_are_wheel_gaps f_are_gaps c_are_gaps f_is_entry c_is_entry f_is_book c_is_book f_wrong_part c_wrong_part f_check_clock c_check_clock f_all_exchanges c_all_exchanges f_least_needed c_least_needed f_touch_phases c_touch_phases f_first_from c_first_from f_first_gap c_first_gap f_gap_behind c_gap_behind f_row_of_push c_row_of_push f_leant_on c_leant_on f_leaning_pairs c_leaning_pairs f_stair_at c_stair_at f_push_table c_push_table f_pushed_pairs c_pushed_pairs f_lifted_numbers c_lifted_numbers f_settled_by c_settled_by f_rows_of c_rows_of f_is_standing c_is_standing f_check_standing c_check_standing f_check_moment c_check_moment f_undone c_undone f_firsts_from c_firsts_from f_rest_beside c_rest_beside f_has_later_rest c_has_later_rest f_raised c_raised f_is_safe c_is_safe f_safe_beside c_safe_beside f_safe c_safe f_may_wait c_may_wait f_law_taken c_law_taken f_law_low_clock c_law_low_clock f_law_tiny c_law_tiny f_law_rows c_law_rows f_law_plans c_law_plans f_law_needed c_law_needed f_law_bad c_law_bad f_law_standing c_law_standing f_law_rest_bad c_law_rest_bad f_law_rests c_law_rests f_law_alike c_law_alike f_law c_law : Addr}
    (D_is_whole : DefAt K "is_whole" s_is_whole f_is_whole c_is_whole) (D_is_between : DefAt K "is_between" s_is_between f_is_between c_is_between) (D_is_tuple_of : DefAt K "is_tuple_of" s_is_tuple_of f_is_tuple_of c_is_tuple_of) (D_is_rising : DefAt K "is_rising" s_is_rising f_is_rising c_is_rising) (D_check_tick : DefAt K "check_tick" s_check_tick f_check_tick c_check_tick) (D_is_touch : DefAt K "is_touch" s_is_touch f_is_touch c_is_touch) (D_are_editions : DefAt K "are_editions" s_are_editions f_are_editions c_are_editions) (D_are_touches : DefAt K "are_touches" s_are_touches f_are_touches c_are_touches) (D_are_wheel_gaps : DefAt K "are_wheel_gaps" s_are_wheel_gaps f_are_wheel_gaps c_are_wheel_gaps) (D_are_gaps : DefAt K "are_gaps" s_are_gaps f_are_gaps c_are_gaps) (D_is_entry : DefAt K "is_entry" s_is_entry f_is_entry c_is_entry) (D_is_book : DefAt K "is_book" s_is_book f_is_book c_is_book) (D_wrong_part : DefAt K "wrong_part" s_wrong_part f_wrong_part c_wrong_part) (D_check_clock : DefAt K "check_clock" s_check_clock f_check_clock c_check_clock) (D_all_exchanges : DefAt K "all_exchanges" s_all_exchanges f_all_exchanges c_all_exchanges) (D_least_needed : DefAt K "least_needed" s_least_needed f_least_needed c_least_needed) (D_touch_phases : DefAt K "touch_phases" s_touch_phases f_touch_phases c_touch_phases) (D_first_from : DefAt K "first_from" s_first_from f_first_from c_first_from) (D_first_gap : DefAt K "first_gap" s_first_gap f_first_gap c_first_gap) (D_gap_behind : DefAt K "gap_behind" s_gap_behind f_gap_behind c_gap_behind) (D_row_of_push : DefAt K "row_of_push" s_row_of_push f_row_of_push c_row_of_push) (D_leant_on : DefAt K "leant_on" s_leant_on f_leant_on c_leant_on) (D_leaning_pairs : DefAt K "leaning_pairs" s_leaning_pairs f_leaning_pairs c_leaning_pairs) (D_stair_at : DefAt K "stair_at" s_stair_at f_stair_at c_stair_at) (D_push_table : DefAt K "push_table" s_push_table f_push_table c_push_table) (D_pushed_pairs : DefAt K "pushed_pairs" s_pushed_pairs f_pushed_pairs c_pushed_pairs) (D_lifted_numbers : DefAt K "lifted_numbers" s_lifted_numbers f_lifted_numbers c_lifted_numbers) (D_settled_by : DefAt K "settled_by" s_settled_by f_settled_by c_settled_by) (D_rows_of : DefAt K "rows_of" s_rows_of f_rows_of c_rows_of) (D_is_standing : DefAt K "is_standing" s_is_standing f_is_standing c_is_standing) (D_check_standing : DefAt K "check_standing" s_check_standing f_check_standing c_check_standing) (D_check_moment : DefAt K "check_moment" s_check_moment f_check_moment c_check_moment) (D_undone : DefAt K "undone" s_undone f_undone c_undone) (D_firsts_from : DefAt K "firsts_from" s_firsts_from f_firsts_from c_firsts_from) (D_rest_beside : DefAt K "rest_beside" s_rest_beside f_rest_beside c_rest_beside) (D_has_later_rest : DefAt K "has_later_rest" s_has_later_rest f_has_later_rest c_has_later_rest) (D_raised : DefAt K "raised" s_raised f_raised c_raised) (D_is_safe : DefAt K "is_safe" s_is_safe f_is_safe c_is_safe) (D_safe_beside : DefAt K "safe_beside" s_safe_beside f_safe_beside c_safe_beside) (D_safe : DefAt K "safe" s_safe f_safe c_safe) (D_may_wait : DefAt K "may_wait" s_may_wait f_may_wait c_may_wait) (D_law_taken : DefAt K "_law_taken" s_law_taken f_law_taken c_law_taken) (D_law_low_clock : DefAt K "_law_low_clock" s_law_low_clock f_law_low_clock c_law_low_clock) (D_law_tiny : DefAt K "_law_tiny" s_law_tiny f_law_tiny c_law_tiny) (D_law_rows : DefAt K "_law_rows" s_law_rows f_law_rows c_law_rows) (D_law_plans : DefAt K "_law_plans" s_law_plans f_law_plans c_law_plans) (D_law_needed : DefAt K "_law_needed" s_law_needed f_law_needed c_law_needed) (D_law_bad : DefAt K "_law_bad" s_law_bad f_law_bad c_law_bad) (D_law_standing : DefAt K "_law_standing" s_law_standing f_law_standing c_law_standing) (D_law_rest_bad : DefAt K "_law_rest_bad" s_law_rest_bad f_law_rest_bad c_law_rest_bad) (D_law_rests : DefAt K "_law_rests" s_law_rests f_law_rests c_law_rests) (D_law_alike : DefAt K "_law_alike" s_law_alike f_law_alike c_law_alike) (D_law : DefAt K "law" s_law f_law c_law)
    {P_are_editions P_are_touches P_are_wheel_gaps P_is_book P_rows_of : Addr}
    {q : Program} (tabs : ∀ (y : Str) (e : DefRec) (c P : Addr), (recsOf q).find? (fun r => r.name == y) = some e → PySem.W.tabIn K y = some (c, P) → PySem.W.CodeHd h c P ∧ h.get? P = some (PySem.W.tabObj #[]))
    {ev_are_editions ev_are_touches ev_are_wheel_gaps ev_is_book ev_rows_of : Value} {dd_are_editions dd_are_touches dd_are_wheel_gaps dd_is_book dd_rows_of : Option Addr} {vs_are_editions vs_are_touches vs_are_wheel_gaps vs_is_book vs_rows_of : Array Value} {sl_are_editions sl_are_touches sl_are_wheel_gaps sl_is_book sl_rows_of : Array (Option Value)}
    (r_are_editions : ((recsOf q).find? (fun r => r.name == ("are_editions" : Str))).isSome = true) (lc_are_editions : K.lookup c_are_editions = some ⟨ev_are_editions, dd_are_editions, .fields vs_are_editions, sl_are_editions⟩) (h_are_editions : (vs_are_editions[11]? : Option Value) = some (.ref P_are_editions)) (n_are_editions : K.lookup P_are_editions = none)
    (r_are_touches : ((recsOf q).find? (fun r => r.name == ("are_touches" : Str))).isSome = true) (lc_are_touches : K.lookup c_are_touches = some ⟨ev_are_touches, dd_are_touches, .fields vs_are_touches, sl_are_touches⟩) (h_are_touches : (vs_are_touches[11]? : Option Value) = some (.ref P_are_touches)) (n_are_touches : K.lookup P_are_touches = none)
    (r_are_wheel_gaps : ((recsOf q).find? (fun r => r.name == ("are_wheel_gaps" : Str))).isSome = true) (lc_are_wheel_gaps : K.lookup c_are_wheel_gaps = some ⟨ev_are_wheel_gaps, dd_are_wheel_gaps, .fields vs_are_wheel_gaps, sl_are_wheel_gaps⟩) (h_are_wheel_gaps : (vs_are_wheel_gaps[11]? : Option Value) = some (.ref P_are_wheel_gaps)) (n_are_wheel_gaps : K.lookup P_are_wheel_gaps = none)
    (r_is_book : ((recsOf q).find? (fun r => r.name == ("is_book" : Str))).isSome = true) (lc_is_book : K.lookup c_is_book = some ⟨ev_is_book, dd_is_book, .fields vs_is_book, sl_is_book⟩) (h_is_book : (vs_is_book[11]? : Option Value) = some (.ref P_is_book)) (n_is_book : K.lookup P_is_book = none)
    (r_rows_of : ((recsOf q).find? (fun r => r.name == ("rows_of" : Str))).isSome = true) (lc_rows_of : K.lookup c_rows_of = some ⟨ev_rows_of, dd_rows_of, .fields vs_rows_of, sl_rows_of⟩) (h_rows_of : (vs_rows_of[11]? : Option Value) = some (.ref P_rows_of)) (n_rows_of : K.lookup P_rows_of = none)
    {C_Rests : Addr} (N_Rests : PySem.W.nsIn K mainGlobals "Rests" = some (some (.ref C_Rests))) (G_Rests : Cls K C_Rests) (MK_Rests : PySem.W.makesIn K C_Rests = true) (KP_Rests : PySem.W.keepIn K (.ref C_Rests) = true)
    (A_Rests_clock : PySem.W.findIn K (.ref C_Rests) "clock" = some none)
    (A_Rests_table : PySem.W.findIn K (.ref C_Rests) "table" = some none)
    (A_Rests_needs : PySem.W.findIn K (.ref C_Rests) "needs" = some none)
    {f_Rests_init : Addr} (D_Rests_init : MethAt K C_Rests "__init__" "Rests.__init__" s_Rests_init f_Rests_init)
    {f_Rests_is_late : Addr} (D_Rests_is_late : MethAt K C_Rests "is_late" "Rests.is_late" s_Rests_is_late f_Rests_is_late)
    {f_Rests_numbers_from : Addr} (D_Rests_numbers_from : MethAt K C_Rests "numbers_from" "Rests.numbers_from" s_Rests_numbers_from f_Rests_numbers_from)
    : LamX.LawAtS PySem.Challenge.rw_livingclock_k17_whole_safe w K CX0 12 63 "script" mg fa h := by
  obtain ⟨fd_is_whole, F_is_whole, m_is_whole⟩ := D_is_whole.fn X G
  obtain ⟨fd_is_between, F_is_between, m_is_between⟩ := D_is_between.fn X G
  obtain ⟨fd_is_tuple_of, F_is_tuple_of, m_is_tuple_of⟩ := D_is_tuple_of.fn X G
  obtain ⟨fd_is_rising, F_is_rising, m_is_rising⟩ := D_is_rising.fn X G
  obtain ⟨fd_check_tick, F_check_tick, m_check_tick⟩ := D_check_tick.fn X G
  obtain ⟨fd_is_touch, F_is_touch, m_is_touch⟩ := D_is_touch.fn X G
  obtain ⟨fd_are_editions, F_are_editions, m_are_editions⟩ := D_are_editions.fn X G
  obtain ⟨fd_are_touches, F_are_touches, m_are_touches⟩ := D_are_touches.fn X G
  obtain ⟨fd_are_wheel_gaps, F_are_wheel_gaps, m_are_wheel_gaps⟩ := D_are_wheel_gaps.fn X G
  obtain ⟨fd_are_gaps, F_are_gaps, m_are_gaps⟩ := D_are_gaps.fn X G
  obtain ⟨fd_is_entry, F_is_entry, m_is_entry⟩ := D_is_entry.fn X G
  obtain ⟨fd_is_book, F_is_book, m_is_book⟩ := D_is_book.fn X G
  obtain ⟨fd_wrong_part, F_wrong_part, m_wrong_part⟩ := D_wrong_part.fn X G
  obtain ⟨fd_check_clock, F_check_clock, m_check_clock⟩ := D_check_clock.fn X G
  obtain ⟨fd_all_exchanges, F_all_exchanges, m_all_exchanges⟩ := D_all_exchanges.fn X G
  obtain ⟨fd_least_needed, F_least_needed, m_least_needed⟩ := D_least_needed.fn X G
  obtain ⟨fd_touch_phases, F_touch_phases, m_touch_phases⟩ := D_touch_phases.fn X G
  obtain ⟨fd_first_from, F_first_from, m_first_from⟩ := D_first_from.fn X G
  obtain ⟨fd_first_gap, F_first_gap, m_first_gap⟩ := D_first_gap.fn X G
  obtain ⟨fd_gap_behind, F_gap_behind, m_gap_behind⟩ := D_gap_behind.fn X G
  obtain ⟨fd_row_of_push, F_row_of_push, m_row_of_push⟩ := D_row_of_push.fn X G
  obtain ⟨fd_leant_on, F_leant_on, m_leant_on⟩ := D_leant_on.fn X G
  obtain ⟨fd_leaning_pairs, F_leaning_pairs, m_leaning_pairs⟩ := D_leaning_pairs.fn X G
  obtain ⟨fd_stair_at, F_stair_at, m_stair_at⟩ := D_stair_at.fn X G
  obtain ⟨fd_push_table, F_push_table, m_push_table⟩ := D_push_table.fn X G
  obtain ⟨fd_pushed_pairs, F_pushed_pairs, m_pushed_pairs⟩ := D_pushed_pairs.fn X G
  obtain ⟨fd_lifted_numbers, F_lifted_numbers, m_lifted_numbers⟩ := D_lifted_numbers.fn X G
  obtain ⟨fd_settled_by, F_settled_by, m_settled_by⟩ := D_settled_by.fn X G
  obtain ⟨fd_rows_of, F_rows_of, m_rows_of⟩ := D_rows_of.fn X G
  obtain ⟨fd_is_standing, F_is_standing, m_is_standing⟩ := D_is_standing.fn X G
  obtain ⟨fd_check_standing, F_check_standing, m_check_standing⟩ := D_check_standing.fn X G
  obtain ⟨fd_check_moment, F_check_moment, m_check_moment⟩ := D_check_moment.fn X G
  obtain ⟨fd_undone, F_undone, m_undone⟩ := D_undone.fn X G
  obtain ⟨fd_firsts_from, F_firsts_from, m_firsts_from⟩ := D_firsts_from.fn X G
  obtain ⟨fd_rest_beside, F_rest_beside, m_rest_beside⟩ := D_rest_beside.fn X G
  obtain ⟨fd_has_later_rest, F_has_later_rest, m_has_later_rest⟩ := D_has_later_rest.fn X G
  obtain ⟨fd_raised, F_raised, m_raised⟩ := D_raised.fn X G
  obtain ⟨fd_is_safe, F_is_safe, m_is_safe⟩ := D_is_safe.fn X G
  obtain ⟨fd_safe_beside, F_safe_beside, m_safe_beside⟩ := D_safe_beside.fn X G
  obtain ⟨fd_safe, F_safe, m_safe⟩ := D_safe.fn X G
  obtain ⟨fd_may_wait, F_may_wait, m_may_wait⟩ := D_may_wait.fn X G
  obtain ⟨fd_law_taken, F_law_taken, m_law_taken⟩ := D_law_taken.fn X G
  obtain ⟨fd_law_low_clock, F_law_low_clock, m_law_low_clock⟩ := D_law_low_clock.fn X G
  obtain ⟨fd_law_tiny, F_law_tiny, m_law_tiny⟩ := D_law_tiny.fn X G
  obtain ⟨fd_law_rows, F_law_rows, m_law_rows⟩ := D_law_rows.fn X G
  obtain ⟨fd_law_plans, F_law_plans, m_law_plans⟩ := D_law_plans.fn X G
  obtain ⟨fd_law_needed, F_law_needed, m_law_needed⟩ := D_law_needed.fn X G
  obtain ⟨fd_law_bad, F_law_bad, m_law_bad⟩ := D_law_bad.fn X G
  obtain ⟨fd_law_standing, F_law_standing, m_law_standing⟩ := D_law_standing.fn X G
  obtain ⟨fd_law_rest_bad, F_law_rest_bad, m_law_rest_bad⟩ := D_law_rest_bad.fn X G
  obtain ⟨fd_law_rests, F_law_rests, m_law_rests⟩ := D_law_rests.fn X G
  obtain ⟨fd_law_alike, F_law_alike, m_law_alike⟩ := D_law_alike.fn X G
  obtain ⟨fd_law, F_law, m_law⟩ := D_law.fn X G
  obtain ⟨fd_Rests_init, F_Rests_init⟩ := D_Rests_init.fun_
  obtain ⟨fd_Rests_is_late, F_Rests_is_late⟩ := D_Rests_is_late.fun_
  obtain ⟨fd_Rests_numbers_from, F_Rests_numbers_from⟩ := D_Rests_numbers_from.fun_
  have t_are_editions := LC.tabs_of tabs r_are_editions (D_are_editions.tab lc_are_editions h_are_editions)
  have t_are_touches := LC.tabs_of tabs r_are_touches (D_are_touches.tab lc_are_touches h_are_touches)
  have t_are_wheel_gaps := LC.tabs_of tabs r_are_wheel_gaps (D_are_wheel_gaps.tab lc_are_wheel_gaps h_are_wheel_gaps)
  have t_is_book := LC.tabs_of tabs r_is_book (D_is_book.tab lc_is_book h_is_book)
  have t_rows_of := LC.tabs_of tabs r_rows_of (D_rows_of.tab lc_rows_of h_rows_of)
  cases hfa.symm.trans m_law
  letI : LC.Tbl := ⟨[P_are_editions, P_are_touches, P_are_wheel_gaps, P_is_book, P_rows_of]⟩
  refine ⟨fd_law, [(c_are_editions, P_are_editions), (c_are_touches, P_are_touches), (c_are_wheel_gaps, P_are_wheel_gaps), (c_is_book, P_is_book), (c_rows_of, P_rows_of)], sp_law K [P_are_editions, P_are_touches, P_are_wheel_gaps, P_is_book, P_rows_of] , ?_, ?_, ?_, ?_, ?_, ?_⟩
  · intro p hp
    simp only [List.mem_cons, List.not_mem_nil, or_false] at hp
    rcases hp with rfl | rfl | rfl | rfl | rfl
    · exact t_are_editions.2
    · exact t_are_touches.2
    · exact t_are_wheel_gaps.2
    · exact t_is_book.2
    · exact t_rows_of.2
  · intro p hp
    simp only [List.mem_cons, List.not_mem_nil, or_false] at hp
    rcases hp with rfl | rfl | rfl | rfl | rfl
    · exact n_are_editions
    · exact n_are_touches
    · exact n_are_wheel_gaps
    · exact n_is_book
    · exact n_rows_of
  · intro p hp
    simp only [List.mem_cons, List.not_mem_nil, or_false] at hp
    rcases hp with rfl | rfl | rfl | rfl | rfl
    · exact t_are_editions.1
    · exact t_are_touches.1
    · exact t_are_wheel_gaps.1
    · exact t_is_book.1
    · exact t_rows_of.1
  · obtain ⟨oc, od, kV, doc, pm, an, ct, osl, rfl, _⟩ := F_law.ex
    exact fun s u => .of_eq rfl
  · intro H a ns hl _ hT hS
    refine ⟨a, ns, rfl, hS, fun P hP => ?_, fun _ => rfl⟩
    refine ⟨⟨#[], ?_, ?_⟩, hP⟩
    · simp only [List.mem_cons, List.not_mem_nil, or_false] at hP
      rcases hP with e | e | e | e | e
      · rw [e]; exact hT (c_are_editions, P_are_editions) (by simp)
      · rw [e]; exact hT (c_are_touches, P_are_touches) (by simp)
      · rw [e]; exact hT (c_are_wheel_gaps, P_are_wheel_gaps) (by simp)
      · rw [e]; exact hT (c_is_book, P_is_book) (by simp)
      · rw [e]; exact hT (c_rows_of, P_rows_of) (by simp)
    · exact LC.triples_nil
  · intro base KB GB tb
    have TB_are_editions : GxR.TabB base mg c_are_editions P_are_editions := LC.tabB_of (tb (c_are_editions, P_are_editions) (by simp))
    have hT_are_editions : P_are_editions ∈ [P_are_editions, P_are_touches, P_are_wheel_gaps, P_is_book, P_rows_of] := by simp
    have TB_are_touches : GxR.TabB base mg c_are_touches P_are_touches := LC.tabB_of (tb (c_are_touches, P_are_touches) (by simp))
    have hT_are_touches : P_are_touches ∈ [P_are_editions, P_are_touches, P_are_wheel_gaps, P_is_book, P_rows_of] := by simp
    have TB_are_wheel_gaps : GxR.TabB base mg c_are_wheel_gaps P_are_wheel_gaps := LC.tabB_of (tb (c_are_wheel_gaps, P_are_wheel_gaps) (by simp))
    have hT_are_wheel_gaps : P_are_wheel_gaps ∈ [P_are_editions, P_are_touches, P_are_wheel_gaps, P_is_book, P_rows_of] := by simp
    have TB_is_book : GxR.TabB base mg c_is_book P_is_book := LC.tabB_of (tb (c_is_book, P_is_book) (by simp))
    have hT_is_book : P_is_book ∈ [P_are_editions, P_are_touches, P_are_wheel_gaps, P_is_book, P_rows_of] := by simp
    have TB_rows_of : GxR.TabB base mg c_rows_of P_rows_of := LC.tabB_of (tb (c_rows_of, P_rows_of) (by simp))
    have hT_rows_of : P_rows_of ∈ [P_are_editions, P_are_touches, P_are_wheel_gaps, P_is_book, P_rows_of] := by simp
    have TC : LC.RestsC K C_Rests := ⟨G_Rests, A_Rests_clock, A_Rests_table, A_Rests_needs⟩
    have C_is_whole := F_is_whole.callee (P := PySem.Challenge.rw_livingclock_k17_whole_safe.prog) (w := w) (base := base) (k := 1) (sp := sp_is_whole K) m_is_whole (ok_is_whole T  F_is_whole) (fun _ _ _ _ _ _ us hl => match us, hl with | [_], _ => rfl)
    have C_is_between := between1 (F_is_between.callee (P := PySem.Challenge.rw_livingclock_k17_whole_safe.prog) (w := w) (base := base) (k := 2) (sp := sp_is_between K) m_is_between (ok_is_between T C_is_whole F_is_between) (fun _ _ _ _ _ _ us hl => match us, hl with | [_, _, _], _ => rfl))
    have C_is_tuple_of := tuple_of1 (F_is_tuple_of.callee (P := PySem.Challenge.rw_livingclock_k17_whole_safe.prog) (w := w) (base := base) (k := 1) (sp := sp_is_tuple_of K) m_is_tuple_of (ok_is_tuple_of T  F_is_tuple_of) (fun _ _ _ _ _ _ us hl => match us, hl with | [_, _], _ => rfl))
    have C_is_rising := rising1 (F_is_rising.callee (P := PySem.Challenge.rw_livingclock_k17_whole_safe.prog) (w := w) (base := base) (k := 1) (sp := sp_is_rising K) m_is_rising (ok_is_rising T  F_is_rising) (fun _ _ _ _ _ _ us hl => match us, hl with | [_], _ => rfl))
    have C_check_tick := F_check_tick.callee (P := PySem.Challenge.rw_livingclock_k17_whole_safe.prog) (w := w) (base := base) (k := 3) (sp := sp_check_tick) m_check_tick (ok_check_tick T C_is_between F_check_tick) (fun _ _ _ _ _ _ us hl => match us, hl with | [_, _], _ => rfl)
    have C_is_touch := F_is_touch.callee (P := PySem.Challenge.rw_livingclock_k17_whole_safe.prog) (w := w) (base := base) (k := 3) (sp := sp_is_touch) m_is_touch (ok_is_touch T C_is_between C_is_tuple_of F_is_touch) (fun _ _ _ _ _ _ us hl => match us, hl with | [_, _, _], _ => rfl)
    have C_are_editions := F_are_editions.callee (P := PySem.Challenge.rw_livingclock_k17_whole_safe.prog) (w := w) (base := base) (k := 5) (sp := sp_are_editions ([P_are_editions, P_are_touches, P_are_wheel_gaps, P_is_book, P_rows_of])) m_are_editions (ok_are_editions T TB_are_editions hT_are_editions C_is_between F_are_editions) (fun _ _ _ _ _ _ us hl => match us, hl with | [_], _ => rfl)
    have C_are_touches := F_are_touches.callee (P := PySem.Challenge.rw_livingclock_k17_whole_safe.prog) (w := w) (base := base) (k := 6) (sp := sp_are_touches ([P_are_editions, P_are_touches, P_are_wheel_gaps, P_is_book, P_rows_of])) m_are_touches (ok_are_touches T TB_are_touches hT_are_touches C_is_touch C_is_rising F_are_touches) (fun _ _ _ _ _ _ us hl => match us, hl with | [_, _, _], _ => rfl)
    have C_are_wheel_gaps := F_are_wheel_gaps.callee (P := PySem.Challenge.rw_livingclock_k17_whole_safe.prog) (w := w) (base := base) (k := 5) (sp := sp_are_wheel_gaps ([P_are_editions, P_are_touches, P_are_wheel_gaps, P_is_book, P_rows_of])) m_are_wheel_gaps (ok_are_wheel_gaps T TB_are_wheel_gaps hT_are_wheel_gaps C_is_between C_is_rising F_are_wheel_gaps) (fun _ _ _ _ _ _ us hl => match us, hl with | [_, _, _], _ => rfl)
    have C_are_gaps := F_are_gaps.callee (P := PySem.Challenge.rw_livingclock_k17_whole_safe.prog) (w := w) (base := base) (k := 6) (sp := sp_are_gaps ([P_are_editions, P_are_touches, P_are_wheel_gaps, P_is_book, P_rows_of])) m_are_gaps (ok_are_gaps T C_are_wheel_gaps C_is_tuple_of F_are_gaps) (fun _ _ _ _ _ _ us hl => match us, hl with | [_, _, _], _ => rfl)
    have C_is_entry := F_is_entry.callee (P := PySem.Challenge.rw_livingclock_k17_whole_safe.prog) (w := w) (base := base) (k := 3) (sp := sp_is_entry) m_is_entry (ok_is_entry T C_is_between C_is_tuple_of F_is_entry) (fun _ _ _ _ _ _ us hl => match us, hl with | [_, _], _ => rfl)
    have C_is_book := F_is_book.callee (P := PySem.Challenge.rw_livingclock_k17_whole_safe.prog) (w := w) (base := base) (k := 6) (sp := sp_is_book ([P_are_editions, P_are_touches, P_are_wheel_gaps, P_is_book, P_rows_of])) m_is_book (ok_is_book T TB_is_book hT_is_book C_is_entry C_is_rising F_is_book) (fun _ _ _ _ _ _ us hl => match us, hl with | [_, _], _ => rfl)
    have C_wrong_part := F_wrong_part.callee (P := PySem.Challenge.rw_livingclock_k17_whole_safe.prog) (w := w) (base := base) (k := 7) (sp := sp_wrong_part ([P_are_editions, P_are_touches, P_are_wheel_gaps, P_is_book, P_rows_of])) m_wrong_part (ok_wrong_part T C_is_tuple_of C_is_between C_are_editions C_are_touches C_are_gaps C_is_book F_wrong_part) (fun _ _ _ _ _ _ us hl => match us, hl with | [_], _ => rfl)
    have C_check_clock := F_check_clock.callee (P := PySem.Challenge.rw_livingclock_k17_whole_safe.prog) (w := w) (base := base) (k := 8) (sp := sp_check_clock ([P_are_editions, P_are_touches, P_are_wheel_gaps, P_is_book, P_rows_of])) m_check_clock (ok_check_clock T C_wrong_part F_check_clock) (fun _ _ _ _ _ _ us hl => match us, hl with | [_], _ => rfl)
    have C_all_exchanges := F_all_exchanges.callee (P := PySem.Challenge.rw_livingclock_k17_whole_safe.prog) (w := w) (base := base) (k := 1) (sp := sp_all_exchanges) m_all_exchanges (ok_all_exchanges T  F_all_exchanges) (fun _ _ _ _ _ _ us hl => match us, hl with | [_], _ => rfl)
    have C_least_needed := F_least_needed.callee (P := PySem.Challenge.rw_livingclock_k17_whole_safe.prog) (w := w) (base := base) (k := 1) (sp := sp_least_needed) m_least_needed (ok_least_needed T  F_least_needed) (fun _ _ _ _ _ _ us hl => match us, hl with | [_, _, _, _], _ => rfl)
    have C_touch_phases := F_touch_phases.callee (P := PySem.Challenge.rw_livingclock_k17_whole_safe.prog) (w := w) (base := base) (k := 1) (sp := sp_touch_phases) m_touch_phases (ok_touch_phases T  F_touch_phases) (fun _ _ _ _ _ _ us hl => match us, hl with | [_, _, _], _ => rfl)
    have C_touch_phasesF := F_touch_phases.callee (P := PySem.Challenge.rw_livingclock_k17_whole_safe.prog) (w := w) (base := base) (k := 1) (sp := sp_touch_phasesF) m_touch_phases (ok_touch_phasesF T F_touch_phases) (fun _ _ _ _ _ _ us hl => match us, hl with | [_, _, _], _ => rfl)
    have C_first_from := F_first_from.callee (P := PySem.Challenge.rw_livingclock_k17_whole_safe.prog) (w := w) (base := base) (k := 1) (sp := sp_first_from) m_first_from (ok_first_from T  F_first_from) (fun _ _ _ _ _ _ us hl => match us, hl with | [_, _, _], _ => rfl)
    have C_first_fromL := F_first_from.callee (P := PySem.Challenge.rw_livingclock_k17_whole_safe.prog) (w := w) (base := base) (k := 1) (sp := sp_first_fromL) m_first_from (ok_first_fromL T F_first_from) (fun _ _ _ _ _ _ us hl => match us, hl with | [_, _, _], _ => rfl)
    have C_first_gap := F_first_gap.callee (P := PySem.Challenge.rw_livingclock_k17_whole_safe.prog) (w := w) (base := base) (k := 2) (sp := sp_first_gap) m_first_gap (ok_first_gap T C_first_from F_first_gap) (fun _ _ _ _ _ _ us hl => match us, hl with | [_, _, _], _ => rfl)
    have C_gap_behind := F_gap_behind.callee (P := PySem.Challenge.rw_livingclock_k17_whole_safe.prog) (w := w) (base := base) (k := 3) (sp := sp_gap_behind) m_gap_behind (ok_gap_behind T C_first_gap F_gap_behind) (fun _ _ _ _ _ _ us hl => match us, hl with | [_, _, _, _], _ => rfl)
    have C_row_of_push := F_row_of_push.callee (P := PySem.Challenge.rw_livingclock_k17_whole_safe.prog) (w := w) (base := base) (k := 4) (sp := sp_row_of_push) m_row_of_push (ok_row_of_push T C_gap_behind C_touch_phases F_row_of_push) (fun _ _ _ _ _ _ us hl => match us, hl with | [_, _, _], _ => rfl)
    have C_leant_on := F_leant_on.callee (P := PySem.Challenge.rw_livingclock_k17_whole_safe.prog) (w := w) (base := base) (k := 2) (sp := sp_leant_on) m_leant_on (ok_leant_on T C_touch_phases C_least_needed F_leant_on) (fun _ _ _ _ _ _ us hl => match us, hl with | [_, _], _ => rfl)
    have C_leaning_pairs := F_leaning_pairs.callee (P := PySem.Challenge.rw_livingclock_k17_whole_safe.prog) (w := w) (base := base) (k := 3) (sp := sp_leaning_pairs) m_leaning_pairs (ok_leaning_pairs T C_all_exchanges C_leant_on F_leaning_pairs) (fun _ _ _ _ _ _ us hl => match us, hl with | [_], _ => rfl)
    have C_stair_at := F_stair_at.callee (P := PySem.Challenge.rw_livingclock_k17_whole_safe.prog) (w := w) (base := base) (k := 1) (sp := sp_stair_at) m_stair_at (ok_stair_at T  F_stair_at) (fun _ _ _ _ _ _ us hl => match us, hl with | [_, _], _ => rfl)
    have C_push_table := F_push_table.callee (P := PySem.Challenge.rw_livingclock_k17_whole_safe.prog) (w := w) (base := base) (k := 5) (sp := sp_push_table) m_push_table (ok_push_table T C_all_exchanges C_leaning_pairs C_row_of_push F_push_table) (fun _ _ _ _ _ _ us hl => match us, hl with | [_], _ => rfl)
    have C_pushed_pairs := F_pushed_pairs.callee (P := PySem.Challenge.rw_livingclock_k17_whole_safe.prog) (w := w) (base := base) (k := 2) (sp := sp_pushed_pairs) m_pushed_pairs (ok_pushed_pairs T C_stair_at F_pushed_pairs) (fun _ _ _ _ _ _ us hl => match us, hl with | [_, _], _ => rfl)
    have C_lifted_numbers := F_lifted_numbers.callee (P := PySem.Challenge.rw_livingclock_k17_whole_safe.prog) (w := w) (base := base) (k := 3) (sp := sp_lifted_numbers) m_lifted_numbers (ok_lifted_numbers T C_pushed_pairs F_lifted_numbers) (fun _ _ _ _ _ _ us hl => match us, hl with | [_, _, _, _], _ => rfl)
    have C_settled_by := F_settled_by.callee (P := PySem.Challenge.rw_livingclock_k17_whole_safe.prog) (w := w) (base := base) (k := 4) (sp := sp_settled_by) m_settled_by (ok_settled_by T C_lifted_numbers F_settled_by) (fun _ _ _ _ _ _ us hl => match us, hl with | [_, _, _], _ => rfl)
    have C_rows_of := F_rows_of.callee (P := PySem.Challenge.rw_livingclock_k17_whole_safe.prog) (w := w) (base := base) (k := 5) (sp := sp_rows_of ([P_are_editions, P_are_touches, P_are_wheel_gaps, P_is_book, P_rows_of])) m_rows_of (ok_rows_of T TB_rows_of hT_rows_of C_all_exchanges F_rows_of) (fun _ _ _ _ _ _ us hl => match us, hl with | [_, _], _ => rfl)
    have C_is_standing := F_is_standing.callee (P := PySem.Challenge.rw_livingclock_k17_whole_safe.prog) (w := w) (base := base) (k := 3) (sp := sp_is_standing) m_is_standing (ok_is_standing T C_is_tuple_of C_is_between F_is_standing) (fun _ _ _ _ _ _ us hl => match us, hl with | [_, _], _ => rfl)
    have C_check_standing := F_check_standing.callee (P := PySem.Challenge.rw_livingclock_k17_whole_safe.prog) (w := w) (base := base) (k := 4) (sp := sp_check_standing) m_check_standing (ok_check_standing T C_is_standing F_check_standing) (fun _ _ _ _ _ _ us hl => match us, hl with | [_, _], _ => rfl)
    have C_check_moment := F_check_moment.callee (P := PySem.Challenge.rw_livingclock_k17_whole_safe.prog) (w := w) (base := base) (k := 9) (sp := sp_check_moment ([P_are_editions, P_are_touches, P_are_wheel_gaps, P_is_book, P_rows_of])) m_check_moment (ok_check_moment T C_check_clock C_check_tick C_check_standing F_check_moment) (fun _ _ _ _ _ _ us hl => match us, hl with | [_, _, _], _ => rfl)
    have C_undone := F_undone.callee (P := PySem.Challenge.rw_livingclock_k17_whole_safe.prog) (w := w) (base := base) (k := 2) (sp := sp_undone) m_undone (ok_undone T C_all_exchanges F_undone) (fun _ _ _ _ _ _ us hl => match us, hl with | [_, _], _ => rfl)
    have C_firsts_from := F_firsts_from.callee (P := PySem.Challenge.rw_livingclock_k17_whole_safe.prog) (w := w) (base := base) (k := 3) (sp := sp_firsts_from) m_firsts_from (ok_firsts_from T C_undone C_first_gap F_firsts_from) (fun _ _ _ _ _ _ us hl => match us, hl with | [_, _, _, _], _ => rfl)
    have I_Rests : LC.CalleeI PySem.Challenge.rw_livingclock_k17_whole_safe.prog w K mg base C_Rests "Rests" f_Rests_init fd_Rests_init 6 ["self", "clock"] (sp_Rests_init C_Rests) := ⟨⟨MK_Rests, D_Rests_init.at_, D_Rests_init.fn, KP_Rests⟩, PySem.W.mg_of X G N_Rests, F_Rests_init.binds (fun _ _ _ _ _ _ us hl => match us, hl with | [_, _], _ => rfl), ok_Rests_init T TC C_push_table C_touch_phasesF F_Rests_init⟩
    have M_is_late : LC.CalleeM PySem.Challenge.rw_livingclock_k17_whole_safe.prog w K mg base C_Rests "is_late" f_Rests_is_late fd_Rests_is_late 2 ["self", "tick", "standing", "numbers"] (sp_Rests_is_late C_Rests) := ⟨D_Rests_is_late.meth, F_Rests_is_late.binds (fun _ _ _ _ _ _ us hl => match us, hl with | [_, _, _, _], _ => rfl), ok_Rests_is_late T TC C_first_fromL F_Rests_is_late⟩
    have M_numbers_from : LC.CalleeM PySem.Challenge.rw_livingclock_k17_whole_safe.prog w K mg base C_Rests "numbers_from" f_Rests_numbers_from fd_Rests_numbers_from 5 ["self", "tick", "standing", "firsts"] (sp_Rests_numbers_from C_Rests) := ⟨D_Rests_numbers_from.meth, F_Rests_numbers_from.binds (fun _ _ _ _ _ _ us hl => match us, hl with | [_, _, _, _], _ => rfl), ok_Rests_numbers_from T TC C_settled_by M_is_late F_Rests_numbers_from⟩
    have C_rest_beside := F_rest_beside.callee (P := PySem.Challenge.rw_livingclock_k17_whole_safe.prog) (w := w) (base := base) (k := 8) (sp := sp_rest_beside ([P_are_editions, P_are_touches, P_are_wheel_gaps, P_is_book, P_rows_of])) m_rest_beside (ok_rest_beside T TC I_Rests M_numbers_from C_firsts_from C_rows_of F_rest_beside) (fun _ _ _ _ _ _ us hl => match us, hl with | [_, _, _, _], _ => rfl)
    have C_has_later_rest := F_has_later_rest.callee (P := PySem.Challenge.rw_livingclock_k17_whole_safe.prog) (w := w) (base := base) (k := 8) (sp := sp_has_later_rest) m_has_later_rest (ok_has_later_rest T TC I_Rests M_numbers_from C_firsts_from F_has_later_rest) (fun _ _ _ _ _ _ us hl => match us, hl with | [_, _, _], _ => rfl)
    have C_raised := F_raised.callee (P := PySem.Challenge.rw_livingclock_k17_whole_safe.prog) (w := w) (base := base) (k := 1) (sp := sp_raised) m_raised (ok_raised T  F_raised) (fun _ _ _ _ _ _ us hl => match us, hl with | [_, _], _ => rfl)
    have C_is_safe := F_is_safe.callee (P := PySem.Challenge.rw_livingclock_k17_whole_safe.prog) (w := w) (base := base) (k := 9) (sp := sp_is_safe ([P_are_editions, P_are_touches, P_are_wheel_gaps, P_is_book, P_rows_of])) m_is_safe (ok_is_safe T C_rest_beside C_raised F_is_safe) (fun _ _ _ _ _ _ us hl => match us, hl with | [_, _, _, _, _], _ => rfl)
    have C_safe_beside := F_safe_beside.callee (P := PySem.Challenge.rw_livingclock_k17_whole_safe.prog) (w := w) (base := base) (k := 10) (sp := sp_safe_beside ([P_are_editions, P_are_touches, P_are_wheel_gaps, P_is_book, P_rows_of])) m_safe_beside (ok_safe_beside T C_is_safe F_safe_beside) (fun _ _ _ _ _ _ us hl => match us, hl with | [_, _, _, _], _ => rfl)
    have C_safe := F_safe.callee (P := PySem.Challenge.rw_livingclock_k17_whole_safe.prog) (w := w) (base := base) (k := 11) (sp := sp_safe ([P_are_editions, P_are_touches, P_are_wheel_gaps, P_is_book, P_rows_of])) m_safe (ok_safe T C_check_moment C_safe_beside F_safe) (fun _ _ _ _ _ _ us hl => match us, hl with | [_, _, _], _ => rfl)
    have C_may_wait := F_may_wait.callee (P := PySem.Challenge.rw_livingclock_k17_whole_safe.prog) (w := w) (base := base) (k := 11) (sp := sp_may_wait ([P_are_editions, P_are_touches, P_are_wheel_gaps, P_is_book, P_rows_of])) m_may_wait (ok_may_wait T C_check_moment C_has_later_rest F_may_wait) (fun _ _ _ _ _ _ us hl => match us, hl with | [_, _, _], _ => rfl)
    have C_law_taken := F_law_taken.callee (P := PySem.Challenge.rw_livingclock_k17_whole_safe.prog) (w := w) (base := base) (k := 1) (sp := sb_taken K) m_law_taken (ok_law_taken T  F_law_taken) (fun _ _ _ _ _ _ us hl => match us, hl with | [_, _], _ => rfl)
    have C_law_low_clock := F_law_low_clock.callee (P := PySem.Challenge.rw_livingclock_k17_whole_safe.prog) (w := w) (base := base) (k := 2) (sp := sp_low_clockX K) m_law_low_clock (ok_law_low_clockX T C_law_taken F_law_low_clock) (fun _ _ _ _ _ _ us hl => match us, hl with | [_, _, _, _, _], _ => rfl)
    have C_law_tiny := F_law_tiny.callee (P := PySem.Challenge.rw_livingclock_k17_whole_safe.prog) (w := w) (base := base) (k := 3) (sp := sp_law_tiny K) m_law_tiny (ok_law_tiny T C_law_taken C_law_low_clock F_law_tiny) (fun _ _ _ _ _ _ us hl => match us, hl with | [_], _ => rfl)
    have C_law_rows := F_law_rows.callee (P := PySem.Challenge.rw_livingclock_k17_whole_safe.prog) (w := w) (base := base) (k := 1) (sp := sp_law_rows) m_law_rows (ok_law_rows T  F_law_rows) (fun _ _ _ _ _ _ us hl => match us, hl with | [_, _, _, _, _], _ => rfl)
    have C_law_plans := F_law_plans.callee (P := PySem.Challenge.rw_livingclock_k17_whole_safe.prog) (w := w) (base := base) (k := 2) (sp := sp_law_plansR) m_law_plans (ok_law_plansR T C_law_rows F_law_plans) (fun _ _ _ _ _ _ us hl => match us, hl with | [_, _, _, _], _ => rfl)
    have C_law_needed := F_law_needed.callee (P := PySem.Challenge.rw_livingclock_k17_whole_safe.prog) (w := w) (base := base) (k := 1) (sp := sp_law_needed) m_law_needed (ok_law_needed T  F_law_needed) (fun _ _ _ _ _ _ us hl => match us, hl with | [_, _, _, _], _ => rfl)
    have C_law_bad := F_law_bad.callee (P := PySem.Challenge.rw_livingclock_k17_whole_safe.prog) (w := w) (base := base) (k := 2) (sp := sp_law_bad) m_law_bad (ok_law_bad T C_law_needed F_law_bad) (fun _ _ _ _ _ _ us hl => match us, hl with | [_, _, _], _ => rfl)
    have C_law_standing := F_law_standing.callee (P := PySem.Challenge.rw_livingclock_k17_whole_safe.prog) (w := w) (base := base) (k := 1) (sp := sp_law_standing) m_law_standing (ok_law_standing T  F_law_standing) (fun _ _ _ _ _ _ us hl => match us, hl with | [_, _], _ => rfl)
    have C_law_rest_bad := F_law_rest_bad.callee (P := PySem.Challenge.rw_livingclock_k17_whole_safe.prog) (w := w) (base := base) (k := 3) (sp := sp_law_rest_bad) m_law_rest_bad (ok_law_rest_bad T C_law_bad C_law_standing F_law_rest_bad) (fun _ _ _ _ _ _ us hl => match us, hl with | [_, _, _, _], _ => rfl)
    have C_law_rests := F_law_rests.callee (P := PySem.Challenge.rw_livingclock_k17_whole_safe.prog) (w := w) (base := base) (k := 4) (sp := sp_law_rests) m_law_rests (ok_law_rests T C_law_plans C_law_rest_bad F_law_rests) (fun _ _ _ _ _ _ us hl => match us, hl with | [_, _, _, _], _ => rfl)
    have C_law_alike0 := F_law_alike.callee (P := PySem.Challenge.rw_livingclock_k17_whole_safe.prog) (w := w) (base := base) (k := 0) (sp := sp_alike 0) m_law_alike (ok_law_alike0) (fun _ _ _ _ _ _ us hl => match us, hl with | [_, _], _ => rfl)
    have C_law_alike1 := F_law_alike.callee (P := PySem.Challenge.rw_livingclock_k17_whole_safe.prog) (w := w) (base := base) (k := 1) (sp := sp_alike 1) m_law_alike (ok_law_alike T C_law_alike0 F_law_alike) (fun _ _ _ _ _ _ us hl => match us, hl with | [_, _], _ => rfl)
    have C_law_alike2 := F_law_alike.callee (P := PySem.Challenge.rw_livingclock_k17_whole_safe.prog) (w := w) (base := base) (k := 2) (sp := sp_alike 2) m_law_alike (ok_law_alike T C_law_alike1 F_law_alike) (fun _ _ _ _ _ _ us hl => match us, hl with | [_, _], _ => rfl)
    have C_law_alike := F_law_alike.callee (P := PySem.Challenge.rw_livingclock_k17_whole_safe.prog) (w := w) (base := base) (k := 3) (sp := sp_alike 3) m_law_alike (ok_law_alike T C_law_alike2 F_law_alike) (fun _ _ _ _ _ _ us hl => match us, hl with | [_, _], _ => rfl)
    exact ok_law T C_law_tiny C_law_taken C_law_rests C_law_alike C_safe C_may_wait F_law
end K17
-- K17_end
open PySem PySem.W PyProof.Rows
set_option maxRecDepth 100000 in
set_option maxHeartbeats 16000000 in
theorem PySem.Challenge.cw_livingclock_k17_whole_safe_holds : PySem.Challenge.rw_livingclock_k17_whole_safe.Holds := by
  w_on; o_law; k_head; (case hw => w_witness2)
  k_fill
  refine LC.walk_tb (l := PySem.Challenge.rw_livingclock_k17_whole_safe) (n := 63) (k := 12) (CX := fun _ => L2.CX0) (x := "script") (by rfl) (by decide) rfl ⟨rfl, by decide, by decide⟩ (fun w h Y => by first | exact PySem.W.kIn_of Y | exact PySem.W.km_in_of Y) ?F (fun _ _ _ _ _ z => z)
  case F =>
    intro w mg fa h Y XX KX G hmg tabs
    have T : K17.Txt mg := by
      refine' {g_all := PySem.W.mg_none_of KX G ?g_all, g_bool := PySem.W.mg_none_of KX G ?g_bool, g_divmod := PySem.W.mg_none_of KX G ?g_divmod, g_enumerate := PySem.W.mg_none_of KX G ?g_enumerate, g_int := PySem.W.mg_none_of KX G ?g_int, g_isinstance := PySem.W.mg_none_of KX G ?g_isinstance, g_len := PySem.W.mg_none_of KX G ?g_len, g_list := PySem.W.mg_none_of KX G ?g_list, g_max := PySem.W.mg_none_of KX G ?g_max, g_min := PySem.W.mg_none_of KX G ?g_min, g_range := PySem.W.mg_none_of KX G ?g_range, g_sorted := PySem.W.mg_none_of KX G ?g_sorted, g_str := PySem.W.mg_none_of KX G ?g_str, g_sum := PySem.W.mg_none_of KX G ?g_sum, g_tuple := PySem.W.mg_none_of KX G ?g_tuple, g_zip := PySem.W.mg_none_of KX G ?g_zip, m_MOST := LC.loose_int XX.2 (by simp), m_MOST_PERIOD := LC.mg_int KX G ?m_MOST_PERIOD, m_MOST_WHEELS := LC.mg_int KX G ?m_MOST_WHEELS, m_MOST_EDITION := LC.mg_int KX G ?m_MOST_EDITION, m_MOST_EXCHANGES := LC.mg_int KX G ?m_MOST_EXCHANGES}
      case g_all => k_is
      case g_bool => k_is
      case g_divmod => k_is
      case g_enumerate => k_is
      case g_int => k_is
      case g_isinstance => k_is
      case g_len => k_is
      case g_list => k_is
      case g_max => k_is
      case g_min => k_is
      case g_range => k_is
      case g_sorted => k_is
      case g_str => k_is
      case g_sum => k_is
      case g_tuple => k_is
      case g_zip => k_is
      case m_MOST_PERIOD => k_is
      case m_MOST_WHEELS => k_is
      case m_MOST_EDITION => k_is
      case m_MOST_EXCHANGES => k_is
    refine' K17.law_at KX G hmg T (LC.defAt_mk ?a_is_whole ?l_is_whole ?c_is_whole ?k_is_whole) (LC.defAt_mk ?a_is_between ?l_is_between ?c_is_between ?k_is_between) (LC.defAt_mk ?a_is_tuple_of ?l_is_tuple_of ?c_is_tuple_of ?k_is_tuple_of) (LC.defAt_mk ?a_is_rising ?l_is_rising ?c_is_rising ?k_is_rising) (LC.defAt_mk ?a_check_tick ?l_check_tick ?c_check_tick ?k_check_tick) (LC.defAt_mk ?a_is_touch ?l_is_touch ?c_is_touch ?k_is_touch) (LC.defAt_mk ?a_are_editions ?l_are_editions ?c_are_editions ?k_are_editions) (LC.defAt_mk ?a_are_touches ?l_are_touches ?c_are_touches ?k_are_touches) (LC.defAt_mk ?a_are_wheel_gaps ?l_are_wheel_gaps ?c_are_wheel_gaps ?k_are_wheel_gaps) (LC.defAt_mk ?a_are_gaps ?l_are_gaps ?c_are_gaps ?k_are_gaps) (LC.defAt_mk ?a_is_entry ?l_is_entry ?c_is_entry ?k_is_entry) (LC.defAt_mk ?a_is_book ?l_is_book ?c_is_book ?k_is_book) (LC.defAt_mk ?a_wrong_part ?l_wrong_part ?c_wrong_part ?k_wrong_part) (LC.defAt_mk ?a_check_clock ?l_check_clock ?c_check_clock ?k_check_clock) (LC.defAt_mk ?a_all_exchanges ?l_all_exchanges ?c_all_exchanges ?k_all_exchanges) (LC.defAt_mk ?a_least_needed ?l_least_needed ?c_least_needed ?k_least_needed) (LC.defAt_mk ?a_touch_phases ?l_touch_phases ?c_touch_phases ?k_touch_phases) (LC.defAt_mk ?a_first_from ?l_first_from ?c_first_from ?k_first_from) (LC.defAt_mk ?a_first_gap ?l_first_gap ?c_first_gap ?k_first_gap) (LC.defAt_mk ?a_gap_behind ?l_gap_behind ?c_gap_behind ?k_gap_behind) (LC.defAt_mk ?a_row_of_push ?l_row_of_push ?c_row_of_push ?k_row_of_push) (LC.defAt_mk ?a_leant_on ?l_leant_on ?c_leant_on ?k_leant_on) (LC.defAt_mk ?a_leaning_pairs ?l_leaning_pairs ?c_leaning_pairs ?k_leaning_pairs) (LC.defAt_mk ?a_stair_at ?l_stair_at ?c_stair_at ?k_stair_at) (LC.defAt_mk ?a_push_table ?l_push_table ?c_push_table ?k_push_table) (LC.defAt_mk ?a_pushed_pairs ?l_pushed_pairs ?c_pushed_pairs ?k_pushed_pairs) (LC.defAt_mk ?a_lifted_numbers ?l_lifted_numbers ?c_lifted_numbers ?k_lifted_numbers) (LC.defAt_mk ?a_settled_by ?l_settled_by ?c_settled_by ?k_settled_by) (LC.defAt_mk ?a_rows_of ?l_rows_of ?c_rows_of ?k_rows_of) (LC.defAt_mk ?a_is_standing ?l_is_standing ?c_is_standing ?k_is_standing) (LC.defAt_mk ?a_check_standing ?l_check_standing ?c_check_standing ?k_check_standing) (LC.defAt_mk ?a_check_moment ?l_check_moment ?c_check_moment ?k_check_moment) (LC.defAt_mk ?a_undone ?l_undone ?c_undone ?k_undone) (LC.defAt_mk ?a_firsts_from ?l_firsts_from ?c_firsts_from ?k_firsts_from) (LC.defAt_mk ?a_rest_beside ?l_rest_beside ?c_rest_beside ?k_rest_beside) (LC.defAt_mk ?a_has_later_rest ?l_has_later_rest ?c_has_later_rest ?k_has_later_rest) (LC.defAt_mk ?a_raised ?l_raised ?c_raised ?k_raised) (LC.defAt_mk ?a_is_safe ?l_is_safe ?c_is_safe ?k_is_safe) (LC.defAt_mk ?a_safe_beside ?l_safe_beside ?c_safe_beside ?k_safe_beside) (LC.defAt_mk ?a_safe ?l_safe ?c_safe ?k_safe) (LC.defAt_mk ?a_may_wait ?l_may_wait ?c_may_wait ?k_may_wait) (LC.defAt_mk ?a_law_taken ?l_law_taken ?c_law_taken ?k_law_taken) (LC.defAt_mk ?a_law_low_clock ?l_law_low_clock ?c_law_low_clock ?k_law_low_clock) (LC.defAt_mk ?a_law_tiny ?l_law_tiny ?c_law_tiny ?k_law_tiny) (LC.defAt_mk ?a_law_rows ?l_law_rows ?c_law_rows ?k_law_rows) (LC.defAt_mk ?a_law_plans ?l_law_plans ?c_law_plans ?k_law_plans) (LC.defAt_mk ?a_law_needed ?l_law_needed ?c_law_needed ?k_law_needed) (LC.defAt_mk ?a_law_bad ?l_law_bad ?c_law_bad ?k_law_bad) (LC.defAt_mk ?a_law_standing ?l_law_standing ?c_law_standing ?k_law_standing) (LC.defAt_mk ?a_law_rest_bad ?l_law_rest_bad ?c_law_rest_bad ?k_law_rest_bad) (LC.defAt_mk ?a_law_rests ?l_law_rests ?c_law_rests ?k_law_rests) (LC.defAt_mk ?a_law_alike ?l_law_alike ?c_law_alike ?k_law_alike) (LC.defAt_mk ?a_law ?l_law ?c_law ?k_law) tabs ?r_are_editions ?lc_are_editions ?h_are_editions ?n_are_editions ?r_are_touches ?lc_are_touches ?h_are_touches ?n_are_touches ?r_are_wheel_gaps ?lc_are_wheel_gaps ?h_are_wheel_gaps ?n_are_wheel_gaps ?r_is_book ?lc_is_book ?h_is_book ?n_is_book ?r_rows_of ?lc_rows_of ?h_rows_of ?n_rows_of ?n_Rests (LC.clsC ?c1_Rests ?c2_Rests ?c3_Rests ?c4_Rests) ?mk_Rests ?kp_Rests ?at_Rests_clock ?at_Rests_table ?at_Rests_needs (LC.methAt_mk ?ma_Rests_init ?mi_Rests_init ?ml_Rests_init ?mc_Rests_init ?mp_Rests_init) (LC.methAt_mk ?ma_Rests_is_late ?mi_Rests_is_late ?ml_Rests_is_late ?mc_Rests_is_late ?mp_Rests_is_late) (LC.methAt_mk ?ma_Rests_numbers_from ?mi_Rests_numbers_from ?ml_Rests_numbers_from ?mc_Rests_numbers_from ?mp_Rests_numbers_from)
    (case n_Rests => first | k_is | k_exc | rfl | decide +kernel)
    (case c1_Rests => first | k_is | k_exc | rfl | decide +kernel)
    (case c2_Rests => first | k_is | k_exc | rfl | decide +kernel)
    (case c3_Rests => first | k_is | k_exc | rfl | decide +kernel)
    (case c4_Rests => first | k_is | k_exc | rfl | decide +kernel)
    (case mk_Rests => first | k_is | k_exc | rfl | decide +kernel)
    (case kp_Rests => first | k_is | k_exc | rfl | decide +kernel)
    (case at_Rests_clock => first | k_is | k_exc | rfl | decide +kernel)
    (case at_Rests_table => first | k_is | k_exc | rfl | decide +kernel)
    (case at_Rests_needs => first | k_is | k_exc | rfl | decide +kernel)
    (case ma_Rests_init => first | k_is | k_exc | rfl | decide +kernel)
    (case mi_Rests_init => first | k_is | k_exc | rfl | decide +kernel)
    (case ml_Rests_init => first | k_is | k_exc | rfl | decide +kernel)
    (case mc_Rests_init => first | k_is | k_exc | rfl | decide +kernel)
    (case mp_Rests_init => first | k_is | k_exc | rfl | decide +kernel)
    (case ma_Rests_is_late => first | k_is | k_exc | rfl | decide +kernel)
    (case mi_Rests_is_late => first | k_is | k_exc | rfl | decide +kernel)
    (case ml_Rests_is_late => first | k_is | k_exc | rfl | decide +kernel)
    (case mc_Rests_is_late => first | k_is | k_exc | rfl | decide +kernel)
    (case mp_Rests_is_late => first | k_is | k_exc | rfl | decide +kernel)
    (case ma_Rests_numbers_from => first | k_is | k_exc | rfl | decide +kernel)
    (case mi_Rests_numbers_from => first | k_is | k_exc | rfl | decide +kernel)
    (case ml_Rests_numbers_from => first | k_is | k_exc | rfl | decide +kernel)
    (case mc_Rests_numbers_from => first | k_is | k_exc | rfl | decide +kernel)
    (case mp_Rests_numbers_from => first | k_is | k_exc | rfl | decide +kernel)
    (case a_is_whole => k_is); (case l_is_whole => k_is); (case c_is_whole => k_is); (case k_is_whole => k_is)
    (case a_is_between => k_is); (case l_is_between => k_is); (case c_is_between => k_is); (case k_is_between => k_is)
    (case a_is_tuple_of => k_is); (case l_is_tuple_of => k_is); (case c_is_tuple_of => k_is); (case k_is_tuple_of => k_is)
    (case a_is_rising => k_is); (case l_is_rising => k_is); (case c_is_rising => k_is); (case k_is_rising => k_is)
    (case a_check_tick => k_is); (case l_check_tick => k_is); (case c_check_tick => k_is); (case k_check_tick => k_is)
    (case a_is_touch => k_is); (case l_is_touch => k_is); (case c_is_touch => k_is); (case k_is_touch => k_is)
    (case a_are_editions => k_is); (case l_are_editions => k_is); (case c_are_editions => k_is); (case k_are_editions => k_is)
    (case a_are_touches => k_is); (case l_are_touches => k_is); (case c_are_touches => k_is); (case k_are_touches => k_is)
    (case a_are_wheel_gaps => k_is); (case l_are_wheel_gaps => k_is); (case c_are_wheel_gaps => k_is); (case k_are_wheel_gaps => k_is)
    (case a_are_gaps => k_is); (case l_are_gaps => k_is); (case c_are_gaps => k_is); (case k_are_gaps => k_is)
    (case a_is_entry => k_is); (case l_is_entry => k_is); (case c_is_entry => k_is); (case k_is_entry => k_is)
    (case a_is_book => k_is); (case l_is_book => k_is); (case c_is_book => k_is); (case k_is_book => k_is)
    (case a_wrong_part => k_is); (case l_wrong_part => k_is); (case c_wrong_part => k_is); (case k_wrong_part => k_is)
    (case a_check_clock => k_is); (case l_check_clock => k_is); (case c_check_clock => k_is); (case k_check_clock => k_is)
    (case a_all_exchanges => k_is); (case l_all_exchanges => k_is); (case c_all_exchanges => k_is); (case k_all_exchanges => k_is)
    (case a_least_needed => k_is); (case l_least_needed => k_is); (case c_least_needed => k_is); (case k_least_needed => k_is)
    (case a_touch_phases => k_is); (case l_touch_phases => k_is); (case c_touch_phases => k_is); (case k_touch_phases => k_is)
    (case a_first_from => k_is); (case l_first_from => k_is); (case c_first_from => k_is); (case k_first_from => k_is)
    (case a_first_gap => k_is); (case l_first_gap => k_is); (case c_first_gap => k_is); (case k_first_gap => k_is)
    (case a_gap_behind => k_is); (case l_gap_behind => k_is); (case c_gap_behind => k_is); (case k_gap_behind => k_is)
    (case a_row_of_push => k_is); (case l_row_of_push => k_is); (case c_row_of_push => k_is); (case k_row_of_push => k_is)
    (case a_leant_on => k_is); (case l_leant_on => k_is); (case c_leant_on => k_is); (case k_leant_on => k_is)
    (case a_leaning_pairs => k_is); (case l_leaning_pairs => k_is); (case c_leaning_pairs => k_is); (case k_leaning_pairs => k_is)
    (case a_stair_at => k_is); (case l_stair_at => k_is); (case c_stair_at => k_is); (case k_stair_at => k_is)
    (case a_push_table => k_is); (case l_push_table => k_is); (case c_push_table => k_is); (case k_push_table => k_is)
    (case a_pushed_pairs => k_is); (case l_pushed_pairs => k_is); (case c_pushed_pairs => k_is); (case k_pushed_pairs => k_is)
    (case a_lifted_numbers => k_is); (case l_lifted_numbers => k_is); (case c_lifted_numbers => k_is); (case k_lifted_numbers => k_is)
    (case a_settled_by => k_is); (case l_settled_by => k_is); (case c_settled_by => k_is); (case k_settled_by => k_is)
    (case a_rows_of => k_is); (case l_rows_of => k_is); (case c_rows_of => k_is); (case k_rows_of => k_is)
    (case a_is_standing => k_is); (case l_is_standing => k_is); (case c_is_standing => k_is); (case k_is_standing => k_is)
    (case a_check_standing => k_is); (case l_check_standing => k_is); (case c_check_standing => k_is); (case k_check_standing => k_is)
    (case a_check_moment => k_is); (case l_check_moment => k_is); (case c_check_moment => k_is); (case k_check_moment => k_is)
    (case a_undone => k_is); (case l_undone => k_is); (case c_undone => k_is); (case k_undone => k_is)
    (case a_firsts_from => k_is); (case l_firsts_from => k_is); (case c_firsts_from => k_is); (case k_firsts_from => k_is)
    (case a_rest_beside => k_is); (case l_rest_beside => k_is); (case c_rest_beside => k_is); (case k_rest_beside => k_is)
    (case a_has_later_rest => k_is); (case l_has_later_rest => k_is); (case c_has_later_rest => k_is); (case k_has_later_rest => k_is)
    (case a_raised => k_is); (case l_raised => k_is); (case c_raised => k_is); (case k_raised => k_is)
    (case a_is_safe => k_is); (case l_is_safe => k_is); (case c_is_safe => k_is); (case k_is_safe => k_is)
    (case a_safe_beside => k_is); (case l_safe_beside => k_is); (case c_safe_beside => k_is); (case k_safe_beside => k_is)
    (case a_safe => k_is); (case l_safe => k_is); (case c_safe => k_is); (case k_safe => k_is)
    (case a_may_wait => k_is); (case l_may_wait => k_is); (case c_may_wait => k_is); (case k_may_wait => k_is)
    (case a_law_taken => k_is); (case l_law_taken => k_is); (case c_law_taken => k_is); (case k_law_taken => k_is)
    (case a_law_low_clock => k_is); (case l_law_low_clock => k_is); (case c_law_low_clock => k_is); (case k_law_low_clock => k_is)
    (case a_law_tiny => k_is); (case l_law_tiny => k_is); (case c_law_tiny => k_is); (case k_law_tiny => k_is)
    (case a_law_rows => k_is); (case l_law_rows => k_is); (case c_law_rows => k_is); (case k_law_rows => k_is)
    (case a_law_plans => k_is); (case l_law_plans => k_is); (case c_law_plans => k_is); (case k_law_plans => k_is)
    (case a_law_needed => k_is); (case l_law_needed => k_is); (case c_law_needed => k_is); (case k_law_needed => k_is)
    (case a_law_bad => k_is); (case l_law_bad => k_is); (case c_law_bad => k_is); (case k_law_bad => k_is)
    (case a_law_standing => k_is); (case l_law_standing => k_is); (case c_law_standing => k_is); (case k_law_standing => k_is)
    (case a_law_rest_bad => k_is); (case l_law_rest_bad => k_is); (case c_law_rest_bad => k_is); (case k_law_rest_bad => k_is)
    (case a_law_rests => k_is); (case l_law_rests => k_is); (case c_law_rests => k_is); (case k_law_rests => k_is)
    (case a_law_alike => k_is); (case l_law_alike => k_is); (case c_law_alike => k_is); (case k_law_alike => k_is)
    (case a_law => k_is); (case l_law => k_is); (case c_law => k_is); (case k_law => k_is)
    (case r_are_editions => decide +kernel); (case lc_are_editions => k_is); (case h_are_editions => rfl); (case n_are_editions => rfl)
    (case r_are_touches => decide +kernel); (case lc_are_touches => k_is); (case h_are_touches => rfl); (case n_are_touches => rfl)
    (case r_are_wheel_gaps => decide +kernel); (case lc_are_wheel_gaps => k_is); (case h_are_wheel_gaps => rfl); (case n_are_wheel_gaps => rfl)
    (case r_is_book => decide +kernel); (case lc_is_book => k_is); (case h_is_book => rfl); (case n_is_book => rfl)
    (case r_rows_of => decide +kernel); (case lc_rows_of => k_is); (case h_rows_of => rfl); (case n_rows_of => rfl)
