import PyProof.Rows.All
import Wide.All
import OpenK.AllK
import Wide.FinOn
import HandS.ForMost
import HandS.AnyAll
import HandS.GenList
import HandS.EndTab
import HandS.IsInst
import HandS.TupAny
import HandS.Wide
import HandS.HeadHook4
import HandS.HeadWalk
import HandS.Style
import HandS.RaiseMore
import HandS.Head0
import HandS.Head1
import HandS.Head2
import HandS.HeadEnd
import PySem.Challenge.RW_gonemarks_k01_what_is_a_seat
set_option Elab.async false
set_option linter.all false
set_option maxRecDepth 100000
set_option maxHeartbeats 0
/-! Generator expressions consumed by all, any: over anything that PI serves, the element any expression of the layer (calls of defs too). -/
namespace GX
open PySem PySem.Spec PyProof.Rows L2 GenW

theorem over_comp {A : Around} {elt : Expr} {gs : List Comprehension} {sc : Scope} {pos : Pos} {it acc : Value} {env : Env} : A.over (.compLoop (.GeneratorExp elt gs sc pos) 0 it acc env) [] = A.deeper env := by
  rfl
theorem over_start {A : Around} {elt : Expr} {gs : List Comprehension} {sc : Scope} {pos : Pos} {it acc : Value} {env : Env} : A.over (.compStart (.GeneratorExp elt gs sc pos) 0 it acc env) [] = A.deeper env := by
  rfl

/-- the generator's own context, from its making on -/
abbrev gcx (X : Cx) (B : Around) (s : Shared) (H : Hp) (cenv : Env) (fp : List Addr) : Cx :=
  { X with A := B.deeper cenv, s_0 := s, H_0 := H, env := cenv, outer := X.stack, stack := cenv :: X.stack, ex := fp, fn := fun _ => false, pn := [], xe := fun _ _ => False }

theorem room_gx {k : Nat} {A : Around} (r : Room (k + 1) A) (env : Env) : Room k (A.in1.in1.deeper env) :=
  ⟨r.hd, by have := r.dp; show A.depth + 1 + 3 * k + 5 < _; omega, by have := r.un; show A.units + 1 + 1 + 3 + 16 * k + 200 < _; omega⟩

section
variable {X : Cx} {pins : List (Addr × Obj)}
variable {σ : L2.St} {H : Hp} {s : Shared}

/-- a name that the generator's own cells give stands for the maker's cell -/
theorem clo_cell {cells : List (Str × Addr)} {names : List (Str × NameKind)} {y : Str} {c : Addr} (have_ : ∀ q ∈ names, q.2 = .free → ∃ d, cells.lookup q.1 = some d) (e : (cloFrom cells names []).lookup y = some c) : cells.lookup y = some c := by
  rcases cloFrom_mem (PySem.mem_of_lookup e) with no | ⟨hm, hc⟩
  · cases no
  · obtain ⟨d, hd⟩ := have_ _ hm rfl
    rw [hd] at hc
    exact hc ▸ hd
theorem clo_there {cells : List (Str × Addr)} {names : List (Str × NameKind)} {y : Str} (have_ : ∀ q ∈ names, q.2 = .free → ∃ d, cells.lookup q.1 = some d) (hy : names.lookup y = some .free) :
    ∃ c, (cloFrom cells names []).lookup y = some c ∧ cells.lookup y = some c := by
  obtain ⟨c, hc⟩ := mem_lookup (cloFrom_has (cells := cells) (acc := []) (PySem.mem_of_lookup hy))
  exact ⟨c, hc, clo_cell have_ hc⟩
/-- a name of N that stands in the generator's scope and isn't one of its own is captured -/
theorem captured {N : List Str} {sc scope : Scope} {own : List (Str × Nat)} {i : Nat} {y : Str} (ok : BlkOk N sc scope own) (nd : N.Nodup) (hc : ∀ q ∈ scope.names, q.2 ≠ .cell) (hi : N[i]? = some y) (hv : Vis scope y) (no : i ∉ own.map (·.2)) : scope.names.lookup y = some .free := by
  rcases hv with k | k | k
  · exfalso
    rcases ok.own (y, .local) (PySem.mem_of_lookup k) (.inl rfl) with m | m
    · obtain ⟨q, qm, qe⟩ := List.mem_map.mp m
      have at_q : N[q.2]? = some y := (ok.ix q qm).trans (congrArg some qe)
      exact no (List.mem_map.mpr ⟨q, qm, nodup_ix nd at_q hi⟩)
    · exact m (List.mem_of_getElem? hi)
  · exact absurd rfl (hc (y, .cell) (PySem.mem_of_lookup k))
  · exact k
/-- the generator stands, not begun: its context holds -/
theorem gx_start {scope : Scope} {own : List (Str × Nat)} {fp : List Addr} {code : Value} {B : Around} {h' : Heap} {it : Value} {gobj : Obj} {g' : Array GenState} {tk : Nat} (I : Inv X pins σ H s) (ok : BlkOk X.N X.env.scope scope own) (hN : X.N.Nodup)
    (hcell : ∀ y ∈ scope.names, y.2 ≠ .cell) (hfp : ∀ b ∈ fp, FpOk X pins H b ∧ b < s.heap.objs.size) (hB : B.frames = some X.stack) (hBh : B.handled = none)
    (hn' : h'.Ns s.heap.objs.size (fun y => if y = ".0" then some it else none)) (hs' : Heap.SameBut s.heap.objs.size (s.heap.push { cls := .type "frame", data := .dict #[] }) h')
    (hgo : ∀ v, gobj.data ≠ .cell v) (hgf : gobj.isFreed = false) (hg : AllBare g') :
    Inv (gcx X B s H (genEnv scope (cloFrom X.env.cells scope.names []) s.heap.objs.size code builtinsNs X.env) fp) [(h'.objs.size, gobj)] (wipe σ (own.map (·.2))) H { s with gens := g', toks := tk, heap := h'.push gobj } := by
  have caught : ∀ q ∈ scope.names, q.2 = .free → ∃ d, X.env.cells.lookup q.1 = some d := fun q hq fr => (ok.free q hq fr).elim (fun u => I.ok.has _ (.inl u)) (fun u => I.ok.has _ (.inr u))
  have grown : ∀ b o, s.heap.get? b = some o → (h'.push gobj).get? b = some o := fun b o at_b =>
    Heap.get?_push_of_some _ (hs'.extBut b o (Nat.ne_of_lt (Heap.lt_size at_b)) (Heap.get?_push_of_some _ at_b))
  have size' : h'.objs.size = s.heap.objs.size + 1 := hs'.1.trans (Heap.size_push ..)
  have older : ∀ {y : Str} {c : Addr}, (cloFrom X.env.cells scope.names []).lookup y = some c → X.env.cells.lookup y = some c := fun at_y => clo_cell caught at_y
  have notFrame : ∀ {b : Addr}, s.heap.objs.size ≤ b → b ∉ frs X.stack := fun {b} big mem => by
    rcases List.mem_cons.mp (I.stkSub b mem) with own_ | callers
    · exact absurd (Nat.lt_of_lt_of_le I.lt (own_ ▸ big)) (Nat.lt_irrefl _)
    · exact I.nofs big callers
  have fine : (gcx X B s H (genEnv scope (cloFrom X.env.cells scope.names []) s.heap.objs.size code builtinsNs X.env) fp).Ok := by
    constructor
    case mod => exact I.ok.mod
    case kind => exact ok.kind
    case glob => exact I.ok.glob
    case blt => rfl
    case above => exact Nat.le_refl s.heap.objs.size
    case inj => exact fun y z c hy hz => I.ok.inj y z c (older hy) (older hz)
    case has =>
      intro y kinds
      rcases kinds with k | k
      · exact absurd rfl (hcell (y, .cell) (PySem.mem_of_lookup k))
      · exact (clo_there caught k).imp fun c both => both.1
    case cab => exact fun y c no => Bool.noConfusion no
    case hd => exact fun _ => hBh
    case frames => exact Around.frames_deeper hB
    case stk => exact .inr ⟨rfl, rfl⟩
    case exf => exact fun b mem => ⟨Nat.ne_of_lt (hfp b mem).2, fun y c at_y => (hfp b mem).1.2.2.2.2.1 y c (older at_y)⟩
    case bs => exact I.bs
    case bsz => exact Nat.le_trans I.ok.bsz I.sz
    case noex =>
      intro b o at_b mem
      have young := (hfp b mem).1.2.2.2.1
      exact young.elim (I.ok.noex b o at_b) fun big => Nat.not_le_of_lt (Heap.lt_size at_b) (Nat.le_trans I.ok.bsz big)
    case exfs =>
      intro b mem inFs
      have two := List.mem_cons.mp (I.stkSub b inFs)
      exact two.elim (hfp b mem).1.2.1 (hfp b mem).1.2.2.1
    case funs => exact I.stack
    case frf => exact I.stkFree
  constructor
  case ok => exact fine
  case os => rfl
  case bare => exact hg
  case base => exact Un.kept grown
  case loc =>
    refine ⟨_, hn'.push gobj, fun i y v at_i at_v vis => ?_⟩
    obtain ⟨held, notOwn⟩ := wipe_some at_v
    have fr : scope.names.lookup y = some .free := captured ok hN hcell at_i vis notOwn
    obtain ⟨c, here, there⟩ := clo_there caught fr
    have kinds := ok.free (y, .free) (PySem.mem_of_lookup fr) rfl
    obtain ⟨m, _, look⟩ := I.loc
    obtain ⟨u, rel, found⟩ := look i y v at_i held (kinds.elim (fun k => .inr (.inl k)) fun k => .inr (.inr k))
    refine ⟨u, rel, .inr ⟨.inr fr, c, here, ?_⟩⟩
    rcases found with ⟨loc_, _⟩ | ⟨_, d, at_d, cell_d⟩
    · have loc2 : X.env.scope.names.lookup y = some .local := loc_
      rcases kinds with k | k
      · exact nomatch loc2.symm.trans k
      · exact nomatch loc2.symm.trans k
    · cases there.symm.trans at_d
      exact cell_d.keeps grown
  case cell => exact fun y c at_y => (I.cell y c (older at_y)).imp fun v at_c => at_c.keeps grown
  case free => exact I.hok.fresh (Nat.le_refl s.heap.objs.size)
  case freeC => exact fun y c at_y => I.freeC y c (older at_y)
  case pin =>
    intro p mem
    obtain rfl : p = (h'.objs.size, gobj) := by simpa using mem
    have big : s.heap.objs.size ≤ h'.objs.size := size' ▸ Nat.le_succ _
    exact ⟨Heap.get?_push_size _ hgf, I.hok.fresh big, Nat.ne_of_gt (size' ▸ Nat.lt_succ_self _), notFrame big, hgo⟩
  case hok => exact I.hok.kept grown
  case len => exact (wipe_length σ _).trans I.len

/-- while the generator sleeps nothing is changed but the table of generators; the heap may grow -/
structure Slp (s s' : Shared) : Prop where
  os : s'.os = s.os
  bare : AllBare s'.gens
  keep : ∀ b o, s.heap.get? b = some o → s'.heap.get? b = some o
theorem inv_slept {s' : Shared} (I : Inv X pins σ H s) (z : Slp s s') : Inv X pins σ H s' := by
  obtain ⟨z1, z2, z3⟩ := z
  obtain ⟨hh, g, d, t, o⟩ := s'
  have ho : o = s.os := z1
  subst ho
  refine I.step (g' := g) (t' := t) (d' := d) (h' := hh) (ch := []) (fun b hb => absurd hb (by simp)) (fun b ob _ _ _ q _ => z3 b ob q) (fun b ob _ _ _ q _ => ⟨ob.slots, z3 b ob q⟩) (fun _ _ _ _ n => n) (fun b ob _ q => ⟨ob, z3 b ob q⟩)
    (fun _ _ q => q) (fun _ _ _ q => q) (fun b ps q => ⟨#[], by rw [q]; simp⟩) (fun m hm => hm.keeps z3) (I.hok.kept z3) z2

/-- a turn of the generator: W by the turn and a measure; yld what is wanted of an item that is handed out, with what a turn is to reach -/
def Turns (J : It) (g : TG) (tt : TT) (te : TE) (σw : L2.St) (vs : List Nat) (W : Nat → Nat → Hp → Prop) (fin : Hp → Prop) (out : (Hp → Prop) → V → Hp → Prop) : Prop := ∀ i m H, W i m H →
  (J.stop i H ∧ fin H) ∨ (J.go i H ∧ ∃ Nx : Hp → Prop, (∀ H', Nx H' → ∃ m', m' < m ∧ W (i + 1) m' H') ∧ ∀ x H', J.yld i H x H' → g x σw H' fun σ2 H2 => wipe σ2 vs = σw ∧ tt σ2 H2 fun b H3 =>
    if b = true then te σ2 H3 fun y H4 => out Nx y H4 else Nx H3)

/-- the item is a truth; b: the one at which one goes on -/
def outB (b : Bool) (Q : VK) : (Hp → Prop) → V → Hp → Prop := fun Nx y H4 => ∃ c, y = .bl c ∧ if c = b then Nx H4 else Q (.bl (!b)) H4

def endG (XG : Cx) (pn : List (Addr × Obj)) (σw : L2.St) (fin : Hp → Prop) : GenEnd := fun _ _ r s1 => r = .ok .next ∧ ∃ H', Inv XG pn σw H' s1 ∧ fin H'
def yldB (XG : Cx) (pn : List (Addr × Obj)) (σw : L2.St) (b : Bool) (Q : VK) : Protocol := fun _ _ v s1 kap => ∃ c H', v = .bool c ∧ Inv XG pn σw H' s1 ∧ if c = b then ∀ s', Slp s1 s' → kap (.send .none) s' else Q (.bl (!b)) H'

theorem seg_gx {B : Around} {s4 : Shared} {H4 : Hp} {cenv : Env} {fp : List Addr} {pn : List (Addr × Obj)} {elt tg iter : Expr} {ifs : List Expr} {scope : Scope} {pos : Pos} {it : Addr} {tn : Nat → Heap → Prop} {J : It} {g : TG} {tt : TT} {te : TE} {vs : List Nat}
    {W : Nat → Nat → Hp → Prop} {Q : VK} {b : Bool} {σw : L2.St} (hc : X.calm = true) (hco : cenv.scope.isCoroutine = false) (hpn : ∀ p ∈ pn, ∀ q ∈ fp, p.1 ≠ q) (T : Turn X.prog X.w X.K tg J fp it tn)
    (pg : PG (gcx X B s4 H4 cenv fp) tg g) (pt : PTs (gcx X B s4 H4 cenv fp) ifs tt) (pe : PE (gcx X B s4 H4 cenv fp) elt te) (turn : Turns J g tt te σw vs W (Q (.bl b)) (outB b Q)) :
    ∀ (m n i : Nat) (H : Hp) (s0 s : Shared), m < n → Inv (gcx X B s4 H4 cenv fp) pn σw H s → tn i s.heap → (∀ q ∈ fp, H q = none) → W i m H →
      Seg (model X.prog X.w) B (endG (gcx X B s4 H4 cenv fp) pn σw (Q (.bl b))) (yldB (gcx X B s4 H4 cenv fp) pn σw b Q) n s0
        (.compLoop (.GeneratorExp elt [⟨tg, iter, ifs, 0⟩] scope pos) 0 (.ref it) .none cenv)
        ((model X.prog X.w).den (.compLoop (.GeneratorExp elt [⟨tg, iter, ifs, 0⟩] scope pos) 0 (.ref it) .none cenv)) [] s := by
  have stat : ∀ {σ' : L2.St} {H' : Hp} {s' : Shared}, Inv (gcx X B s4 H4 cenv fp) pn σ' H' s' → (∀ q ∈ fp, H' q = none) → ∀ q ∈ fp, FpOk (gcx X B s4 H4 cenv fp) pn H' q := fun {σ' H' s'} I' hn q hq =>
    ⟨hn q hq, (I'.ok.exf q hq).1, I'.ok.exfs q hq, .inl hq, fun x c e => (I'.ok.exf q hq).2 x c e, fun p hp => hpn p (show p ∈ pn from by simpa using hp) q hq⟩
  intro m
  induction m using Nat.strongRecOn with
  | ind m ih =>
    intro n i H s0 s hmn I st nf w
    show Seg _ B _ _ _ s0 _ ((compTurn (.GeneratorExp elt [⟨tg, iter, ifs, 0⟩] scope pos) 0 (.ref it) .none cenv).onRaise (leaving cenv)) [] s
    rw [compTurn_gen, Sem.onRaise_eq_wrap]
    refine seg_bind_wrap (wpAny_standAt ?_)
    rcases turn i m H w with ⟨stop, qq⟩ | ⟨go, Nx, hNx, step⟩
    · refine seg_bind_wrap ?_
      rw [over_comp]
      refine thnF (T.done (gcx X B s4 H4 cenv fp) rfl rfl rfl hc i pn s σw H (fun _ _ => False) I (stat I nf) st stop) fun r s6 ⟨hr, I6⟩ => ?_
      subst hr
      exact seg_end (.ok .next) ⟨rfl, H, I6, qq⟩
    · refine seg_bind_wrap ?_
      rw [over_comp]
      refine thnF (T.item (gcx X B s4 H4 cenv fp) rfl rfl rfl hc i pn s σw H (fun _ _ => False) I (stat I nf) st go) fun r s6 ⟨u, hr, h6⟩ => ?_
      subst hr
      refine seg_bind_wrap ?_
      rw [over_comp]
      refine thnF h6 fun _ s7 ⟨x, H7, I7, r7, y7, st7, n7⟩ => ?_
      have I7' := I7.pinned (stat I7 n7) (T.obj _ _ st7)
      refine seg_bind_wrap ?_
      rw [over_comp]
      have put := pg.run _ s7 _ H7 x u _ I7' r7 (step x H7 y7)
      refine thnF put fun _ s8 ⟨σ8, H8, I8, hw8, q8⟩ => ?_
      refine seg_bind_wrap ?_
      rw [over_comp]
      refine thnF (pt.run _ s8 σ8 H8 _ I8 q8) fun k s9 ⟨H9, I9, q9⟩ => ?_
      have pin' : ∀ {H' : Hp} {s' : Shared} {σ' : L2.St}, Inv (gcx X B s4 H4 cenv fp) (pn ++ pinsAt fp s7.heap) σ' H' s' → ∀ q ∈ fp, ∀ o, s7.heap.get? q = some o → s'.heap.get? q = some o ∧ H' q = none := fun {H' s' σ'} I' q hq o e =>
        let z := I'.pin (q, o) (List.mem_append_right _ (List.mem_append_right _ (mem_pinsAt hq e)))
        ⟨z.1, z.2.1⟩
      have back : ∀ {s' : Shared} {H' : Hp}, Inv (gcx X B s4 H4 cenv fp) (pn ++ pinsAt fp s7.heap) σ8 H' s' → Inv (gcx X B s4 H4 cenv fp) pn σw H' s' ∧ tn (i + 1) s'.heap ∧ ∀ q ∈ fp, H' q = none := fun {s' H'} I' => by
        have hl : σw.length = σ8.length := by rw [← hw8, wipe_length]
        refine ⟨(I'.unpinned (pins := pn)).weak hl (fun j v e => ?_), T.keep _ _ _ st7 fun q hq o e => (pin' I' q hq o e).1, fun q hq => ?_⟩
        · rw [← hw8] at e
          exact (wipe_some e).1
        · obtain ⟨o, e, _⟩ := T.obj _ _ st7 q hq
          exact (pin' I' q hq o e).2
      cases k with
      | false =>
        simp only [Bool.false_eq_true, if_false] at q9 ⊢
        obtain ⟨m', hm, w'⟩ := hNx _ q9
        obtain ⟨b1, b2, b3⟩ := back I9
        exact seg_again rfl (ih m' hm n (i + 1) H9 s0 s9 (by omega) b1 b2 b3 w')
      | true =>
        simp only [if_true] at q9 ⊢
        have out : yieldOut cenv = yieldValue := funext fun v => by
          unfold yieldOut
          rw [hco]
          rfl
        simp only [out]
        simp only [Sem.bind_eq_wrap', Sem.wrap_wrap]
        refine seg_wrap ?_
        rw [over_comp]
        refine thnF (pe.run _ s9 σ8 H9 _ I9 q9) fun z s10 ⟨yv, H10, I10, r10, c, ey, qq⟩ => ?_
        subst ey
        have ez : z = .bool c := r10
        subst ez
        obtain ⟨b1, b2, b3⟩ := back I10
        have hn1 : ∃ n', n = n' + 1 := ⟨n - 1, by omega⟩
        obtain ⟨n', rfl⟩ := hn1
        refine seg_at (seg_yield rfl rfl rfl ⟨c, H10, rfl, b1, ?_⟩)
        by_cases hcb : c = b
        · rw [if_pos hcb] at qq ⊢
          obtain ⟨m', hm, w'⟩ := hNx _ qq
          intro s'' hsl
          exact seg_again rfl (ih m' hm n' (i + 1) H10 s'' s'' (by omega) (inv_slept b1 hsl) (T.keep _ _ _ b2 fun q hq o e => hsl.keep q o e) b3 w')
        · rw [if_neg hcb] at qq ⊢
          exact qq
/-- what the making of the generator leaves to its consumer: it lies at a, number gn, not begun -/
def Made (XG : Cx) (pn : List (Addr × Obj)) (σw : L2.St) (B : Around) (b : Bool) (Q : VK) (a : Addr) (gn : Nat) (s : Shared) : Prop :=
  s.heap.IsGen a gn ∧ s.heap.NoLimit ∧ AllBare s.gens ∧ ∃ gs n, s.gens[gn]? = some gs ∧ gs.Goes (model XG.prog XG.w) B (endG XG pn σw (Q (.bl b))) (yldB XG pn σw b Q) n (.send .none) (s.setGen gn .running)

theorem seg_start {B : Around} {XG : Cx} {R : GenEnd} {Y : Protocol} {n : Nat} {elt tg iter : Expr} {ifs : List Expr} {scope : Scope} {pos : Pos} {J : It} {fp : List Addr} {it : Addr} {tn : Nat → Heap → Prop} {cenv : Env} {s0 : Shared} (T : Turn X.prog X.w X.K tg J fp it tn) (st : tn 0 s.heap)
    (loop : Seg (model X.prog X.w) B R Y n s0 (.compLoop (.GeneratorExp elt [⟨tg, iter, ifs, 0⟩] scope pos) 0 (.ref it) .none cenv) ((model X.prog X.w).den (.compLoop (.GeneratorExp elt [⟨tg, iter, ifs, 0⟩] scope pos) 0 (.ref it) .none cenv)) [] s) :
    Seg (model X.prog X.w) B R Y n s0 (.compStart (.GeneratorExp elt [⟨tg, iter, ifs, 0⟩] scope pos) 0 (.ref it) .none cenv) ((model X.prog X.w).den (.compStart (.GeneratorExp elt [⟨tg, iter, ifs, 0⟩] scope pos) 0 (.ref it) .none cenv)) [] s := by
  show Seg _ B _ _ _ s0 _ ((compStart (.GeneratorExp elt [⟨tg, iter, ifs, 0⟩] scope pos) 0 (.ref it) .none cenv).onRaise (leaving cenv)) [] s
  unfold compStart
  rw [Sem.onRaise_eq_wrap]
  show Seg _ B _ _ _ s0 _ ((ask >>= _).wrap _ _ _ _) [] s
  refine seg_bind_wrap (wpAny_askSetting ?_)
  split
  · exact seg_again rfl loop
  · first
      | exact seg_bind_wrap (wpAny_rule (seg_bind_wrap (wpAny_standAt (seg_bind_wrap (T.self _ 0 s _ _ st (seg_again rfl loop))))))
      | (refine seg_bind_wrap (wpAny_rule ?_); show Seg _ B _ _ _ s0 _ ((standAt iter.pos >>= _).wrap _ _ _ _) [] s; exact seg_bind_wrap (wpAny_standAt (seg_bind_wrap (T.self _ 0 s _ _ st (seg_again rfl loop)))))

/-- all(g) drains it -/
theorem all_drain {XG : Cx} {pn : List (Addr × Obj)} {σw : L2.St} {A : Around} {Q : VK} {a : Addr} {gn : Nat} {R : Result → Shared → Prop} (hh : A.handled = none) (hd : A.depth < recursionLimit) (hpin : ∃ o, (a, o) ∈ pn ∧ ∀ h : Heap, h.get? a = some o → h.IsGen a gn)
    (hend : ∀ v H' s1 s', Inv XG pn σw H' s1 → Slp s1 s' → Q v H' → (v = .bl true ∨ v = .bl false) → R (.ok (.ret (.bool (decide (v = .bl true))))) s') :
    ∀ (n : Nat) (s : Shared), s.heap.IsGen a gn → s.heap.NoLimit → (∃ gs, s.gens[gn]? = some gs ∧ gs.Goes (model XG.prog XG.w) A.in1.in1 (endG XG pn σw (Q (.bl true))) (yldB XG pn σw true Q) n (.send .none) (s.setGen gn .running)) →
      codeAny (model XG.prog XG.w) A (.builtin "all.loop" ⟨[.ref a], []⟩) R s := by
  obtain ⟨o, ho, hg0⟩ := hpin
  intro n
  induction n with
  | zero =>
    intro s hg hl ⟨gs, hgs, hgo⟩
    refine codeAny_builtin F.entry_all_loop ?_
    rw [Around.under_plainId F.plain_all_loop _]
    show wpAny _ A.in1 (pyNext (.ref a) >>= _) _ _ s
    refine wpAny_bind (wpAny_pyNext_genexpQ (A := A.in1) (P := fun _ _ s₁ => ∃ H', Inv XG pn σw H' s₁ ∧ Q (.bl true) H') hh hl hd hg hgs hgo (fun v s₁ gs' hb hv => ?_) (fun s₁ hp h' hk => ?_))
    · obtain ⟨c, H', rfl, I', q⟩ := hv
      refine wpAny_bind (wpAny_holding (wpAny_truthy_bool ?_))
      refine wpAny_bind (wpAny_letGo ?_)
      cases c with
      | true =>
        rw [if_pos rfl] at q
        exact False.elim (q s₁ ⟨rfl, I'.bare, fun _ _ e => e⟩)
      | false =>
        rw [if_neg (by decide)] at q
        simp only [Bool.false_eq_true, if_false]
        refine wpAny_bind (wpAny_rule (wpAny_pure ?_))
        exact hend (.bl false) H' s₁ _ I' ⟨rfl, allBare_setGen I'.bare hb, fun _ _ e => e⟩ q (.inr rfl)
    · obtain ⟨H', I', q⟩ := hp
      refine wpAny_bind (wpAny_rule (wpAny_pure ?_))
      exact hend (.bl true) H' s₁ _ I' ⟨rfl, allBare_setGen I'.bare rfl, hk⟩ q (.inl rfl)
  | succ n ih =>
    intro s hg hl ⟨gs, hgs, hgo⟩
    have hgl : gn < s.gens.size := (Array.getElem?_eq_some_iff.mp hgs).1
    refine codeAny_builtin F.entry_all_loop ?_
    rw [Around.under_plainId F.plain_all_loop _]
    show wpAny _ A.in1 (pyNext (.ref a) >>= _) _ _ s
    refine wpAny_bind (wpAny_gsz (n := gn + 1) hgl (wpAny_pyNext_genexpQ (A := A.in1) (P := fun _ _ s₁ => ∃ H', Inv XG pn σw H' s₁ ∧ Q (.bl true) H') hh hl hd hg hgs hgo (fun v s₁ gs' hb hv => ?_) (fun s₁ hp h' hk => ?_)))
    · intro hsz
      obtain ⟨c, H', rfl, I', q⟩ := hv
      refine wpAny_bind (wpAny_holding (wpAny_truthy_bool ?_))
      refine wpAny_bind (wpAny_letGo ?_)
      cases c with
      | true =>
        rw [if_pos rfl] at q
        simp only [if_true]
        have hsz1 : gn < s₁.gens.size := by
          have e1 : (s₁.setGen gn gs').gens.size = s₁.gens.size := setGen_size _ _ _
          have hsz' : gn + 1 ≤ (s₁.setGen gn gs').gens.size := hsz
          omega
        refine wpAny_pure ⟨plainId_quiet F.plain_all_loop _, ih (s₁.setGen gn gs') ?_ ?_ ⟨gs', setGen_at hsz1, ?_⟩⟩
        · exact hg0 _ (I'.pin (a, o) (List.mem_append_right _ ho)).1
        · exact I'.nolimit
        · exact q _ ⟨rfl, allBare_setGen (s := s₁.setGen gn gs') (allBare_setGen I'.bare hb) rfl, fun _ _ e => e⟩
      | false =>
        rw [if_neg (by decide)] at q
        simp only [Bool.false_eq_true, if_false]
        refine wpAny_bind (wpAny_rule (wpAny_pure ?_))
        exact hend (.bl false) H' s₁ _ I' ⟨rfl, allBare_setGen I'.bare hb, fun _ _ e => e⟩ q (.inr rfl)
    · intro _
      obtain ⟨H', I', q⟩ := hp
      refine wpAny_bind (wpAny_rule (wpAny_pure ?_))
      exact hend (.bl true) H' s₁ _ I' ⟨rfl, allBare_setGen I'.bare rfl, hk⟩ q (.inl rfl)
/-- all(elt for tg in iter if ..): behind it the def's table may have grown -/
def tAllG (P : Addr) (wi : TI) (g : TG) (tt : TT) (te : TE) (vs : List Nat) : TE := fun σ H Q => wi σ H fun J H1 => GxR.TabG H1 P ∧ ∀ H2, GxR.Tabbed P H1 H2 → ∃ W : Nat → Nat → Hp → Prop, (∃ m, W 0 m H2) ∧ Turns J g tt te (wipe σ vs) vs W (Q (.bl true)) (outB true Q)

theorem pe_allG {c P : Addr} {elt tg iter : Expr} {ifs : List Expr} {p pos gpos : Pos} {scope : Scope} {own : List (Str × Nat)} {wi : TI} {g : TG} {tt : TT} {te : TE} {k : Nat}
    (hr : Room (k + 1) X.A) (hc : X.calm = true) (hN : X.N.Nodup) (hg : Gl X "all") (hm : X.mg "all" = none) (TB : GxR.TabB X.base X.mg c P) (hcode : X.env.code = .ref c) (ok : BlkOk X.N X.env.scope scope own) (hco : scope.isCoroutine = false)
    (hcell : ∀ y ∈ scope.names, y.2 ≠ .cell) (hdot : scope.names.lookup (".0" : Str) = some NameKind.local) (hi : PI X tg iter wi)
    (hpg : ∀ (s : Shared) (H : Hp) (C : Addr) (code : Value) (fp : List Addr), PG (gcx X X.A.in1.in1 s H (genEnv scope (cloFrom X.env.cells scope.names []) C code builtinsNs X.env) fp) tg g)
    (hpt : ∀ (s : Shared) (H : Hp) (C : Addr) (code : Value) (fp : List Addr), Room k (gcx X X.A.in1.in1 s H (genEnv scope (cloFrom X.env.cells scope.names []) C code builtinsNs X.env) fp).A → PTs (gcx X X.A.in1.in1 s H (genEnv scope (cloFrom X.env.cells scope.names []) C code builtinsNs X.env) fp) ifs tt)
    (hpe : ∀ (s : Shared) (H : Hp) (C : Addr) (code : Value) (fp : List Addr), Room k (gcx X X.A.in1.in1 s H (genEnv scope (cloFrom X.env.cells scope.names []) C code builtinsNs X.env) fp).A → PE (gcx X X.A.in1.in1 s H (genEnv scope (cloFrom X.env.cells scope.names []) C code builtinsNs X.env) fp) elt te)
    (hs : ∀ v, genFold iter X.env v = pure v := by intro _; rfl) (hb : bootBuiltins "all" = some (.builtin "all") := by decide +kernel)
    (he : starEach [.GeneratorExp elt [⟨tg, iter, ifs, 0⟩] scope gpos] X.env = (false, eval (.GeneratorExp elt [⟨tg, iter, ifs, 0⟩] scope gpos) X.env) :: starEach [] X.env := by rfl) :
    PE X (.Call (.Name "all" p) [.GeneratorExp elt [⟨tg, iter, ifs, 0⟩] scope gpos] [] pos) (tAllG P wi g tt te (own.map (·.2))) := by
  refine ⟨fun pins s σ H Q I h => ?_⟩
  refine wpAny_Call_Name_kw (ld_blt I hg hm hb ?_)
  refine PyProof.Rows.callWith_builtin1 ?_ he (by rfl)
  rw [he]
  show wpAny _ _ (spliced ((false, eval (.GeneratorExp elt [⟨tg, iter, ifs, 0⟩] scope gpos) X.env) :: backTo pos (starEach [] X.env))) _ _ s
  have caught : ∀ q ∈ scope.names, q.2 = .free → ∃ d, X.env.cells.lookup q.1 = some d := fun q hq fr => (ok.free q hq fr).elim (fun u => I.ok.has _ (.inl u)) (fun u => I.ok.has _ (.inr u))
  refine Calls.spliced_cons (wpAny_GeneratorExp_make hco (closure_ok caught) hcell hdot ok.kind hr.depth ?_ hs)
  refine thn (hi.run pins s σ H _ I h) fun xv s1 h1 => thn h1 fun itv s2 h2 => ?_
  obtain ⟨it, fp, tn, J, H2, e, I2, T, st2, f2, ⟨ps, hP, ht⟩, q⟩ := h2
  subst e
  refine ⟨I2.nolimit, ?_⟩
  have hPs : s2.heap.get? P = some { cls := .none, data := .fields ps } := I2.hok P _ hP
  have cd : PySem.W.CodeHd s2.heap c P := TB.code.keeps I2.bk
  have fpP : ∀ b ∈ fp, b ≠ P := fun b hb z => by
    have := (f2 b hb).1
    rw [z, hP] at this
    cases this
  have fplt : ∀ b ∈ fp, b < s2.heap.objs.size := fun b hb => by
    obtain ⟨o, e, _⟩ := T.obj _ _ st2 b hb
    exact Heap.lt_size e
  have cont : ∀ (code : Value) (h3 : Heap) (tk : Nat) (ps' : Array Value), Heap.ExtBut P s2.heap h3 → s2.heap.objs.size ≤ h3.objs.size → h3.get? P = some { cls := .none, data := .fields ps' } → (∃ more, ps' = ps ++ more) → TriplesOk ps'.toList →
      wpAny (model X.prog X.w) X.A (builtinsFor X.env.globals X.env.builtins) (fun bi s₄ => /- the frame, then the call -/
        ∀ h', h'.Ns s₄.heap.objs.size (fun y => if y = ".0" then some (.ref it) else none) → Heap.SameBut s₄.heap.objs.size (s₄.heap.push { cls := .type "frame", data := .dict #[] }) h' →
          wpAny (model X.prog X.w) X.A (spliced (backTo pos (starEach [] X.env))) (fun us s₅ => wpAny (model X.prog X.w) X.A (call (.builtin "all") (.ref h'.objs.size :: us)) (EP X pins σ Q) X.xe s₅) X.xe { s₄ with
            gens := s₄.gens.push (.fresh (.compStart (.GeneratorExp elt [⟨tg, iter, ifs, 0⟩] scope gpos) 0 (.ref it) .none (genEnv scope (cloFrom X.env.cells scope.names []) s₄.heap.objs.size code bi X.env))),
            toks := s₄.toks + 1 + 1 + 1,
            heap := h'.push { cls := .type "generator", data := .fields #[.int s₄.gens.size 0, .str "<genexpr>" (s₄.toks + 1), .str (X.env.qual ++ "<genexpr>") (s₄.toks + 1 + 1)] } }) X.xe { s2 with heap := h3, toks := tk } := by
    intro code h3 tk ps' hx hsz hP3 hmore ht3
    obtain ⟨bm, ob, e1, e2, e3, e4, e5, e6, e7, e8⟩ := TB.bm
    obtain ⟨more, em⟩ := hmore
    refine wpAny_builtinsFor (m := X.mg) (by rw [I2.ok.glob]; exact (I2.mod.glob.keeps I2.bk).extBut hx TB.gP) e1 e2 (hx _ _ e4 (I2.bk _ _ e5)) e6 e7 e8 ?_
    intro h' hn' hs'
    have J3 := GxR.inv_tab (more := more) (h' := h3) (g' := s2.gens) (d' := s2.drawn) (t' := tk) I2 hP (fun b u hb e => hx b u hb e) (by rw [← em]; exact hP3) I2.bare
    have hT3 : GxR.Tabbed P H2 (upd H2 P (.tbl (ps ++ more))) := ⟨⟨ps ++ more, upd_same, by rw [← em]; exact ht3⟩, fun b hb => upd_ne hb⟩
    obtain ⟨W, ⟨m0, w0⟩, turn⟩ := q _ hT3
    generalize hH3 : upd H2 P (.tbl (ps ++ more)) = H3 at J3 w0 hT3
    generalize hs3 : ({ s2 with heap := h3, toks := tk } : Shared) = s3
    have hs3' : ({ s2 with heap := h3, gens := s2.gens, drawn := s2.drawn, toks := tk } : Shared) = s3 := hs3
    rw [hs3'] at J3
    have h3e : s3.heap = h3 := by rw [← hs3]
    have f3 : ∀ b ∈ fp, FpOk X pins H3 b ∧ b < s3.heap.objs.size := fun b hb => by
      refine ⟨⟨?_, (f2 b hb).2⟩, by rw [h3e]; exact Nat.lt_of_lt_of_le (fplt b hb) hsz⟩
      rw [hT3.2 b (fpP b hb)]
      exact (f2 b hb).1
    have st3 : tn 0 s3.heap := T.keep _ _ _ st2 fun b hb o e => by rw [h3e]; exact hx b o (fpP b hb) e
    refine Calls.spliced_nil ?_
    have hn' : h'.Ns s3.heap.objs.size (fun y => if y = ".0" then some (.ref it) else none) := by rw [h3e]; exact hn'
    have hs' : Heap.SameBut s3.heap.objs.size (s3.heap.push { cls := .type "frame", data := .dict #[] }) h' := by rw [h3e]; exact hs'
    have hge : s2.gens = s3.gens := by rw [← hs3]
    have hto : tk = s3.toks := by rw [← hs3]
    have sz' : h'.objs.size = s3.heap.objs.size + 1 := by rw [hs'.1, Heap.size_push]
    generalize hgo : ({ cls := .type "generator", data := .fields #[.int s3.gens.size 0, .str "<genexpr>" (s3.toks + 1), .str (X.env.qual ++ "<genexpr>") (s3.toks + 1 + 1)] } : Obj) = gobj
    have hgobj : ∀ h : Heap, h.get? h'.objs.size = some gobj → h.IsGen h'.objs.size s3.gens.size := fun h e => by
      rw [← hgo] at e
      exact ⟨_, _, _, e, rfl, rfl, rfl⟩
    have B3 : AllBare (s3.gens.push (.fresh (.compStart (.GeneratorExp elt [⟨tg, iter, ifs, 0⟩] scope gpos) 0 (.ref it) .none (genEnv scope (cloFrom X.env.cells scope.names []) s3.heap.objs.size code builtinsNs X.env)))) := J3.bare.push rfl
    have I4 := gx_start (code := code) (B := X.A.in1.in1) (tk := s3.toks + 1 + 1 + 1) J3 ok hN hcell f3 I.ok.frames hr.hd hn' hs' (gobj := gobj) (fun v z => by rw [← hgo] at z; cases z) (by rw [← hgo]; rfl) B3
    generalize hcenv : genEnv scope (cloFrom X.env.cells scope.names []) s3.heap.objs.size code builtinsNs X.env = cenv at I4 B3
    have pg := hpg s3 H3 s3.heap.objs.size code fp
    have pt := hpt s3 H3 s3.heap.objs.size code fp (room_gx hr _)
    have pe := hpe s3 H3 s3.heap.objs.size code fp (room_gx hr _)
    rw [hcenv] at pg pt pe
    generalize hs4 : ({ heap := h'.push gobj, gens := s3.gens.push (.fresh (.compStart (.GeneratorExp elt [⟨tg, iter, ifs, 0⟩] scope gpos) 0 (.ref it) .none cenv)), drawn := s3.drawn, toks := s3.toks + 1 + 1 + 1, os := s3.os } : Shared) = s4 at I4 ⊢
    have gm : s4.gens[s3.gens.size]? = some (.fresh (.compStart (.GeneratorExp elt [⟨tg, iter, ifs, 0⟩] scope gpos) 0 (.ref it) .none cenv)) := by rw [← hs4]; exact Array.getElem?_push_size ..
    have hIG : s4.heap.IsGen h'.objs.size s3.gens.size := hgobj _ (I4.pin (h'.objs.size, gobj) (by simp)).1
    have kp4 : ∀ b o, s3.heap.get? b = some o → s4.heap.get? b = some o := fun b o e => by
      rw [← hs4]
      exact Heap.get?_push_of_some _ (hs'.extBut b o (Nat.ne_of_lt (Heap.lt_size e)) (Heap.get?_push_of_some _ e))
    have hcos : cenv.scope.isCoroutine = false := by rw [← hcenv]; exact hco
    have hpn : ∀ p ∈ [(h'.objs.size, gobj)], ∀ q ∈ fp, p.1 ≠ q := fun p hp q hq => by
      rw [List.mem_singleton] at hp
      subst hp
      have := (f3 q hq).2
      show h'.objs.size ≠ q
      intro z
      rw [sz'] at z
      rw [← z] at this
      exact absurd (Nat.lt_of_succ_lt this) (Nat.lt_irrefl _)
    have args := F.args_all1 (.ref h'.objs.size)
    refine call_function_tree F.kind_all F.plain_all F.entry_all args ?_
    unfold Builtin.«all»
    refine wpAny_bind (m := oneArg "all" _) (wpAny_pure ?_)
    refine wpAny_bind (wpAny_pyIter_gen hIG ?_)
    have J4 : Inv (gcx X X.A.in1.in1 s3 H3 cenv fp) [(h'.objs.size, gobj)] (wipe σ (own.map (·.2))) H3 (s4.setGen s3.gens.size .running) := inv_slept I4 ⟨rfl, allBare_setGen I4.bare rfl, fun _ _ e => e⟩
    refine wpAny_pure ⟨plainId_quiet F.plain_all_loop _, all_drain (XG := gcx X X.A.in1.in1 s3 H3 cenv fp) (pn := [(h'.objs.size, gobj)]) (σw := wipe σ (own.map (·.2))) (A := X.A) (Q := Q) hr.hd hr.depth ⟨gobj, by simp, fun h e => hgobj h e⟩
      (fun v H' s1 s' I' z qv hv => ?_) (m0 + 1) s4 hIG I4.nolimit ⟨_, gm, rfl, seg_start (X := X) (XG := X) T (T.keep _ _ _ st3 fun b _ o e => kp4 b o e) (seg_gx hc hcos hpn T pg pt pe turn m0 (m0 + 1) 0 H3 _ _ (Nat.lt_succ_self _) J4 (T.keep _ _ _ st3 fun b _ o e => kp4 b o e) (fun q hq => (f3 q hq).1.1) w0)⟩⟩
    have J' := inv_slept I' z
    have I7 : Inv X pins σ H' s' := J3.call' (ch := fp) J'.os J'.base J'.hok J'.bare fun b hb => ⟨(f3 b hb).1.2.2.2.1, (f3 b hb).1.2.1, (f3 b hb).1.2.2.2.2.1, (f3 b hb).1.2.2.2.2.2⟩
    rcases hv with rfl | rfl
    · exact ⟨.bl true, H', I7, rfl, qv⟩
    · exact ⟨.bl false, H', I7, rfl, qv⟩
  cases hf : codeAmong gpos ps.toList with
  | none =>
    refine wpAny_genexprCodeX hcode (cd.code hPs ht) (cd.tab hPs) hf fun c' h' tk hx hge hlt hco' _ htab' _ => ?_
    obtain ⟨o1, vs, f1, tf, fl, tg', inF, tx, tt', op, _, _, _, _, _, _, _, _, _, htr, _⟩ := hco'
    have bigger := Nat.le_trans hge (Nat.le_of_lt hlt)
    exact cont _ h' tk _ hx bigger htab'.2 ⟨_, rfl⟩ htr
  | some cv =>
    refine wpAny_genexprCode_hit hcode (cd.code hPs ht) hf ?_
    exact cont cv s2.heap s2.toks ps (Heap.ExtBut.refl _ _) (Nat.le_refl _) hPs ⟨#[], by simp⟩ ht
end
end GX

namespace GX
open PySem PySem.Spec PyProof.Rows L2
section
variable {X : Cx}
/-- repr(truth) -/
theorem call_repr_bl : CallR X (.builtin "repr") (fun xs H Q => ∃ b, xs = [.bl b] ∧ Q (.str (if b then "True" else "False")) H) := by
  intro pins s σ H xs us Q I r h
  obtain ⟨b, rfl, q⟩ := h
  obtain ⟨u, rfl, r1⟩ := vals1 r
  cases r1
  exact PySem.P.repr_of_bool ⟨.str _, H, I.tok _, ⟨_, rfl⟩, q⟩
end
section
variable {prog : Program} {w : World} {A : Around} {E : Value → Shared → Prop} {s : Shared}
theorem rev_pick (xs : Array Value) : ((List.range xs.size).filterMap fun (k : Nat) => xs[((((xs.size : Int) - 1) + (k : Int) * (-1)).toNat)]?).toArray = xs.toList.reverse.toArray := by
  have e : (List.range xs.size).filterMap (fun (k : Nat) => xs[((((xs.size : Int) - 1) + (k : Int) * (-1)).toNat)]?) = ((List.range xs.size).map fun k => xs.size - 1 - k).filterMap (xs[·]?) := by
    rw [List.filterMap_map]
    have cg : ∀ (l : List Nat), (∀ k ∈ l, k < xs.size) → l.filterMap (fun (k : Nat) => xs[((((xs.size : Int) - 1) + (k : Int) * (-1)).toNat)]?) = l.filterMap ((xs[·]?) ∘ fun k => xs.size - 1 - k) := by
      intro l
      induction l with
      | nil => intro _; rfl
      | cons k r ih =>
        intro hl
        have h0 := hl k (List.mem_cons_self ..)
        have ih' := ih fun j hj => hl j (List.mem_cons_of_mem _ hj)
        have e0 : xs[((((xs.size : Int) - 1) + (k : Int) * (-1)).toNat)]? = ((xs[·]?) ∘ fun k => xs.size - 1 - k) k := by
          show xs[((((xs.size : Int) - 1) + (k : Int) * (-1)).toNat)]? = xs[xs.size - 1 - k]?
          rw [show (((xs.size : Int) - 1) + (k : Int) * (-1)).toNat = xs.size - 1 - k by omega]
        rw [List.filterMap_cons, List.filterMap_cons, e0, ih']
    exact cg _ fun k hk => List.mem_range.mp hk
  rw [e, PySem.W.krv_range, List.filterMap_reverse, PySem.W.krv_all]
theorem sliceApplied_rev {sl : Addr} {n : Nat} {t : Tok} {Q : Int × Int × Nat → Shared → Prop} (hs : s.heap.IsSliceOf sl .none .none (.int (-1) t))
    (h : Q (((n : Int) - 1), -1, n) s) : wpAny (model prog w) A (Builtin.Slice.sliceApplied (.ref sl) (pure (n : Int))) Q E s := by
  obtain ⟨os, hos, hcs, hds⟩ := id hs
  unfold Builtin.Slice.sliceApplied Builtin.Slice.sliceFields
  refine wpAny_bind (wpAny_bind (wpAny_field hos hds (x := .none) rfl (wpAny_bind (wpAny_field hos hds (x := .none) rfl (wpAny_bind (wpAny_field hos hds (x := .int (-1) t) rfl (wpAny_pure ?_)))))))
  refine wpAny_bind (slicePart_int ?_)
  show wpAny _ _ (if ((-1 : Int) == 0) = true then _ else _) _ _ s
  rw [if_neg (by decide)]
  refine wpAny_bind (slicePart_none (wpAny_bind (slicePart_none (wpAny_bind (wpAny_pure ?_)))))
  show wpAny _ _ (match Builtin.Slice.sliceAdjust none none (-1) (n : Int) with | (lo, hi) => pure (lo, (-1 : Int), Builtin.Slice.slicePlaces lo hi (-1))) _ _ s
  have e1 : Builtin.Slice.sliceAdjust none none (-1) (n : Int) = ((n : Int) - 1, -1) := by
    unfold Builtin.Slice.sliceAdjust
    simp
  have e2 : Builtin.Slice.slicePlaces ((n : Int) - 1) (-1) (-1) = n := by
    unfold Builtin.Slice.slicePlaces
    simp only [show ¬ ((-1 : Int) > 0) by decide, if_false]
    split <;> simp <;> omega
  rw [e1]
  show wpAny _ _ (pure ((n : Int) - 1, (-1 : Int), Builtin.Slice.slicePlaces ((n : Int) - 1) (-1) (-1))) _ _ s
  rw [e2]
  exact wpAny_pure h
theorem getItem_tuple_rev {t sl : Addr} {items : Array Value} {u : Tok} {Q : Value → Shared → Prop} (tup : IsTup s.heap t items) (cut : s.heap.IsSliceOf sl .none .none (.int (-1) u)) (few : items.size ≤ sizeLine)
    (h : Q (.ref s.heap.objs.size) { s with heap := s.heap.push { cls := .type "tuple", data := .seq items.toList.reverse.toArray } }) : wpAny (model prog w) A (getItem (.ref t) (.ref sl)) Q E s := by
  have fits : sizeOk (.seq items.toList.reverse.toArray) := by
    show items.toList.reverse.toArray.size ≤ sizeLine
    simpa using few
  have kind : s.TypeIs (.ref sl) "slice" := cut.imp fun _ both => ⟨both.1, both.2.1⟩
  unfold getItem
  repeat' first | with_reducible refine wpAny_holding ?_ | with_reducible refine wpAny_bind (wpAny_pure ?_)
  refine wpAny_bind (wpAny_sequenceKey tup.typeIs (by decide) (wpAny_bind (wpAny_callSpecial?_slot (name := Str.ofString "__getitem__") tup.typeIs PyProof.Rows.slot_tuple_getitem (wpAny_call_entry PyProof.Rows.slot_tuple_getitem tup.typeIs entry_tuple_getitem ?_ (args_tuple_getitem _ _)))))
  refine wpAny_bind (m := Builtin.Tuple.tupleItemsOf (.ref t)) (tupleItemsOf_ tup (wpAny_bind (wpAny_typeOf kind ?_)))
  rw [if_pos (by decide)]
  refine wpAny_bind (sliceApplied_rev cut ?_)
  show wpAny _ _ (if (((items.size : Int) - 1) == 0 && (-1 : Int) == 1 && items.size == items.size) = true then _ else _) _ _ s
  rw [if_neg (by rw [Bool.and_eq_true, Bool.and_eq_true]; intro z; exact absurd z.1.2 (by decide)), rev_pick]
  have last := fun v => wpAny_pure (M := model prog w) (A := A) (E := E) (Q := Q) (a := v) (s := { s with heap := s.heap.push { cls := .type "tuple", data := .seq items.toList.reverse.toArray } })
  first
    | exact wpAny_bind (m := Builtin.Tuple.tupleExact _) (wpAny_newObj_type (wpAny_pure ⟨_, rfl, last _ h⟩) fits)
    | exact wpAny_bind (m := Builtin.Tuple.tupleExact _) (wpAny_newObj_type (wpAny_bind (wpAny_pure (wpAny_pure ⟨_, rfl, last _ h⟩))) fits)
    | exact wpAny_bind (wpAny_bind (m := Builtin.Tuple.tupleExact _) (wpAny_newObj_type (wpAny_pure (wpAny_pure ⟨_, rfl, last _ h⟩)) fits))
    | exact wpAny_bind (wpAny_bind (m := Builtin.Tuple.tupleExact _) (wpAny_newObj_type (wpAny_pure ⟨_, rfl, last _ h⟩) fits))
end
section
variable {X : Cx}
theorem valsRev : ∀ {xs : List V} {us : List Value}, Vals xs us → Vals xs.reverse us.reverse
  | _, _, .nil => .nil
  | _, _, .cons r t => by
    simp only [List.reverse_cons]
    exact (valsRev t).append (.cons r .nil)
/-- t[::-1] of a tuple -/
def tRevT (K : PySem.W.Frag) (te : TE) : TE := fun σ H Q => te σ H fun x H1 => ∃ a xs, x = .ref a ∧ SqT K H1 a xs ∧ ∀ p, H1 p = none → Q (.ref p) (upd H1 p (.tup xs.reverse))
theorem pe_revT {e : Expr} {te : TE} {k : Nat} {p1 p2 p3 pos : Pos} (he : PE X e te) : PE X (.Subscript e (.Slice none none (some (.UnaryOp .USub (.Constant (.int 1) k p1) p2)) p3) pos) (tRevT X.K te) := by
  constructor
  intro pins s0 σ G Q J want
  have minus : PO X (some (.UnaryOp .USub (.Constant (.int 1) k p1) p2)) (tPart (tUn (rU fun i => .int (-i)) (tC (.int 1)))) := po_some (pe_un un_neg pe_int)
  have blank := fun (z : Shared) (F : Hp) (JF : Inv X pins σ F z) => po_none.run pins z σ F (fun part F' => part = none ∧ F' = F) JF ⟨rfl, rfl⟩
  refine Subscript_ (thn (he.run pins s0 σ G _ J want) fun obj z1 ⟨ov, F1, J1, rel, a, xs, isA, tup, done⟩ => ?_)
  subst isA
  obtain rfl : obj = Value.ref a := rel
  refine wpAny_Slice (thn (blank z1 F1 J1) fun lo z2 ⟨_, F2, J2, isLo, eLo, eF2⟩ => thn (blank z2 F2 J2) fun hi z3 ⟨_, F3, J3, isHi, eHi, eF3⟩ => ?_)
  subst eLo eF2 eHi eF3
  refine thn (minus.run pins z3 σ F3 (fun part F' => part = some (-1) ∧ F' = F3) J3 ⟨1, rfl, -1, rfl, rfl, rfl⟩) fun st z4 ⟨_, F4, J4, isSt, eSt, eF4⟩ => ?_
  subst eSt eF4
  cases isLo
  cases isHi
  obtain ⟨tk, rfl⟩ : ∃ tk, st = .int (-1) tk := by
    cases isSt
    exact ⟨_, rfl⟩
  have J5 : Inv X pins σ F4 { z4 with heap := z4.heap.push { cls := .type "slice", data := .fields #[.none, .none, .int (-1) tk] } } := J4.kept (t' := z4.toks) fun _ _ at_b => Heap.get?_push_of_some _ at_b
  obtain ⟨its, vals, isTup, few⟩ := J5.tuple tup
  show wpAny (model X.prog X.w) X.A (subscriptTail e (.Slice none none (some (.UnaryOp .USub (.Constant (.int 1) k p1) p2)) p3) (.ref a) (.ref z4.heap.objs.size)) (EP X pins σ Q) X.xe { z4 with heap := z4.heap.push { cls := .type "slice", data := .fields #[.none, .none, .int (-1) tk] } }
  refine tail_any (ops := [.ref a, .ref z4.heap.objs.size]) isTup.typeIs (PyProof.Rows.slot_tuple_getitem.lookup) (getItem_tuple_rev isTup (Heap.IsSliceOf.new _ _ _ _) ?few ?_) (by with_unfolding_all rfl)
  case few =>
    have n := vals.length
    rw [List.size_toArray, ← n]
    exact few
  refine ⟨.ref _, _, J5.laid (t' := z4.toks) (o := .tup xs.reverse) (fun _ _ at_b => Heap.get?_push_of_some _ at_b) (Nat.le_refl _) ⟨by rw [List.length_reverse]; exact few, its.reverse, valsRev vals, _, Heap.get?_push_size _ rfl, rfl, _, rfl⟩, rfl, done _ (J5.hok.fresh (Nat.le_refl _))⟩
end
/-! ### xs == [] -/
section
variable {X : Cx}
def rEqNil (K : PySem.W.Frag) : R2 := fun x y H Q => ∃ a b xs, x = .ref a ∧ y = .ref b ∧ SqL K H a xs ∧ SqL K H b [] ∧ Q (.bl xs.isEmpty) H
theorem op_eqNil (hu : X.A.units < cLine) : OpR X (compareOp .Eq) (rEqNil X.K) := by
  intro pins s σ H x y v u Q I rx ry h
  obtain ⟨a, b, xs, rfl, rfl, ha, hb, q⟩ := h
  cases rx
  cases ry
  obtain ⟨its, r1, p1, _⟩ := I.list ha
  obtain ⟨its2, r2, p2, _⟩ := I.list hb
  cases r2
  cases r1 with
  | nil => exact SeqAt.eq_listAt (e := fun _ => true) p1.isList p2.isList rfl hu (fun j h1 h2 => absurd h1 (by simp)) ⟨.bl true, H, I, rfl, q⟩
  | cons r t => exact SeqAt.eq_list_lengthsAt p1.isList p2.isList (by simp) hu ⟨.bl false, H, I, rfl, q⟩
end
/-! ### a def, its code object known -/
section
variable {P : Program} {w : World} {K : PySem.W.Frag} {mg : Str → Option Value} {base : Heap} {x qual : Str} {params : Arguments} {body : List Stmt} {scope : Scope} {dvs : List V} {kws : List (Str × V)} {f : Addr} {fd : FuncData}
theorem okC {CX : CXT} {N ps : List Str} {k : Nat} {sp : Sp} {c : Addr} (F : FunD K x qual params body scope dvs kws f fd) (hc : fd.code = .ref c) (S : FnScope N ps scope) (len : ∀ vs H Q E, sp vs H Q E → vs.length = ps.length)
    (hbody : ∀ (A : Around) (outer : List Env) (s : Shared) (H : Hp) (vs : List V) (Q : VK) (E : XK), Room k (A.deeper (envOfC qual scope s.heap.objs.size f (.ref c))) → sp vs H Q E →
      ∃ t, PSs (cxOf CX P w K mg base N qual scope f (.ref c) A outer s H E) body t ∧ t { nx := fun _ H' => Q .non H', rt := Q } (start N vs) H) : FnOk P w K mg base CX (k + 1) f fd ps sp := by
  obtain ⟨oc, od, dV, kV, doc, pm, an, cdv, ct, osl, rfl, lk, hcd, _, _⟩ := F.ex
  have e : cdv = .ref c := hc
  subst e
  exact fn_of lk hcd S len fun A outer s H vs Q E hr hsp => hbody A outer s H vs Q E hr hsp
theorem code_of {p : Str × Option Str} (F : FunD K x qual params body scope dvs kws (He.fAd K p) fd) : fd.code = .ref (He.cT K p).1 := by
  obtain ⟨oc, od, dV, kV, doc, pm, an, cdv, ct, osl, rfl, lk, hcd, _, _⟩ := F.ex
  obtain ⟨c, e⟩ := He.codeIn_ref hcd
  subst e
  show Value.ref c = _
  rw [show (He.cT K p).1 = c from He.codeOf_eq lk rfl]
end
end GX

namespace K01
open PySem PySem.Spec PyProof.Rows L2 GX
/-! ### things whose kind is known -/
inductive Kn (K : PySem.W.Frag) (H : Hp) : V → Prop
  | non : Kn K H .non
  | bl (b : Bool) : Kn K H (.bl b)
  | int (i : Int) : Kn K H (.int i)
  | str (x : Str) : Kn K H (.str x)
  | lst {a : Addr} {xs : List V} (h : SqL K H a xs) : Kn K H (.ref a)
  | tup {a : Addr} {xs : List V} (h : SqT K H a xs) : Kn K H (.ref a)
/-- no tuple -/
inductive Nt (K : PySem.W.Frag) (H : Hp) : V → Prop
  | non : Nt K H .non
  | bl (b : Bool) : Nt K H (.bl b)
  | int (i : Int) : Nt K H (.int i)
  | str (x : Str) : Nt K H (.str x)
  | lst {a : Addr} {xs : List V} (h : SqL K H a xs) : Nt K H (.ref a)
theorem ty_lst {K : PySem.W.Frag} {H : Hp} {a : Addr} {xs : List V} (h : SqL K H a xs) : TyX K H (.ref a) (.type "list") := by
  rcases h with (h | ⟨o, h⟩) | ⟨o, its, n, h, c, _⟩
  · exact .base (.lst h)
  · exact .base (.frz h)
  · exact .kList h c
theorem ty_tup {K : PySem.W.Frag} {H : Hp} {a : Addr} {xs : List V} (h : SqT K H a xs) : TyX K H (.ref a) (.type "tuple") := by
  rcases h with (h | ⟨o, h⟩) | ⟨o, its, n, h, c, _⟩
  · exact .base (.tup h)
  · exact .fTuple h
  · exact .kTuple h c
/-- what isinstance says of it -/
def isiI : V → Bool
  | .int _ => true
  | .bl _ => true
  | _ => false
def isiB : V → Bool
  | .bl _ => true
  | _ => false
def whV : V → Bool
  | .int _ => true
  | _ => false
def btw (x : V) (lo hi : Int) : Bool := match x with
  | .int i => decide (lo ≤ i) && decide (i ≤ hi)
  | _ => false
theorem kn_int {K : PySem.W.Frag} {H : Hp} {x : V} (h : Kn K H x) : ∃ t, TyX K H x t ∧ PySem.W.kitOne K t (.type "int") = some (isiI x) := by
  cases h with
  | non => exact ⟨_, .base .non, kit_ty (by decide +kernel)⟩
  | bl b => exact ⟨_, .base (.bl b), kit_ty (by show kitB "bool" "int" = some true; decide +kernel)⟩
  | int i => exact ⟨_, .base (.int i), kit_ty (by show kitB "int" "int" = some true; decide +kernel)⟩
  | str s => exact ⟨_, .base (.str s), kit_ty (by show kitB "str" "int" = some false; decide +kernel)⟩
  | lst h => exact ⟨_, ty_lst h, kit_ty (by show kitB "list" "int" = some false; decide +kernel)⟩
  | tup h => exact ⟨_, ty_tup h, kit_ty (by show kitB "tuple" "int" = some false; decide +kernel)⟩
theorem kn_bool {K : PySem.W.Frag} {H : Hp} {x : V} (h : Kn K H x) : ∃ t, TyX K H x t ∧ PySem.W.kitOne K t (.type "bool") = some (isiB x) := by
  cases h with
  | non => exact ⟨_, .base .non, kit_ty (by show kitB "NoneType" "bool" = some false; decide +kernel)⟩
  | bl b => exact ⟨_, .base (.bl b), kit_ty (by show kitB "bool" "bool" = some true; decide +kernel)⟩
  | int i => exact ⟨_, .base (.int i), kit_ty (by show kitB "int" "bool" = some false; decide +kernel)⟩
  | str s => exact ⟨_, .base (.str s), kit_ty (by show kitB "str" "bool" = some false; decide +kernel)⟩
  | lst h => exact ⟨_, ty_lst h, kit_ty (by show kitB "list" "bool" = some false; decide +kernel)⟩
  | tup h => exact ⟨_, ty_tup h, kit_ty (by show kitB "tuple" "bool" = some false; decide +kernel)⟩
theorem nt_tuple {K : PySem.W.Frag} {H : Hp} {x : V} (h : Nt K H x) : ∃ t, TyX K H x t ∧ PySem.W.kitOne K t (.type "tuple") = some false := by
  cases h with
  | non => exact ⟨_, .base .non, kit_ty (by show kitB "NoneType" "tuple" = some false; decide +kernel)⟩
  | bl b => exact ⟨_, .base (.bl b), kit_ty (by show kitB "bool" "tuple" = some false; decide +kernel)⟩
  | int i => exact ⟨_, .base (.int i), kit_ty (by show kitB "int" "tuple" = some false; decide +kernel)⟩
  | str s => exact ⟨_, .base (.str s), kit_ty (by show kitB "str" "tuple" = some false; decide +kernel)⟩
  | lst h => exact ⟨_, ty_lst h, kit_ty (by show kitB "list" "tuple" = some false; decide +kernel)⟩
theorem tup_tuple {K : PySem.W.Frag} : PySem.W.kitOne K (.type "tuple") (.type "tuple") = some true := kit_ty (by decide +kernel)
/-! ### heaps: all that was tracked stands, the table at P may have grown -/
structure Ex (P : Addr) (H H' : Hp) : Prop where
  tab : GxR.TabG H' P
  keep : ∀ b o, H b = some o → b ≠ P → H' b = some o
section
variable {K : PySem.W.Frag} {P : Addr} {H H' H2 : Hp} {a p : Addr} {xs : List V} {x : V} {o : HO}
theorem tab_ne {u : HO} (t : GxR.TabG H P) (h : H a = some u) (hu : ∀ ps, u ≠ .tbl ps) : a ≠ P := fun e => by
  obtain ⟨ps, q, _⟩ := t
  rw [e, q] at h
  exact hu ps (Option.some.inj h).symm
theorem Ex.refl (t : GxR.TabG H P) : Ex P H H := ⟨t, fun _ _ h _ => h⟩
theorem Ex.trans (a : Ex P H H') (b : Ex P H' H2) : Ex P H H2 := ⟨b.tab, fun c o h n => b.keep c o (a.keep c o h n) n⟩
theorem Ex.new (t : GxR.TabG H P) (h : H p = none) : Ex P H (upd H p o) := by
  obtain ⟨ps, q, r⟩ := t
  have np : P ≠ p := ne_of_none q h
  exact ⟨⟨ps, by rw [upd_ne np]; exact q, r⟩, fun b u e _ => by rw [upd_ne (ne_of_none e h)]; exact e⟩
theorem Ex.tabbed (h : GxR.Tabbed P H H') : Ex P H H' := ⟨h.1, fun b o e n => by rw [h.2 b n]; exact e⟩
theorem Ex.sqt (e : Ex P H H') (t : GxR.TabG H P) (h : SqT K H a xs) : SqT K H' a xs := by
  rcases h with (h | ⟨o, h⟩) | h
  · exact .inl (.inl (e.keep _ _ h (tab_ne t h fun _ z => by cases z)))
  · exact .inl (.inr ⟨o, e.keep _ _ h (tab_ne t h fun _ z => by cases z)⟩)
  · exact .inr h
theorem Ex.sql (e : Ex P H H') (t : GxR.TabG H P) (h : SqL K H a xs) : SqL K H' a xs := by
  rcases h with (h | ⟨o, h⟩) | h
  · exact .inl (.inl (e.keep _ _ h (tab_ne t h fun _ z => by cases z)))
  · exact .inl (.inr ⟨o, e.keep _ _ h (tab_ne t h fun _ z => by cases z)⟩)
  · exact .inr h
theorem Ex.kn (e : Ex P H H') (t : GxR.TabG H P) (h : Kn K H x) : Kn K H' x := by
  cases h with
  | non => exact .non
  | bl b => exact .bl b
  | int i => exact .int i
  | str s => exact .str s
  | lst h => exact .lst (e.sql t h)
  | tup h => exact .tup (e.sqt t h)
end
/-! ### all(..) over a tuple -/
theorem allTup {K : PySem.W.Frag} {a : Addr} {xs : List V} {te : TE} {σw : L2.St} {vs : List Nat} {j : Nat} {Q : VK} {H2 : Hp} (f : V → Bool) (Pv : Hp → Prop) (h2 : Pv H2) (hl : ∀ H, Pv H → SqT K H a xs) (hw : ∀ x, wipe (σw.set j (some x)) vs = σw)
    (he : ∀ x ∈ xs, ∀ H, Pv H → ∀ R : VK, (∀ H', Pv H' → R (.bl (f x)) H') → te (σw.set j (some x)) H R) (hQ : ∀ H, Pv H → Q (.bl (xs.all f)) H) :
    ∃ W : Nat → Nat → Hp → Prop, (∃ m, W 0 m H2) ∧ Turns (Itt K a) (gName j) tYes te σw vs W (Q (.bl true)) (outB true Q) := by
  refine ⟨fun i m H => m = xs.length - i ∧ i ≤ xs.length ∧ Pv H ∧ (xs.take i).all f = true, ⟨xs.length, by simp, Nat.zero_le _, h2, by simp⟩, ?_⟩
  rintro i m H ⟨rfl, hi, p, ha⟩
  have q := hl H p
  by_cases hlt : i < xs.length
  · refine .inr ⟨⟨xs, xs[i], q, by simp [hlt]⟩, fun H => Pv H ∧ (xs.take (i + 1)).all f = true, fun H' p' => ⟨xs.length - (i + 1), by omega, rfl, hlt, p'⟩, fun x H' y => ?_⟩
    obtain ⟨e, y⟩ := y
    subst e
    have hx : xs[i]? = some x := y xs q
    have hm : x ∈ xs := List.mem_of_getElem? hx
    refine ⟨hw x, ?_⟩
    show if true = true then te (σw.set j (some x)) H' (fun y H4 => outB true Q (fun H => Pv H ∧ (xs.take (i + 1)).all f = true) y H4) else (Pv H' ∧ (xs.take (i + 1)).all f = true)
    rw [if_pos rfl]
    refine he x hm H' p _ fun H4 p4 => ⟨f x, rfl, ?_⟩
    cases hf : f x with
    | true =>
      rw [if_pos rfl]
      refine ⟨p4, ?_⟩
      rw [List.take_add_one, hx, List.all_append, ha]
      simp [hf]
    | false =>
      rw [if_neg (by decide)]
      have e2 : xs.all f = false := by
        rw [Bool.eq_false_iff]
        intro z
        have := List.all_eq_true.mp z x hm
        rw [hf] at this
        cases this
      have := hQ H4 p4
      rw [e2] at this
      exact this
  · have e : i = xs.length := by omega
    subst e
    refine .inl ⟨⟨xs, q, Nat.le_refl _⟩, ?_⟩
    rw [List.take_length] at ha
    have := hQ H p
    rw [ha] at this
    exact this
/-! ### the text -/
def topS (i : Nat) : Stmt := PySem.Challenge.pw_gonemarks_k01_what_is_a_seat.main.body.getD i (.Pass ⟨0, 0, 0, 0⟩)
abbrev sWhole : Stmt := topS 1
abbrev sBtw : Stmt := topS 2
abbrev sSeat : Stmt := topS 4
abbrev sFeed : Stmt := topS 6
abbrev sTake : Stmt := topS 7
abbrev sOdd : Stmt := topS 8
abbrev sBent : Stmt := topS 9
abbrev sLWhole : Stmt := topS 10
abbrev sLSeat : Stmt := topS 11
abbrev sLaw : Stmt := topS 12
abbrev FnP (K : PySem.W.Frag) (x : Str) (st : Stmt) (f : Addr) (fd : FuncData) : Prop := FunD K x x (defArgs st) (defBody st) (defScope st) [] [] f fd
theorem scWhole : FnScope ["thing"] ["thing"] (defScope sWhole) := ⟨rfl, rfl, rfl, by decide +kernel, rfl, by decide +kernel, by decide +kernel⟩
theorem scBtw : FnScope ["thing", "least", "most"] ["thing", "least", "most"] (defScope sBtw) := ⟨rfl, rfl, rfl, by decide +kernel, rfl, by decide +kernel, by decide +kernel⟩
theorem scSeat : FnScope ["thing", "number"] ["thing"] (defScope sSeat) := ⟨rfl, rfl, rfl, by decide +kernel, rfl, by decide +kernel, by decide +kernel⟩
section
variable {P : Program} {w : World} {K : PySem.W.Frag} {mg : Str → Option Value} {base : Heap} {f fW fB : Addr} {fd fdW fdB : FuncData}
/-- the built-ins that are asked -/
structure Bi (mg : Str → Option Value) : Prop where
  isi : mg "isinstance" = none
  int : mg "int" = none
  bool : mg "bool" = none
  tuple : mg "tuple" = none
  len : mg "len" = none
  all : mg "all" = none
  repr : mg "repr" = none
  range : mg "range" = none
  str : mg "str" = none
  list : mg "list" = none
def spWhole (K : PySem.W.Frag) : Sp := fun vs H Q _ => ∃ x, vs = [x] ∧ Kn K H x ∧ Q (.bl (whV x)) H
theorem ok_whole (F : FnP K "is_whole" sWhole f fd) (B : Bi mg) : FnOk P w K mg base CX0 1 f fd ["thing"] (spWhole K) := by
  refine F.ok scWhole (fun vs H Q E h => ?_) (fun cdv A outer s H vs Q E hr h => ⟨_, PSs.nox (pss_one (ps_ret (pe_and (pe_callB call_isi (by rfl) B.isi (by decide +kernel) (pa_cons (pv 0) (pa_cons (pe_bltn (by rfl) B.int (by decide +kernel) (v := .ty "int") rfl) pa_nil)))
    (pe_one (pe_not (pe_callB call_isi (by rfl) B.isi (by decide +kernel) (pa_cons (pv 0) (pa_cons (pe_bltn (by rfl) B.bool (by decide +kernel) (v := .ty "bool") rfl) pa_nil)))))))), ?_⟩)
  · obtain ⟨x, rfl, _⟩ := h
    rfl
  · obtain ⟨x, rfl, hx, q⟩ := h
    obtain ⟨t1, ty1, k1⟩ := kn_int hx
    obtain ⟨t2, ty2, k2⟩ := kn_bool hx
    refine ⟨x, rfl, x, _, t1, _, _, rfl, .ty "int", ty1, k1, _, rfl, ?_⟩
    refine ite2 (fun c => ?_) (fun c => ?_)
    · refine ⟨x, rfl, x, _, t2, _, _, rfl, .ty "bool", ty2, k2, _, rfl, ?_⟩
      cases hx <;> first | exact q | (exact absurd c Bool.false_ne_true)
    · cases hx <;> first | exact q | (exact absurd rfl c)
def spBtw (K : PySem.W.Frag) : Sp := fun vs H Q _ => ∃ x lo hi, vs = [x, .int lo, .int hi] ∧ Kn K H x ∧ Q (.bl (btw x lo hi)) H
theorem ok_btw (F : FnP K "is_between" sBtw f fd) (FW : FnP K "is_whole" sWhole fW fdW) (gW : mg "is_whole" = some (.ref fW)) (B : Bi mg) : FnOk P w K mg base CX0 2 f fd ["thing", "least", "most"] (spBtw K) := by
  have GW : FnOk P w K mg base CX0 1 fW fdW ["thing"] (spWhole K) := ok_whole FW B
  have bW : Binds K fdW ["thing"] [] := FW.bindsN fun _ _ _ _ _ _ us hl => match us, hl with | [_], _ => rfl
  refine F.ok scBtw (fun vs H Q E h => ?_) (fun cdv A outer s H vs Q E hr h => ⟨_, PSs.nox (pss_one (ps_ret (pe_and (pe_call GW hr rfl gW FW.kp bW .nil pass0 (pa_cons (pv 0) pa_nil)) (pe_one (pe_chain op_le op_le (pv 1) (pv 0) (pv 2)))))), ?_⟩)
  · obtain ⟨x, lo, hi, rfl, _⟩ := h
    rfl
  · obtain ⟨x, lo, hi, rfl, hx, q⟩ := h
    refine ⟨x, rfl, x, rfl, hx, _, rfl, ?_⟩
    cases hx with
    | int i =>
      refine iteT ⟨_, rfl, _, rfl, _, _, rfl, rfl, _, rfl, ?_⟩
      refine ite2 (fun c => ?_) (fun c => ?_)
      · refine ⟨_, rfl, _, _, rfl, rfl, ?_⟩
        have e : btw (.int i) lo hi = decide (i ≤ hi) := by
          show (decide (lo ≤ i) && decide (i ≤ hi)) = _
          rw [c, Bool.true_and]
        rw [e] at q
        exact q
      · have e : btw (.int i) lo hi = false := by
          show (decide (lo ≤ i) && decide (i ≤ hi)) = _
          rw [Bool.eq_false_iff.mpr c, Bool.false_and]
        rw [e] at q
        exact q
    | _ => exact iteF q
/-- what is_seat says of a tuple -/
def seatT (xs : List V) : Bool := match xs with
  | [] => false
  | x :: r => decide (r.length ≤ 4) && (btw x 0 3 && r.all fun y => btw y 1 99)
def spSeat (K : PySem.W.Frag) (T : Addr) : Sp := fun vs H Q _ => GxR.TabG H T ∧ ((∃ a xs, vs = [.ref a] ∧ SqT K H a xs ∧ (∀ y ∈ xs, Kn K H y) ∧ ∀ H', Ex T H H' → Q (.bl (seatT xs)) H') ∨ (∃ x, vs = [x] ∧ Nt K H x ∧ Q (.bl false) H))
theorem at0 (x : V) (r : List V) : atI (x :: r) 0 = some x := by
  unfold atI ixN
  rw [if_pos (by decide), if_pos (by rw [List.length_cons]; omega)]
  rfl
theorem cut1 (x : V) (r : List V) : cutV (x :: r) (some 1) none = r := by
  unfold cutV
  rw [show HT.sIx (x :: r).length 0 (some 1) = min 1 (x :: r).length from HT.sIx_nat (x :: r).length 0 1, HT.sIx_none]
  rw [show min 1 (x :: r).length = 1 by
    rw [List.length_cons]
    omega]
  show (List.take ((x :: r).length - 1) r) = r
  rw [List.length_cons, Nat.add_sub_cancel]
  exact List.take_length
theorem cut1_part (x : V) (r : List V) : ¬ (HT.sIx (x :: r).length 0 (some 1) = 0 ∧ HT.sIx (x :: r).length (x :: r).length none = (x :: r).length) := by
  rw [show HT.sIx (x :: r).length 0 (some 1) = min 1 (x :: r).length from HT.sIx_nat (x :: r).length 0 1, List.length_cons]
  omega
theorem ok_seat {c T : Addr} (F : FnP K "is_seat" sSeat f fd) (hc : fd.code = .ref c) (FB : FnP K "is_between" sBtw fB fdB) (gB : mg "is_between" = some (.ref fB)) (FW : FnP K "is_whole" sWhole fW fdW) (gW : mg "is_whole" = some (.ref fW)) (TB : GxR.TabB base mg c T) (B : Bi mg) :
    FnOk P w K mg base CX0 4 f fd ["thing"] (spSeat K T) := by
  have GB : FnOk P w K mg base CX0 2 fB fdB ["thing", "least", "most"] (spBtw K) := ok_btw FB FW gW B
  have bB : Binds K fdB ["thing", "least", "most"] [] := FB.bindsN fun _ _ _ _ _ _ us hl => match us, hl with | [_, _, _], _ => rfl
  refine okC F hc scSeat (fun vs H Q E h => ?_) (fun A outer s H vs Q E hr h => ⟨_, PSs.nox (pss_cons (ps_if (PW.pt (pw_or (pt_not (pt_val (pe_callB call_isi (by rfl) B.isi (by decide +kernel) (pa_cons (pv 0) (pa_cons (pe_bltn (by rfl) B.tuple (by decide +kernel) (v := .ty "tuple") rfl) pa_nil)))))
      (pw_or1 (pt_not (pt_chain op_le op_le pe_int (pe_callB call_len_seq (by rfl) B.len PySem.boot_len (pa_cons (pv 0) pa_nil)) pe_int))))) (pss_one (ps_ret pe_bl)) pss_nil)
    (pss_one (ps_ret (pe_and (pe_call GB (hr.mono (by decide)) rfl gB FB.kp bB .nil pass0 (pa_cons (pe_ix ix_tup (pv 0) pe_int (fun _ _ => rfl)) (pa_cons pe_int (pa_cons pe_int pa_nil))))
      (pe_one (pe_allG (k := 2) (own := [("number", 1)]) (g := gName 1) (tt := tYes) hr rfl scSeat.nd (by rfl) B.all TB rfl (blkOk_by (N := ["thing", "number"]) (sc := defScope sSeat) (by decide +kernel)) rfl (by decide +kernel) rfl (pi_tup (pe_slice sl_tupA (pv 0) (po_some pe_int) po_none))
        (fun _ _ _ _ _ => pg_name (i := 1) scSeat.nd rfl (Or.inl rfl)) (fun _ _ _ _ _ _ => pts_nil) (fun _ _ _ _ _ hr2 => pe_call GB hr2 rfl gB FB.kp bB .nil pass0 (pa_cons (pv 1) (pa_cons pe_int (pa_cons pe_int pa_nil)))))))))), ?_⟩)
  · obtain ⟨_, ⟨a, xs, rfl, _⟩ | ⟨x, rfl, _⟩⟩ := h <;> rfl
  · obtain ⟨tH, ⟨a, xs, rfl, hS, hK, q⟩ | ⟨x, rfl, hx, q⟩⟩ := h
    · refine ⟨.ref a, rfl, .ref a, _, _, _, _, rfl, .ty "tuple", ty_tup hS, tup_tuple, _, rfl, ?_⟩
      refine iteF ⟨.ref a, rfl, a, xs, rfl, .inr hS, _, _, rfl, rfl, _, rfl, ?_⟩
      refine ite2 (fun c1 => ?_) (fun c1 => ?_)
      · refine ⟨_, _, rfl, rfl, _, rfl, ?_⟩
        by_cases c2 : (xs.length : Int) ≤ 5
        · refine iteNS c2 ?_
          obtain ⟨x, r, rfl⟩ : ∃ x r, xs = x :: r := by
            cases xs with
            | nil => exact absurd (of_decide_eq_true c1) (by decide)
            | cons x r => exact ⟨x, r, rfl⟩
          have hr4 : r.length ≤ 4 := by
            rw [List.length_cons] at c2
            omega
          refine ⟨.ref a, rfl, a, _, _, x, rfl, rfl, hS, at0 x r, x, 0, 3, rfl, hK x (List.mem_cons_self ..), _, rfl, ?_⟩
          cases hb : btw x 0 3 with
          | true =>
            refine iteT ⟨.ref a, rfl, 1, rfl, a, _, rfl, hS, fun z => absurd z (cut1_part x r), fun _ p hp => ?_⟩
            rw [cut1]
            have e1 : Ex T H (upd H p (.tup r)) := Ex.new tH hp
            refine ⟨p, rfl, ⟨r, .inl (.inl upd_same)⟩, e1.tab, fun H2 t2 => ?_⟩
            refine allTup (K := K) (a := p) (xs := r) (fun y => btw y 1 99) (fun H' => Ex T (upd H p (.tup r)) H') (Ex.tabbed t2) (fun H' e => e.sqt e1.tab (.inl (.inl upd_same))) (fun x => rfl)
              (fun y hy H' e R hR => ⟨y, rfl, y, 1, 99, rfl, e.kn e1.tab (e1.kn tH (hK y (List.mem_cons_of_mem _ hy))), hR H' e⟩) (fun H' e => ?_)
            have z := q H' (e1.trans e)
            have ez : seatT (x :: r) = r.all fun y => btw y 1 99 := by
              show (decide (r.length ≤ 4) && (btw x 0 3 && r.all fun y => btw y 1 99)) = _
              rw [decide_eq_true hr4, hb, Bool.true_and, Bool.true_and]
            rw [ez] at z
            exact z
          | false =>
            have z := q H (Ex.refl tH)
            have ez : seatT (x :: r) = false := by
              show (decide (r.length ≤ 4) && (btw x 0 3 && r.all fun y => btw y 1 99)) = _
              rw [hb, Bool.false_and, Bool.and_false]
            rw [ez] at z
            exact iteF z
        · have e5 : decide ((xs.length : Int) ≤ 5) = false := decide_eq_false c2
          have z := q H (Ex.refl tH)
          have ez : seatT xs = false := by
            cases xs with
            | nil => rfl
            | cons x r =>
              show (decide (r.length ≤ 4) && (btw x 0 3 && r.all fun y => btw y 1 99)) = _
              rw [decide_eq_false (by rw [List.length_cons] at c2; omega), Bool.false_and]
          rw [ez] at z
          show if (!decide ((xs.length : Int) ≤ 5)) = true then _ else _
          rw [e5]
          exact iteT z
      · have z := q H (Ex.refl tH)
        have ez : seatT xs = false := by
          cases xs with
          | nil => rfl
          | cons x r => exact absurd (decide_eq_true (by rw [List.length_cons]; omega)) c1
        rw [ez] at z
        exact ⟨_, rfl, iteT z⟩
    · obtain ⟨t1, ty1, k1⟩ := nt_tuple hx
      refine ⟨x, rfl, x, _, t1, _, _, rfl, .ty "tuple", ty1, k1, _, rfl, ?_⟩
      refine iteT ?_
      exact iteT q
end
end K01

namespace K01
open PySem PySem.Spec PyProof.Rows L2 GX
theorem scLWhole : FnScope ["_law_thing", "_law_least", "_law_most"] ["_law_thing", "_law_least", "_law_most"] (defScope sLWhole) := ⟨rfl, rfl, rfl, by decide +kernel, rfl, by decide +kernel, by decide +kernel⟩
theorem scLSeat : FnScope ["_law_thing", "_law_one"] ["_law_thing"] (defScope sLSeat) := ⟨rfl, rfl, rfl, by decide +kernel, rfl, by decide +kernel, by decide +kernel⟩
theorem in5 (n : Nat) : inV (.int (n : Int)) [.int 1, .int 2, .int 3, .int 4, .int 5] = decide (1 ≤ n ∧ n ≤ 5) := by
  have key : ∀ n : Nat, inV (.int (n : Int)) [.int 1, .int 2, .int 3, .int 4, .int 5] = ((1 : Int) == n || ((2 : Int) == n || ((3 : Int) == n || ((4 : Int) == n || ((5 : Int) == n || false))))) := fun n => rfl
  rw [key, Bool.eq_iff_iff]
  simp only [Bool.or_eq_true, beq_iff_eq, Bool.false_eq_true, or_false, decide_eq_true_eq]
  omega
theorem all_none (f : V → Bool) : ∀ r : List V, r.all f = (r.filter fun y => !f y).isEmpty
  | [] => rfl
  | y :: r => by
    rw [List.all_cons, List.filter_cons]
    cases h : f y with
    | true => simpa using all_none f r
    | false => simp
section
variable {P : Program} {w : World} {K : PySem.W.Frag} {mg : Str → Option Value} {base : Heap} {f fW : Addr} {fd fdW : FuncData}
theorem ok_lwhole (F : FnP K "_law_whole" sLWhole f fd) (B : Bi mg) : FnOk P w K mg base CX0 1 f fd ["_law_thing", "_law_least", "_law_most"] (spBtw K) := by
  refine F.ok scLWhole (fun vs H Q E h => ?_) (fun cdv A outer s H vs Q E hr h => ⟨_, PSs.nox (pss_one (ps_ret (pe_and (pe_callB call_isi (by rfl) B.isi (by decide +kernel) (pa_cons (pv 0) (pa_cons (pe_bltn (by rfl) B.int (by decide +kernel) (v := .ty "int") rfl) pa_nil)))
    (pe_and (pe_not (pe_callB call_isi (by rfl) B.isi (by decide +kernel) (pa_cons (pv 0) (pa_cons (pe_bltn (by rfl) B.bool (by decide +kernel) (v := .ty "bool") rfl) pa_nil)))) (pe_one (pe_chain op_le op_le (pv 1) (pv 0) (pv 2))))))), ?_⟩)
  · obtain ⟨x, lo, hi, rfl, _⟩ := h
    rfl
  · obtain ⟨x, lo, hi, rfl, hx, q⟩ := h
    obtain ⟨t1, ty1, k1⟩ := kn_int hx
    obtain ⟨t2, ty2, k2⟩ := kn_bool hx
    refine ⟨x, rfl, x, _, t1, _, _, rfl, .ty "int", ty1, k1, _, rfl, ?_⟩
    refine ite2 (fun c => ?_) (fun c => ?_)
    · refine ⟨x, rfl, x, _, t2, _, _, rfl, .ty "bool", ty2, k2, _, rfl, _, rfl, ?_⟩
      cases hx with
      | int i =>
        refine iteT ⟨_, rfl, _, rfl, _, _, rfl, rfl, _, rfl, ?_⟩
        refine ite2 (fun c => ?_) (fun c => ?_)
        · refine ⟨_, rfl, _, _, rfl, rfl, ?_⟩
          have e : btw (.int i) lo hi = decide (i ≤ hi) := by
            show (decide (lo ≤ i) && decide (i ≤ hi)) = _
            rw [c, Bool.true_and]
          rw [e] at q
          exact q
        · have e : btw (.int i) lo hi = false := by
            show (decide (lo ≤ i) && decide (i ≤ hi)) = _
            rw [Bool.eq_false_iff.mpr c, Bool.false_and]
          rw [e] at q
          exact q
      | bl b => exact iteF q
      | non => exact absurd c Bool.false_ne_true
      | str z => exact absurd c Bool.false_ne_true
      | lst z => exact absurd c Bool.false_ne_true
      | tup z => exact absurd c Bool.false_ne_true
    · cases hx <;> first | exact q | (exact absurd rfl c)
theorem ok_lseat {T : Addr} (F : FnP K "_law_is_seat" sLSeat f fd) (FW : FnP K "_law_whole" sLWhole fW fdW) (gW : mg "_law_whole" = some (.ref fW)) (B : Bi mg) :
    FnOk P w K mg base CX0 2 f fd ["_law_thing"] (spSeat K T) := by
  have GW : FnOk P w K mg base CX0 1 fW fdW ["_law_thing", "_law_least", "_law_most"] (spBtw K) := ok_lwhole FW B
  have bW : Binds K fdW ["_law_thing", "_law_least", "_law_most"] [] := FW.bindsN fun _ _ _ _ _ _ us hl => match us, hl with | [_, _, _], _ => rfl
  refine F.ok scLSeat (fun vs H Q E h => ?_) (fun cdv A outer s H vs Q E hr h => ⟨_, PSs.nox (pss_cons (ps_if (PW.pt (pw_or (pt_not (pt_val (pe_callB call_isi (by rfl) B.isi (by decide +kernel) (pa_cons (pv 0) (pa_cons (pe_bltn (by rfl) B.tuple (by decide +kernel) (v := .ty "tuple") rfl) pa_nil)))))
      (pw_or (pt_cmpR op_notIn_seq (pe_callB call_len_seq (by rfl) B.len PySem.boot_len (pa_cons (pv 0) pa_nil)) (pe_tup (pa_cons pe_int (pa_cons pe_int (pa_cons pe_int (pa_cons pe_int (pa_cons pe_int pa_nil)))))) (by rfl))
        (pw_or1 (pt_not (pt_val (pe_call GW hr rfl gW FW.kp bW .nil pass0 (pa_cons (pe_ix ix_tup (pv 0) pe_int (fun _ _ => rfl)) (pa_cons pe_int (pa_cons pe_int pa_nil)))))))))) (pss_one (ps_ret pe_bl)) pss_nil)
    (pss_one (ps_ret (pe_cmpR (op_eqNil hr.units0) (pe_lc (own := [("_law_one", 1)]) (g := gName 1) rfl scLSeat.nd (pi_tup (pe_slice sl_tupA (pv 0) (po_some pe_int) po_none)) (blkOk_by (N := ["_law_thing", "_law_one"]) (sc := defScope sLSeat) (by decide +kernel))
        (fun _ _ _ _ _ => pg_name (i := 1) scLSeat.nd rfl (Or.inl rfl)) (fun _ _ _ _ _ => pts_one (pt_not (pt_val (pe_call GW hr rfl gW FW.kp bW .nil pass0 (pa_cons (pv 1) (pa_cons pe_int (pa_cons pe_int pa_nil))))))) (fun _ _ _ _ _ => pv 1)) (pe_lst pa_nil) (nomark _))))), ?_⟩)
  · obtain ⟨_, ⟨a, xs, rfl, _⟩ | ⟨x, rfl, _⟩⟩ := h <;> rfl
  · obtain ⟨tH, ⟨a, xs, rfl, hS, hK, q⟩ | ⟨x, rfl, hx, q⟩⟩ := h
    · refine ⟨.ref a, rfl, .ref a, _, _, _, _, rfl, .ty "tuple", ty_tup hS, tup_tuple, _, rfl, ?_⟩
      refine iteF ⟨.ref a, rfl, a, xs, rfl, .inr hS, (by show 5 ≤ sizeLine; decide), fun p hp => ?_⟩
      have e1 : Ex T H (upd H p (.tup [.int 1, .int 2, .int 3, .int 4, .int 5])) := Ex.new tH hp
      have t1 := e1.tab
      have hS1 := e1.sqt tH hS
      refine ⟨p, [.int 1, .int 2, .int 3, .int 4, .int 5], rfl, .inr (.inl (.inl upd_same)), rfl, rfl, _, rfl, ?_⟩
      generalize upd H p (.tup [.int 1, .int 2, .int 3, .int 4, .int 5]) = H1 at e1 t1 hS1
      by_cases hn : 1 ≤ xs.length ∧ xs.length ≤ 5
      · obtain ⟨x, r, rfl⟩ : ∃ x r, xs = x :: r := by
          cases xs with
          | nil => exact absurd hn.1 (by decide)
          | cons x r => exact ⟨x, r, rfl⟩
        have hr4 : r.length ≤ 4 := by
          have := hn.2
          rw [List.length_cons] at this
          omega
        have ein : (!inV (.int ((x :: r).length : Int)) [.int 1, .int 2, .int 3, .int 4, .int 5]) = false := by rw [in5, decide_eq_true hn]; rfl
        show if (!inV (.int ((x :: r).length : Int)) [.int 1, .int 2, .int 3, .int 4, .int 5]) = true then _ else _
        rw [ein]
        refine iteF ⟨.ref a, rfl, a, _, _, x, rfl, rfl, hS1, at0 x r, x, 0, 3, rfl, e1.kn tH (hK x (List.mem_cons_self ..)), _, rfl, ?_⟩
        cases hb : btw x 0 3 with
        | true =>
          refine iteF ?_
          refine ⟨.ref a, rfl, 1, rfl, a, _, rfl, hS1, fun z => absurd z (cut1_part x r), fun _ d hd => ?_⟩
          rw [cut1]
          have e2 : Ex T H1 (upd H1 d (.tup r)) := Ex.new t1 hd
          have t2 := e2.tab
          have hS2 : SqT K (upd H1 d (.tup r)) d r := .inl (.inl upd_same)
          refine ⟨d, rfl, ⟨r, hS2⟩, fun D hD => ?_⟩
          generalize hH2 : upd H1 d (.tup r) = H2 at e2 t2 hS2 hD
          have hKr : ∀ y ∈ r, Kn K H2 y := fun y hy => e2.kn t1 (e1.kn tH (hK y (List.mem_cons_of_mem _ hy)))
          have exD : ∀ {H' : Hp} {o : HO}, Ex T H2 H' → Ex T H2 (upd H' D o) := fun {H' o} e => by
            obtain ⟨⟨ps, z, tr⟩, k⟩ := e
            have nT : T ≠ D := fun z2 => by
              obtain ⟨ps2, z3, _⟩ := t2
              rw [z2, hD] at z3
              cases z3
            exact ⟨⟨ps, by rw [upd_ne nT]; exact z, tr⟩, fun b u eb nb => by rw [upd_ne (ne_of_none eb hD)]; exact k b u eb nb⟩
          refine lc_tup (K := K) (a := d) (xs := r) (fun i H' => Ex T H2 H' ∧ H' D = some (.lst ((r.take i).filter fun y => !btw y 1 99))) ⟨exD (Ex.refl t2), upd_same⟩ (fun i H' _ h' => h'.1.sqt t2 hS2) (fun i y H' hy h' => ?_) (fun H' h' => ?_)
          · have hm : y ∈ r := List.mem_of_getElem? hy
            refine ⟨rfl, y, rfl, y, 1, 99, rfl, h'.1.kn t2 (hKr y hm), _, rfl, ?_⟩
            have et : (r.take (i + 1)).filter (fun y => !btw y 1 99) = (r.take i).filter (fun y => !btw y 1 99) ++ (if (!btw y 1 99) = true then [y] else []) := by
              rw [List.take_add_one, hy, List.filter_append]
              show _ ++ List.filter _ [y] = _
              rw [List.filter_cons]
              rfl
            cases hy2 : btw y 1 99 with
            | true =>
              refine iteF ⟨h'.1, ?_⟩
              rw [et, hy2, h'.2]
              simp
            | false =>
              refine iteT ⟨y, rfl, _, h'.2, ?_, exD h'.1, ?_⟩
              · have z := List.length_filter_le (fun y => !btw y 1 99) (r.take i)
                have z2 : (r.take i).length ≤ r.length := by rw [List.length_take]; exact Nat.min_le_right _ _
                exact small1000 (by omega)
              · rw [upd_same, et, hy2]
                rfl
          · refine ⟨Nat.zero_le _, fun e he => ?_⟩
            obtain ⟨h1, h2⟩ := h'
            rw [List.take_length] at h2
            refine ⟨D, e, _, rfl, rfl, .inl (.inl ((upd_ne (ne_of_none h2 he)).trans h2)), .inl (.inl upd_same), ?_⟩
            have z := q (upd H' e (.lst [])) ((e1.trans e2).trans (h1.trans (Ex.new h1.tab he)))
            have ez : seatT (x :: r) = (r.filter fun y => !btw y 1 99).isEmpty := by
              show (decide (r.length ≤ 4) && (btw x 0 3 && r.all fun y => btw y 1 99)) = _
              rw [decide_eq_true hr4, hb, Bool.true_and, Bool.true_and, all_none]
            rw [ez] at z
            exact z
        | false =>
          have z := q H1 e1
          have ez : seatT (x :: r) = false := by
            show (decide (r.length ≤ 4) && (btw x 0 3 && r.all fun y => btw y 1 99)) = _
            rw [hb, Bool.false_and, Bool.and_false]
          rw [ez] at z
          exact iteT z
      · have ein : (!inV (.int (xs.length : Int)) [.int 1, .int 2, .int 3, .int 4, .int 5]) = true := by rw [in5, decide_eq_false hn]; rfl
        show if (!inV (.int (xs.length : Int)) [.int 1, .int 2, .int 3, .int 4, .int 5]) = true then _ else _
        rw [ein]
        have z := q H1 e1
        have ez : seatT xs = false := by
          cases xs with
          | nil => rfl
          | cons x r =>
            show (decide (r.length ≤ 4) && (btw x 0 3 && r.all fun y => btw y 1 99)) = _
            rw [decide_eq_false (by rw [List.length_cons] at hn; omega), Bool.false_and]
        rw [ez] at z
        exact iteT (iteT z)
    · obtain ⟨t1, ty1, k1⟩ := nt_tuple hx
      refine ⟨x, rfl, x, _, t1, _, _, rfl, .ty "tuple", ty1, k1, _, rfl, ?_⟩
      refine iteT ?_
      exact iteT q
end
end K01

namespace K01
open PySem PySem.Spec PyProof.Rows L2 GX
theorem scFeed : FnScope ["_law_script", "_law_at"] ["_law_script", "_law_at"] (defScope sFeed) := ⟨rfl, rfl, rfl, by decide +kernel, rfl, by decide +kernel, by decide +kernel⟩
theorem scTake : FnScope ["_law_feed_here", "_law_many", "_law_found", "_law_cell", "_law_mixed"] ["_law_feed_here", "_law_many"] (defScope sTake) := ⟨rfl, rfl, rfl, by decide +kernel, rfl, by decide +kernel, by decide +kernel⟩
/-- the feed at f: the script at a (to be read whatever stands at f), three numbers -/
def Sc (K : PySem.W.Frag) (f a : Addr) (ns : List Int) (H : Hp) : Prop := ∀ o, SqL K (upd H f o) a (ns.map V.int)
def fd4 (a : Addr) (p q t : Int) : HO := .lst [.ref a, .int p, .int q, .int t]
structure Fd (K : PySem.W.Frag) (f a : Addr) (ns : List Int) (H : Hp) : Prop where
  at_ : ∃ p q t : Int, H f = some (fd4 a p q t) ∧ 0 ≤ p ∧ 0 ≤ q ∧ 0 ≤ t
  sc : Sc K f a ns H
theorem upd_self {H : Hp} {f : Addr} {o : HO} (h : H f = some o) : upd H f o = H := by
  funext b
  unfold upd
  split
  · rename_i e
    rw [e, h]
  · rfl
theorem Fd.script {K : PySem.W.Frag} {f a : Addr} {ns : List Int} {H : Hp} (h : Fd K f a ns H) : SqL K H a (ns.map V.int) := by
  obtain ⟨p, q, t, e, _⟩ := h.at_
  have := h.sc (fd4 a p q t)
  rw [upd_self e] at this
  exact this
theorem Fd.put {K : PySem.W.Frag} {f a : Addr} {ns : List Int} {H : Hp} (h : Fd K f a ns H) {p q t : Int} (hp : 0 ≤ p) (hq : 0 ≤ q) (ht : 0 ≤ t) : Fd K f a ns (upd H f (fd4 a p q t)) :=
  ⟨⟨p, q, t, upd_same, hp, hq, ht⟩, fun o => by rw [upd_upd]; exact h.sc o⟩
section
variable {P : Program} {w : World} {K : PySem.W.Frag} {mg : Str → Option Value} {base : Heap} {f : Addr} {fd : FuncData}
def spFeed : Sp := fun vs H Q _ => ∃ a, vs = [.ref a, .int 0] ∧ ∀ p, H p = none → Q (.ref p) (upd H p (fd4 a 0 0 0))
theorem ok_feed (F : FnP K "_law_feed" sFeed f fd) : FnOk P w K mg base CX0 1 f fd ["_law_script", "_law_at"] spFeed := by
  refine F.ok scFeed (fun vs H Q E h => ?_) (fun cdv A outer s H vs Q E hr h => ⟨_, PSs.nox (pss_one (ps_ret (pe_lst (pa_cons (pv 0) (pa_cons (pv 1) (pa_cons pe_int (pa_cons pe_int pa_nil))))))), ?_⟩)
  · obtain ⟨a, rfl, _⟩ := h
    rfl
  · obtain ⟨a, rfl, q⟩ := h
    exact ⟨_, rfl, _, rfl, (by show 4 ≤ sizeLine; decide), fun p hp => q p hp⟩
def spTake (K : PySem.W.Frag) : Sp := fun vs H Q _ => ∃ (g a : Addr) (many : Int) (ns : List Int), vs = [.ref g, .int many] ∧ 1 ≤ many ∧ many ≤ 1000 ∧ Fd K g a ns H ∧ ∀ (r : Int) (p q t : Int), 0 ≤ r → r < many → 0 ≤ p → 0 ≤ q → 0 ≤ t → Q (.int r) (upd H g (fd4 a p q t))
theorem ok_take (F : FnP K "_law_take" sTake f fd) (B : Bi mg) : FnOk P w K mg base CX0 1 f fd ["_law_feed_here", "_law_many"] (spTake K) := by
  refine F.ok scTake (fun vs H Q E h => ?_) (fun cdv A outer s H vs Q E hr h => ⟨_, PSs.nox (
    pss_cons (ps_asg (pe_op op_add (pe_ix ix_list (pv 0) pe_int (fun _ _ => rfl)) pe_int) (pg_sub (pv 0) pe_int set_list))
    (pss_cons (ps_if (pt_cmpR op_ge (pe_ix ix_list (pv 0) pe_int (fun _ _ => rfl)) (pv 1) (nomark _))
      (pss_cons (ps_set (i := 2) scTake.nd rfl (.inl rfl) (pe_op op_mod (pe_ix ix_list (pv 0) pe_int (fun _ _ => rfl)) (pv 1)))
        (pss_cons (ps_asg (pe_op op_fdiv (pe_ix ix_list (pv 0) pe_int (fun _ _ => rfl)) (pv 1)) (pg_sub (pv 0) pe_int set_list)) (pss_one (ps_ret (pv 2))))) pss_nil)
    (pss_cons (ps_set (i := 3) scTake.nd rfl (.inl rfl) pe_int)
    (pss_cons (ps_if (pt_cmpR op_gt (pe_callB call_len_seq (by rfl) B.len PySem.boot_len (pa_cons (pe_ix ix_list (pv 0) pe_int (fun _ _ => rfl)) pa_nil)) pe_int (nomark _))
      (pss_one (ps_set (i := 3) scTake.nd rfl (.inl rfl) (pe_ix ix_list (pe_ix ix_list (pv 0) pe_int (fun _ _ => rfl)) (pe_op op_mod (pe_ix ix_list (pv 0) pe_int (fun _ _ => rfl)) (pe_callB call_len_seq (by rfl) B.len PySem.boot_len (pa_cons (pe_ix ix_list (pv 0) pe_int (fun _ _ => rfl)) pa_nil))) (fun _ _ => rfl)))) pss_nil)
    (pss_cons (ps_asg (pe_op op_add (pe_ix ix_list (pv 0) pe_int (fun _ _ => rfl)) pe_int) (pg_sub (pv 0) pe_int set_list))
    (pss_cons (ps_if (pt_cmpR op_ge (pv 3) (pe_op op_pow pe_int pe_int) (nomark _))
      (pss_cons (ps_asg (pe_op op_fdiv (pv 3) (pv 1)) (pg_sub (pv 0) pe_int set_list)) (pss_one (ps_ret (pe_op op_mod (pv 3) (pv 1))))) pss_nil)
    (pss_cons (ps_set (i := 4) scTake.nd rfl (.inl rfl) (pe_op op_mod (pe_op op_mul (pe_op op_add (pe_op op_add (pe_op op_mod (pv 3) pe_int) (pe_op op_mul pe_int (pe_ix ix_list (pv 0) pe_int (fun _ _ => rfl)))) (pe_op op_mul pe_int (pe_ix ix_list (pv 0) pe_int (fun _ _ => rfl)))) pe_int) pe_int))
    (pss_cons (ps_set (i := 4) scTake.nd rfl (.inl rfl) (pe_op op_mod (pe_op op_mul (pe_op op_add (pe_op op_fdiv (pv 4) pe_int) (pe_op op_mul pe_int (pe_ix ix_list (pv 0) pe_int (fun _ _ => rfl)))) pe_int) pe_int))
    (pss_one (ps_ret (pe_op op_mod (pe_op op_fdiv (pv 4) pe_int) (pv 1)))))))))))), ?_⟩)
  · obtain ⟨g, a, many, ns, rfl, _⟩ := h
    rfl
  · obtain ⟨g, a, many, ns, rfl, hm1, hm2, hF, q⟩ := h
    obtain ⟨p, qq, t, hg, hp, hq, ht⟩ := id hF.at_
    -- feed[3] = feed[3] + 1
    refine ⟨.ref g, rfl, g, _, 3, .int t, rfl, rfl, .inl (.inl hg), rfl, _, _, rfl, rfl, .ref g, rfl, g, _, 3, 3, rfl, rfl, hg, rfl, ?_⟩
    have F1 : Fd K g a ns (upd H g (fd4 a p qq (t + 1))) := hF.put hp hq (by omega)
    have g1 : (upd H g (fd4 a p qq (t + 1))) g = some (fd4 a p qq (t + 1)) := upd_same
    have q1 : ∀ (r p' q' t' : Int), 0 ≤ r → r < many → 0 ≤ p' → 0 ≤ q' → 0 ≤ t' → Q (.int r) (upd (upd H g (fd4 a p qq (t + 1))) g (fd4 a p' q' t')) := fun r p' q' t' h1 h2 h3 h4 h5 => by rw [upd_upd]; exact q r p' q' t' h1 h2 h3 h4 h5
    generalize hH1 : upd H g (fd4 a p qq (t + 1)) = H1 at F1 g1 q1
    have hH1' : upd H g (.lst ([V.ref a, .int p, .int qq, .int t].set 3 (.int (t + 1)))) = H1 := hH1
    rw [hH1']
    -- if feed[2] >= many
    refine ⟨.ref g, rfl, g, _, 2, .int qq, rfl, rfl, .inl (.inl g1), rfl, _, rfl, _, _, rfl, rfl, _, rfl, ?_⟩
    refine ite2 (fun c => ?_) (fun c => ?_)
    · have c' : many ≤ qq := of_decide_eq_true c
      refine ⟨.ref g, rfl, g, _, 2, .int qq, rfl, rfl, .inl (.inl g1), rfl, _, rfl, _, _, rfl, rfl, (by show (0 : Int) < many; omega), ?_⟩
      refine ⟨.ref g, rfl, g, _, 2, .int qq, rfl, rfl, .inl (.inl g1), rfl, _, rfl, _, _, rfl, rfl, ⟨by omega, by omega⟩, .ref g, rfl, g, _, 2, 2, rfl, rfl, g1, rfl, ?_⟩
      exact ⟨_, rfl, q1 (qq % many) p (qq / many) (t + 1) (Int.emod_nonneg _ (by omega)) (Int.emod_lt_of_pos _ (by omega)) hp (Int.ediv_nonneg hq (by omega)) (by omega)⟩
    · -- cell = 0; if len(feed[0]) > 0
      refine ⟨.ref g, rfl, g, _, 0, .ref a, rfl, rfl, .inl (.inl g1), rfl, a, _, rfl, .inl F1.script, _, _, rfl, rfl, _, rfl, ?_⟩
      have g2 : (upd H1 g (fd4 a (p + 1) qq (t + 1))) g = some (fd4 a (p + 1) qq (t + 1)) := upd_same
      have q2 : ∀ (r p' q' t' : Int), 0 ≤ r → r < many → 0 ≤ p' → 0 ≤ q' → 0 ≤ t' → Q (.int r) (upd (upd H1 g (fd4 a (p + 1) qq (t + 1))) g (fd4 a p' q' t')) := fun r p' q' t' h1 h2 h3 h4 h5 => by rw [upd_upd]; exact q1 r p' q' t' h1 h2 h3 h4 h5
      have q3 : ∀ r : Int, 0 ≤ r → r < many → Q (.int r) (upd H1 g (fd4 a (p + 1) qq (t + 1))) := fun r h1 h2 => q1 r (p + 1) qq (t + 1) h1 h2 (by omega) hq (by omega)
      generalize hH2 : upd H1 g (fd4 a (p + 1) qq (t + 1)) = H2 at g2 q2 q3
      have hH2' : upd H1 g (.lst ([V.ref a, .int p, .int qq, .int (t + 1)].set 1 (.int (p + 1)))) = H2 := hH2
      refine ite2 (fun c2 => ?_) (fun c2 => ?_)
      · have hlen : (0 : Int) < ((ns.map V.int).length : Int) := of_decide_eq_true c2
        obtain ⟨v, hv⟩ : ∃ v, atI (ns.map V.int) (p % ((ns.map V.int).length : Int)) = some (.int v) := by
          have h1 := Int.emod_nonneg p (b := ((ns.map V.int).length : Int)) (by omega)
          have h2 := Int.emod_lt_of_pos p hlen
          have hk : (p % ((ns.map V.int).length : Int)).toNat < ns.length := by
            rw [List.length_map] at h2 ⊢
            rw [List.length_map] at h1
            omega
          have ek : p % ((ns.map V.int).length : Int) = (((p % ((ns.map V.int).length : Int)).toNat : Nat) : Int) := by omega
          rw [ek]
          exact ⟨ns[(p % ((ns.map V.int).length : Int)).toNat], atI_nat (by rw [List.getElem?_map, List.getElem?_eq_getElem hk] <;> rfl)⟩
        refine ⟨.ref g, rfl, g, _, 0, .ref a, rfl, rfl, .inl (.inl g1), rfl, .ref g, rfl, g, _, 1, .int p, rfl, rfl, .inl (.inl g1), rfl, .ref g, rfl, g, _, 0, .ref a, rfl, rfl, .inl (.inl g1), rfl, a, _, rfl, .inl F1.script, _, _, rfl, rfl, hlen, a, _, _, .int v, rfl, rfl, F1.script, hv, ?_⟩
        refine ⟨.ref g, rfl, g, _, 1, .int p, rfl, rfl, .inl (.inl g1), rfl, _, _, rfl, rfl, .ref g, rfl, g, _, 1, 1, rfl, rfl, g1, rfl, ?_⟩
        rw [hH2']
        refine ⟨_, rfl, _, _, rfl, rfl, ⟨by decide, by decide, by decide⟩, _, _, rfl, rfl, _, rfl, ?_⟩
        refine ite2 (fun c3 => ?_) (fun c3 => ?_)
        · have c3' := of_decide_eq_true c3
          refine ⟨_, rfl, _, rfl, _, _, rfl, rfl, ⟨by omega, by omega⟩, .ref g, rfl, g, _, 2, 2, rfl, rfl, g2, rfl, ?_⟩
          refine ⟨_, rfl, _, rfl, _, _, rfl, rfl, (by show (0 : Int) < many; omega), ?_⟩
          exact q2 _ (p + 1) _ (t + 1) (Int.emod_nonneg _ (by omega)) (Int.emod_lt_of_pos _ (by omega)) (by omega) (Int.ediv_nonneg (Int.le_trans (by decide) c3') (by omega)) (by omega)
        · refine ⟨_, rfl, _, _, rfl, rfl, (by show (0 : Int) < 2147483629; decide), .ref g, rfl, g, _, 3, .int (t + 1), rfl, rfl, .inl (.inl g2), rfl, _, _, rfl, rfl, .inl ⟨by decide, by decide⟩, _, _, rfl, rfl,
            .ref g, rfl, g, _, 1, .int (p + 1), rfl, rfl, .inl (.inl g2), rfl, _, _, rfl, rfl, .inl ⟨by decide, by decide⟩, _, _, rfl, rfl, _, _, rfl, rfl, .inr ⟨by decide, by decide⟩, _, _, rfl, rfl, (by show (0 : Int) < 2147483647; decide), ?_⟩
          refine ⟨_, rfl, _, _, rfl, rfl, ⟨by decide, by decide⟩, .ref g, rfl, g, _, 3, .int (t + 1), rfl, rfl, .inl (.inl g2), rfl, _, _, rfl, rfl, .inl ⟨by decide, by decide⟩, _, _, rfl, rfl, _, _, rfl, rfl, .inr ⟨by decide, by decide⟩, _, _, rfl, rfl, (by show (0 : Int) < 2147483587; decide), ?_⟩
          refine ⟨_, rfl, _, _, rfl, rfl, ⟨by decide, by decide⟩, _, rfl, _, _, rfl, rfl, (by show (0 : Int) < many; omega), ?_⟩
          exact q3 _ (Int.emod_nonneg _ (by omega)) (Int.emod_lt_of_pos _ (by omega))
      · refine ⟨.ref g, rfl, g, _, 1, .int p, rfl, rfl, .inl (.inl g1), rfl, _, _, rfl, rfl, .ref g, rfl, g, _, 1, 1, rfl, rfl, g1, rfl, ?_⟩
        rw [hH2']
        refine ⟨_, rfl, _, _, rfl, rfl, ⟨by decide, by decide, by decide⟩, _, _, rfl, rfl, _, rfl, ?_⟩
        refine ite2 (fun c3 => ?_) (fun c3 => ?_)
        · have c3' := of_decide_eq_true c3
          refine ⟨_, rfl, _, rfl, _, _, rfl, rfl, ⟨by omega, by omega⟩, .ref g, rfl, g, _, 2, 2, rfl, rfl, g2, rfl, ?_⟩
          refine ⟨_, rfl, _, rfl, _, _, rfl, rfl, (by show (0 : Int) < many; omega), ?_⟩
          exact q2 _ (p + 1) _ (t + 1) (Int.emod_nonneg _ (by omega)) (Int.emod_lt_of_pos _ (by omega)) (by omega) (Int.ediv_nonneg (Int.le_trans (by decide) c3') (by omega)) (by omega)
        · refine ⟨_, rfl, _, _, rfl, rfl, (by show (0 : Int) < 2147483629; decide), .ref g, rfl, g, _, 3, .int (t + 1), rfl, rfl, .inl (.inl g2), rfl, _, _, rfl, rfl, .inl ⟨by decide, by decide⟩, _, _, rfl, rfl,
            .ref g, rfl, g, _, 1, .int (p + 1), rfl, rfl, .inl (.inl g2), rfl, _, _, rfl, rfl, .inl ⟨by decide, by decide⟩, _, _, rfl, rfl, _, _, rfl, rfl, .inr ⟨by decide, by decide⟩, _, _, rfl, rfl, (by show (0 : Int) < 2147483647; decide), ?_⟩
          refine ⟨_, rfl, _, _, rfl, rfl, ⟨by decide, by decide⟩, .ref g, rfl, g, _, 3, .int (t + 1), rfl, rfl, .inl (.inl g2), rfl, _, _, rfl, rfl, .inl ⟨by decide, by decide⟩, _, _, rfl, rfl, _, _, rfl, rfl, .inr ⟨by decide, by decide⟩, _, _, rfl, rfl, (by show (0 : Int) < 2147483587; decide), ?_⟩
          refine ⟨_, rfl, _, _, rfl, rfl, ⟨by decide, by decide⟩, _, rfl, _, _, rfl, rfl, (by show (0 : Int) < many; omega), ?_⟩
          exact q3 _ (Int.emod_nonneg _ (by omega)) (Int.emod_lt_of_pos _ (by omega))
end
end K01

namespace K01
open PySem PySem.Spec PyProof.Rows L2 GX
/-- all but lists and tables stays -/
def Mv (H H' : Hp) : Prop := ∀ b o, H b = some o → (∀ xs, o ≠ .lst xs) → (∀ ps, o ≠ .tbl ps) → H' b = some o
/-- an element: flat, or a tuple -/
inductive K0 (K : PySem.W.Frag) (H : Hp) : V → Prop
  | non : K0 K H .non
  | bl (b : Bool) : K0 K H (.bl b)
  | int (i : Int) : K0 K H (.int i)
  | str (x : Str) : K0 K H (.str x)
  | tup {a : Addr} {xs : List V} (h : SqT K H a xs) : K0 K H (.ref a)
def flat : V → Prop
  | .non => True
  | .bl _ => True
  | .int _ => True
  | .str _ => True
  | _ => False
/-- a thing without lists -/
def T0 (K : PySem.W.Frag) (H : Hp) (z : V) : Prop := flat z ∨ ∃ a xs, z = .ref a ∧ SqT K H a xs ∧ ∀ y ∈ xs, K0 K H y
/-- .. or a list that was not there at H0 -/
def T1 (K : PySem.W.Frag) (H0 H : Hp) (z : V) : Prop := T0 K H z ∨ ∃ l xs, z = .ref l ∧ H l = some (.lst xs) ∧ H0 l = none
/-- what is_seat is asked of -/
def Th (K : PySem.W.Frag) (H : Hp) (z : V) : Prop := (∃ a xs, z = .ref a ∧ SqT K H a xs ∧ ∀ y ∈ xs, Kn K H y) ∨ Nt K H z
/-- a small int -/
def Ei (y : V) : Prop := ∃ i : Int, y = .int i ∧ -1000 ≤ i ∧ i ≤ 1000
section
variable {K : PySem.W.Frag} {T f a b p : Addr} {H H' H2 H0 : Hp} {xs ys : List V} {ns : List Int} {z : V} {Q : VK} {o : HO}
theorem Mv.refl : Mv H H := fun _ _ h _ _ => h
theorem Mv.trans (x : Mv H H') (y : Mv H' H2) : Mv H H2 := fun b o h n1 n2 => y b o (x b o h n1 n2) n1 n2
theorem Ex.mv (e : Ex T H H') (t : GxR.TabG H T) : Mv H H' := fun b o h n1 n2 => e.keep b o h (tab_ne t h n2)
theorem Mv.put {l : List V} (h : H f = some (.lst l)) : Mv H (upd H f o) := fun b u e n1 _ => by
  rw [upd_ne (fun z => ?_)]
  · exact e
  · rw [z, h] at e
    exact n1 l (Option.some.inj e).symm
theorem Mv.sqt (m : Mv H H') (h : SqT K H a xs) : SqT K H' a xs := by
  rcases h with (h | ⟨o, h⟩) | h
  · exact .inl (.inl (m _ _ h (fun _ z => by cases z) (fun _ z => by cases z)))
  · exact .inl (.inr ⟨o, m _ _ h (fun _ z => by cases z) (fun _ z => by cases z)⟩)
  · exact .inr h
theorem Mv.k0 (m : Mv H H') (h : K0 K H z) : K0 K H' z := by
  cases h with
  | non => exact .non
  | bl b => exact .bl b
  | int i => exact .int i
  | str s => exact .str s
  | tup h => exact .tup (m.sqt h)
theorem Mv.t0 (m : Mv H H') (h : T0 K H z) : T0 K H' z := by
  rcases h with h | ⟨a, xs, e, h1, h2⟩
  · exact .inl h
  · exact .inr ⟨a, xs, e, m.sqt h1, fun y hy => m.k0 (h2 y hy)⟩
theorem K0.kn (h : K0 K H z) : Kn K H z := by
  cases h with
  | non => exact .non
  | bl b => exact .bl b
  | int i => exact .int i
  | str s => exact .str s
  | tup h => exact .tup h
theorem T0.th (h : T0 K H z) : Th K H z := by
  rcases h with h | ⟨a, xs, e, h1, h2⟩
  · refine .inr ?_
    cases z <;> first | exact .non | exact .bl _ | exact .int _ | exact .str _ | exact False.elim h
  · exact .inl ⟨a, xs, e, h1, fun y hy => (h2 y hy).kn⟩
theorem T1.th (h : T1 K H0 H z) : Th K H z := by
  rcases h with h | ⟨l, xs, e, h1, _⟩
  · exact h.th
  · rw [e]
    exact .inr (.lst (.inl (.inl h1)))
/-- the list at f, which stood at H0, is changed -/
theorem T1.put {l : List V} (h : T1 K H0 H z) (h0 : H0 f = some o) (hf : H f = some (.lst l)) {o' : HO} : T1 K H0 (upd H f o') z := by
  rcases h with h | ⟨q, xs, e, h1, h2⟩
  · exact .inl ((Mv.put hf).t0 h)
  · exact .inr ⟨q, xs, e, by rw [upd_ne (ne_of_none h0 h2).symm]; exact h1, h2⟩
theorem Ex.t1 (e : Ex T H H') (t : GxR.TabG H T) (h : T1 K H0 H z) : T1 K H0 H' z := by
  rcases h with h | ⟨q, xs, e1, h1, h2⟩
  · exact .inl ((e.mv t).t0 h)
  · exact .inr ⟨q, xs, e1, e.keep _ _ h1 (tab_ne t h1 fun _ z => by cases z), h2⟩
theorem Ex.th (e : Ex T H H') (t : GxR.TabG H T) (h : Th K H z) : Th K H' z := by
  rcases h with ⟨a, xs, e1, h1, h2⟩ | h
  · exact .inl ⟨a, xs, e1, e.sqt t h1, fun y hy => e.kn t (h2 y hy)⟩
  · refine .inr ?_
    cases h with
    | non => exact .non
    | bl b => exact .bl b
    | int i => exact .int i
    | str s => exact .str s
    | lst h => exact .lst (e.sql t h)
theorem Sc.ex (h : Sc K f a ns H) (t : GxR.TabG H T) (e : Ex T H H') : Sc K f a ns H' := fun o => by
  by_cases haf : a = f
  · have z := h (.tbl #[])
    rcases z with (z | ⟨ob, z⟩) | z
    · rw [haf, upd_same] at z
      cases z
    · rw [haf, upd_same] at z
      cases z
    · exact .inr z
  · rcases h o with (z | ⟨ob, z⟩) | z
    · rw [upd_ne haf] at z
      exact .inl (.inl (by rw [upd_ne haf]; exact e.keep _ _ z (tab_ne t z fun _ z => by cases z)))
    · rw [upd_ne haf] at z
      exact .inl (.inr ⟨ob, by rw [upd_ne haf]; exact e.keep _ _ z (tab_ne t z fun _ z => by cases z)⟩)
    · exact .inr z
theorem Fd.ex (h : Fd K f a ns H) (t : GxR.TabG H T) (e : Ex T H H') : Fd K f a ns H' := by
  obtain ⟨p, q, r, h1, h2⟩ := h.at_
  exact ⟨⟨p, q, r, e.keep _ _ h1 (tab_ne t h1 fun _ z => by cases z), h2⟩, h.sc.ex t e⟩
theorem tab_put {l : List V} (t : GxR.TabG H T) (h : H f = some (.lst l)) {o : HO} : GxR.TabG (upd H f o) T := by
  obtain ⟨ps, z, r⟩ := t
  exact ⟨ps, by rw [upd_ne (fun e => by rw [e, h] at z; cases z)]; exact z, r⟩
/-- any slice of a tuple -/
theorem slAny {lo hi : Option Int} (t : GxR.TabG H T) (hS : SqT K H a xs) (h : ∀ H' c ys, Ex T H H' → SqT K H' c ys → (∀ y ∈ ys, y ∈ xs) → ys.length ≤ xs.length → Q (.ref c) H') : rSlA K (.ref a) lo hi H Q := by
  refine ⟨a, xs, rfl, hS, fun _ => h H a xs (Ex.refl t) hS (fun _ z => z) (Nat.le_refl _), fun _ p hp => h _ p _ (Ex.new t hp) (.inl (.inl upd_same)) (fun y hy => ?_) ?_⟩
  · exact List.mem_of_mem_drop (List.mem_of_mem_take hy)
  · unfold cutV
    rw [List.length_take, List.length_drop]
    omega
/-- t + u -/
theorem catAny (t : GxR.TabG H T) (hx : SqT K H a xs) (hy : SqT K H b ys) (hz : xs.length + ys.length ≤ 1000) (h : ∀ H' c, Ex T H H' → SqT K H' c (xs ++ ys) → Q (.ref c) H') : rCatA K (.ref a) (.ref b) H Q := by
  refine ⟨a, b, xs, ys, rfl, rfl, hx, hy, Nat.le_of_lt (small1000 hz), fun e => ?_, fun _ e => ?_, fun _ _ p hp => h _ p (Ex.new t hp) (.inl (.inl upd_same))⟩
  · subst e
    exact h H b (Ex.refl t) hy
  · subst e
    exact h H a (Ex.refl t) (by rw [List.append_nil]; exact hx)
theorem ei_k0 {y : V} (h : Ei y) : K0 K H y := by
  obtain ⟨i, e, _⟩ := h
  rw [e]
  exact .int i
end
end K01

namespace K01
open PySem PySem.Spec PyProof.Rows L2 GX
theorem scOdd : FnScope ["_law_thing", "_law_some"] ["_law_thing"] (defScope sOdd) := ⟨rfl, rfl, rfl, by decide +kernel, rfl, by decide +kernel, by decide +kernel⟩
theorem kit_bi {K : PySem.W.Frag} : PySem.W.kitOne K (.type "int") (.type "bool") = some false := kit_ty (by decide +kernel)
theorem kit_ii {K : PySem.W.Frag} : PySem.W.kitOne K (.type "int") (.type "int") = some true := kit_ty (by decide +kernel)
theorem kit_it {K : PySem.W.Frag} : PySem.W.kitOne K (.type "int") (.type "tuple") = some false := kit_ty (by decide +kernel)
theorem kit_tb {K : PySem.W.Frag} : PySem.W.kitOne K (.type "tuple") (.type "bool") = some false := kit_ty (by decide +kernel)
theorem kit_ti {K : PySem.W.Frag} : PySem.W.kitOne K (.type "tuple") (.type "int") = some false := kit_ty (by decide +kernel)
theorem log_small {i : Int} (h1 : -1000 ≤ i) (h2 : i ≤ 1000) : i.natAbs.log2 < 1920 := by
  have h : i.natAbs ≤ 1000 := by omega
  by_cases h0 : i.natAbs = 0
  · rw [h0]; decide
  · rw [Nat.log2_lt h0]
    exact Nat.lt_of_le_of_lt h (by decide)
section
variable {K : PySem.W.Frag} {T c : Addr} {H H' H0 : Hp} {zs ys : List V} {z : V}
theorem D_more (D : ∀ z ∈ zs, T1 K H0 H z) (t : GxR.TabG H T) (e : Ex T H H') : ∀ z ∈ zs, T1 K H0 H' z := fun z hz => e.t1 t (D z hz)
theorem D_step (D : ∀ z ∈ zs, T1 K H0 H z) (t : GxR.TabG H T) (e : Ex T H H') {y : V} (hy : T1 K H0 H' y) : ∀ z ∈ zs ++ [y], T1 K H0 H' z := fun z hz => by
  rcases List.mem_append.mp hz with h | h
  · exact e.t1 t (D z h)
  · rw [List.mem_singleton] at h
    rw [h]
    exact hy
theorem t0_of (hS : SqT K H c ys) (h : ∀ y ∈ ys, Ei y) : T0 K H (.ref c) := .inr ⟨c, ys, rfl, hS, fun y hy => ei_k0 (h y hy)⟩
theorem Ex.free (e : Ex T H H') {p : Addr} (hp : H' p = none) (t : GxR.TabG H T) : H p = none := by
  cases q : H p with
  | none => rfl
  | some o =>
    by_cases hb : p = T
    · obtain ⟨ps, z, _⟩ := e.tab
      rw [hb, z] at hp
      cases hp
    · rw [e.keep p o q hb] at hp
      cases hp
end
section
variable {P : Program} {w : World} {K : PySem.W.Frag} {mg : Str → Option Value} {base : Heap} {f : Addr} {fd : FuncData}
def outOdd (K : PySem.W.Frag) (T : Addr) (H : Hp) (Q : VK) : Prop := ∀ H' r zs, Ex T H H' → H r = none → H' r = some (.lst zs) → 1 ≤ zs.length → zs.length ≤ 10 → (∀ z ∈ zs, T1 K H H' z) → Q (.ref r) H'
def spOdd (K : PySem.W.Frag) (T : Addr) : Sp := fun vs H Q _ => GxR.TabG H T ∧ ((∃ i : Int, vs = [.int i] ∧ -1000 ≤ i ∧ i ≤ 1000 ∧ ∀ H' r zs, Ex T H H' → H r = none → H' r = some (.lst zs) → 1 ≤ zs.length → zs.length ≤ 10 → (∀ z ∈ zs, K0 K H' z) → Q (.ref r) H') ∨
  ∃ a xs, vs = [.ref a] ∧ SqT K H a xs ∧ (∀ y ∈ xs, Ei y) ∧ xs ≠ [] ∧ xs.length ≤ 100 ∧ outOdd K T H Q)
theorem ok_odd {T : Addr} (F : FnP K "_law_odd" sOdd f fd) (B : Bi mg) : FnOk P w K mg base CX0 1 f fd ["_law_thing"] (spOdd K T) := by
  refine F.ok scOdd (fun vs H Q E h => ?_) (fun cdv A outer s H vs Q E hr h => ⟨_, PSs.nox (
    pss_cons (ps_if (pt_val (pe_callB call_isi (by rfl) B.isi (by decide +kernel) (pa_cons (pv 0) (pa_cons (pe_bltn (by rfl) B.bool (by decide +kernel) (v := .ty "bool") rfl) pa_nil)))) (pss_one (ps_ret (pe_lst (pa_cons pe_int (pa_cons pe_non (pa_cons pe_int pa_nil)))))) pss_nil)
    (pss_cons (ps_if (pt_val (pe_callB call_isi (by rfl) B.isi (by decide +kernel) (pa_cons (pv 0) (pa_cons (pe_bltn (by rfl) B.int (by decide +kernel) (v := .ty "int") rfl) pa_nil))))
      (pss_one (ps_ret (pe_lst (pa_cons (pe_op op_add (pv 0) pe_int) (pa_cons (pe_op op_sub (pv 0) pe_int) (pa_cons (pe_cmpR op_eq (pv 0) pe_int (nomark _)) (pa_cons pe_non (pa_cons (pe_op op_sub pe_int (pv 0)) (pa_cons (pe_callTy call_str_int (by rfl) B.str (by decide +kernel) (pa_cons (pv 0) pa_nil)) (pa_cons (pe_tup (pa_cons (pv 0) pa_nil)) (pa_cons pe_int pa_nil))))))))))) pss_nil)
    (pss_cons (ps_if (pt_val (pe_callB call_isi (by rfl) B.isi (by decide +kernel) (pa_cons (pv 0) (pa_cons (pe_bltn (by rfl) B.tuple (by decide +kernel) (v := .ty "tuple") rfl) pa_nil))))
      (pss_cons (ps_set (i := 1) scOdd.nd rfl (.inl rfl) (pe_lst (pa_cons (pe_callTy call_list_of (by rfl) B.list (by decide +kernel) (pa_cons (pv 0) pa_nil)) (pa_cons (pe_slice sl_tupA (pv 0) po_none (po_some (pe_un un_neg pe_int))) (pa_cons (pe_revT (pv 0))
          (pa_cons (pe_op op_catA (pv 0) (pe_slice sl_tupA (pv 0) po_none (po_some pe_int))) (pa_cons (pe_op op_catA (pv 0) (pe_slice sl_tupA (pv 0) (po_some (pe_un un_neg pe_int)) po_none)) pa_nil)))))))
        (pss_one (ps_ret (pe_op op_cat (pv 1) (pe_lst (pa_cons (pe_op op_catA (pv 0) (pe_tup (pa_cons pe_int pa_nil))) (pa_cons (pe_tup pa_nil) (pa_cons pe_non (pa_cons (pe_tup (pa_cons (pv 0) pa_nil)) (pa_cons (pe_slice sl_tupA (pv 0) (po_some pe_int) po_none) pa_nil)))))))))) pss_nil)
    (pss_one (ps_ret (pe_lst (pa_cons pe_str (pa_cons pe_str (pa_cons pe_str (pa_cons pe_str (pa_cons pe_str (pa_cons pe_non (pa_cons pe_int (pa_cons pe_str pa_nil)))))))))))))), ?_⟩)
  · obtain ⟨_, ⟨i, rfl, _⟩ | ⟨a, xs, rfl, _⟩⟩ := h <;> rfl
  · obtain ⟨tH, ⟨i, rfl, hi1, hi2, q⟩ | ⟨a, xs, rfl, hS, hE, hne, hlen, q⟩⟩ := h
    · refine ⟨_, rfl, _, _, _, _, _, rfl, .ty "bool", .base (.int i), kit_bi, _, rfl, iteF ?_⟩
      refine ⟨_, rfl, _, _, _, _, _, rfl, .ty "int", .base (.int i), kit_ii, _, rfl, iteT ?_⟩
      refine ⟨_, rfl, _, _, rfl, rfl, _, rfl, _, _, rfl, rfl, _, rfl, rfl, _, rfl, _, _, rfl, rfl, _, rfl, _, rfl, log_small hi1 hi2, _, rfl, (by show 1 ≤ sizeLine; decide), fun p hp => ?_⟩
      have e1 : Ex T H (upd H p (.tup [.int i])) := Ex.new tH hp
      refine ⟨(by show 8 ≤ sizeLine; decide), fun r hr' => ?_⟩
      have hr0 : H r = none := by
        by_cases z : r = p
        · rw [z]; exact hp
        · rw [upd_ne z] at hr'; exact hr'
      refine q _ r _ (e1.trans (Ex.new e1.tab hr')) hr0 upd_same (by show 1 ≤ 8; decide) (by show 8 ≤ 10; decide) (fun z hz => ?_)
      have ht : ∀ o, SqT K (upd (upd H p (.tup [.int i])) r o) p [.int i] := fun o => (Ex.new (o := o) e1.tab hr').sqt e1.tab (.inl (.inl upd_same))
      simp only [List.mem_cons, List.not_mem_nil, or_false] at hz
      rcases hz with rfl | rfl | rfl | rfl | rfl | rfl | rfl | rfl
      · exact .int _
      · exact .int _
      · exact .bl _
      · exact .non
      · exact .int _
      · exact .str _
      · exact .tup (ht _)
      · exact .int _
    · refine ⟨_, rfl, _, _, _, _, _, rfl, .ty "bool", ty_tup hS, kit_tb, _, rfl, iteF ?_⟩
      refine ⟨_, rfl, _, _, _, _, _, rfl, .ty "int", ty_tup hS, kit_ti, _, rfl, iteF ?_⟩
      refine ⟨_, rfl, _, _, _, _, _, rfl, .ty "tuple", ty_tup hS, tup_tuple, _, rfl, iteT ?_⟩
      -- list(thing)
      refine ⟨.ref a, rfl, a, xs, rfl, .inr hS, fun l hl => ?_⟩
      have e1 : Ex T H (upd H l (.lst xs)) := Ex.new tH hl
      have D1 : ∀ z ∈ [V.ref l], T1 K H (upd H l (.lst xs)) z := fun z hz => by
        rw [List.mem_singleton] at hz
        rw [hz]
        exact .inr ⟨l, xs, rfl, upd_same, hl⟩
      generalize upd H l (.lst xs) = H1 at e1 D1
      have t1 := e1.tab
      have S1 := e1.sqt tH hS
      -- thing[:-1]
      refine ⟨.ref a, rfl, 1, rfl, -1, rfl, slAny t1 S1 (fun H2 c2 y2 e2 c2S m2 n2 => ?_)⟩
      have D2 := D_step D1 t1 e2 (.inl (t0_of c2S fun y hy => hE y (m2 y hy)))
      have t2 := e2.tab
      have S2 := e2.sqt t1 S1
      -- thing[::-1]
      refine ⟨.ref a, rfl, a, xs, rfl, S2, fun c3 h3 => ?_⟩
      have e3 : Ex T H2 (upd H2 c3 (.tup xs.reverse)) := Ex.new t2 h3
      have D3 := D_step D2 t2 e3 (.inl (t0_of (c := c3) (ys := xs.reverse) (.inl (.inl upd_same)) fun y hy => hE y (List.mem_reverse.mp hy)))
      generalize upd H2 c3 (.tup xs.reverse) = H3 at e3 D3
      have t3 := e3.tab
      have S3 := e3.sqt t2 S2
      -- thing + thing[:1]
      refine ⟨.ref a, rfl, .ref a, rfl, 1, rfl, slAny t3 S3 (fun H4 c4 y4 e4 c4S m4 n4 => catAny e4.tab (e4.sqt t3 S3) c4S (by omega) (fun H5 c5 e5 c5S => ?_))⟩
      have D5 := D_step D3 t3 (e4.trans e5) (.inl (t0_of c5S fun y hy => (List.mem_append.mp hy).elim (hE y) fun z => hE y (m4 y z)))
      have t5 := e5.tab
      have S5 := (e4.trans e5).sqt t3 S3
      -- thing + thing[-1:]
      refine ⟨.ref a, rfl, .ref a, rfl, 1, rfl, -1, rfl, ?_⟩
      dsimp only [tNoPart]
      refine slAny t5 S5 (fun H6 c6 y6 e6 c6S m6 n6 => catAny e6.tab (e6.sqt t5 S5) c6S (by omega) (fun H7 c7 e7 c7S => ?_))
      have D7 := D_step D5 t5 (e6.trans e7) (.inl (t0_of c7S fun y hy => (List.mem_append.mp hy).elim (hE y) fun z => hE y (m6 y z)))
      have t7 := e7.tab
      have S7 := (e6.trans e7).sqt t5 S5
      have E7 : Ex T H H7 := e1.trans (e2.trans (e3.trans ((e4.trans e5).trans (e6.trans e7))))
      refine ⟨(by show 5 ≤ sizeLine; decide), fun r1 hr1 => ?_⟩
      have hr10 : H r1 = none := E7.free hr1 tH
      have e8 : Ex T H7 (upd H7 r1 (.lst [.ref l, .ref c2, .ref c3, .ref c5, .ref c7])) := Ex.new t7 hr1
      have D8 := D_more D7 t7 e8
      have g8 : (upd H7 r1 (.lst [.ref l, .ref c2, .ref c3, .ref c5, .ref c7])) r1 = some (.lst [.ref l, .ref c2, .ref c3, .ref c5, .ref c7]) := upd_same
      generalize upd H7 r1 (.lst [.ref l, .ref c2, .ref c3, .ref c5, .ref c7]) = H8 at e8 D8 g8
      have t8 := e8.tab
      have S8 := e8.sqt t7 S7
      -- some + [thing + (1,), (), None, (thing,), thing[1:]]
      refine ⟨.ref r1, rfl, .ref a, rfl, (by show 1 ≤ sizeLine; decide), fun p9 h9 => ?_⟩
      have e9 : Ex T H8 (upd H8 p9 (.tup [.int 1])) := Ex.new t8 h9
      have S9p : SqT K (upd H8 p9 (.tup [.int 1])) p9 [.int 1] := .inl (.inl upd_same)
      refine catAny e9.tab (e9.sqt t8 S8) S9p (by show xs.length + 1 ≤ 1000; omega) (fun H10 c10 e10 c10S => ?_)
      have D10 := D_step D8 t8 (e9.trans e10) (.inl (t0_of c10S fun y hy => (List.mem_append.mp hy).elim (hE y) fun z => by
        rw [List.mem_singleton] at z
        exact ⟨1, z, by decide, by decide⟩))
      have t10 := e10.tab
      refine ⟨(by show 0 ≤ sizeLine; decide), fun p11 h11 => ?_⟩
      have e11 : Ex T H10 (upd H10 p11 (.tup [])) := Ex.new t10 h11
      have D11 := D_step D10 t10 e11 (.inl (t0_of (c := p11) (ys := []) (.inl (.inl upd_same)) fun y hy => by cases hy))
      have D11' := D_step D11 e11.tab (Ex.refl e11.tab) (.inl (.inl (show flat .non from trivial)))
      generalize upd H10 p11 (.tup []) = H11 at e11 D11'
      have t11 := e11.tab
      have S11 := ((e9.trans e10).trans e11).sqt t8 S8
      refine ⟨.ref a, rfl, (by show 1 ≤ sizeLine; decide), fun p12 h12 => ?_⟩
      have e12 : Ex T H11 (upd H11 p12 (.tup [.ref a])) := Ex.new t11 h12
      have D12 := D_step D11' t11 e12 (.inl (.inr ⟨p12, [.ref a], rfl, .inl (.inl upd_same), fun y hy => by
        rw [List.mem_singleton] at hy
        rw [hy]
        exact .tup (e12.sqt t11 S11)⟩))
      generalize upd H11 p12 (.tup [.ref a]) = H12 at e12 D12
      have t12 := e12.tab
      have S12 := e12.sqt t11 S11
      refine ⟨.ref a, rfl, 1, rfl, ?_⟩
      dsimp only [tNoPart]
      refine slAny t12 S12 (fun H13 c13 y13 e13 c13S m13 n13 => ?_)
      have D13 := D_step D12 t12 e13 (.inl (t0_of c13S fun y hy => hE y (m13 y hy)))
      have t13 := e13.tab
      have E13 : Ex T H8 H13 := ((e9.trans e10).trans e11).trans (e12.trans e13)
      refine ⟨(by show 5 ≤ sizeLine; decide), fun r2 hr2 => ?_⟩
      have e14 : Ex T H13 (upd H13 r2 (.lst [.ref c10, .ref p11, .non, .ref p12, .ref c13])) := Ex.new t13 hr2
      have D14 := D_more D13 t13 e14
      have g14 : (upd H13 r2 (.lst [.ref c10, .ref p11, .non, .ref p12, .ref c13])) r2 = some (.lst [.ref c10, .ref p11, .non, .ref p12, .ref c13]) := upd_same
      generalize upd H13 r2 (.lst [.ref c10, .ref p11, .non, .ref p12, .ref c13]) = H14 at e14 D14 g14
      have E14 : Ex T H8 H14 := E13.trans e14
      refine ⟨r1, r2, _, _, rfl, rfl, E14.keep _ _ g8 (tab_ne t8 g8 fun _ z => by cases z), g14, (by show 10 ≤ sizeLine; decide), fun r hr2 => ?_⟩
      have E : Ex T H H14 := (E7.trans e8).trans E14
      have e15 : Ex T H14 (upd H14 r (.lst ([.ref l, .ref c2, .ref c3, .ref c5, .ref c7] ++ [.ref c10, .ref p11, .non, .ref p12, .ref c13]))) := Ex.new E.tab hr2
      exact q _ r _ (E.trans e15) (E.free hr2 tH) upd_same (by show 1 ≤ 10; decide) (by show 10 ≤ 10; decide) (D_more D14 e14.tab e15)
end
end K01

namespace K01
open PySem PySem.Spec PyProof.Rows L2 GX
theorem scBent : FnScope ["_law_feed_here", "_law_thing", "_law_at", "_law_some"] ["_law_feed_here", "_law_thing"] (defScope sBent) := ⟨rfl, rfl, rfl, by decide +kernel, rfl, by decide +kernel, by decide +kernel⟩
theorem at_mem {zs : List V} {k : Int} (h0 : 0 ≤ k) (h1 : k < (zs.length : Int)) : ∃ z, z ∈ zs ∧ atI zs k = some z := by
  obtain ⟨j, rfl⟩ : ∃ j : Nat, k = (j : Int) := ⟨k.toNat, by omega⟩
  have hk : j < zs.length := by omega
  exact ⟨zs[j], List.getElem_mem hk, atI_nat (List.getElem?_eq_getElem hk)⟩
section
variable {P : Program} {w : World} {K : PySem.W.Frag} {mg : Str → Option Value} {base : Heap} {f fT fO : Addr} {fd fdT fdO : FuncData}
def spBentI (K : PySem.W.Frag) (T : Addr) : Sp := fun vs H Q _ => ∃ (g a : Addr) (i : Int) (ns : List Int), vs = [.ref g, .int i] ∧ -1000 ≤ i ∧ i ≤ 1000 ∧ GxR.TabG H T ∧ Fd K g a ns H ∧ ∀ H' z, GxR.TabG H' T → Fd K g a ns H' → Mv H H' → K0 K H' z → Q z H'
def spBentT (K : PySem.W.Frag) (T : Addr) : Sp := fun vs H Q _ => ∃ (g a b : Addr) (xs : List V) (ns : List Int), vs = [.ref g, .ref b] ∧ SqT K H b xs ∧ (∀ y ∈ xs, Ei y) ∧ xs ≠ [] ∧ xs.length ≤ 100 ∧ GxR.TabG H T ∧ Fd K g a ns H ∧ ∀ H' z, GxR.TabG H' T → Fd K g a ns H' → Mv H H' → Th K H' z → Q z H'
def spNo : Sp := fun _ _ _ _ => False
theorem ok_no {ps : List Str} : FnOk P w K mg base CX0 0 f fd ps spNo := ⟨fun _ _ _ _ h => h.elim, fun _ _ _ _ _ _ _ _ _ _ _ _ _ h => h.elim⟩
/-- the body over a promise spG for its own call -/
theorem ok_bent {T : Addr} {n : Nat} {spG sp : Sp} (F : FnP K "_law_bent" sBent f fd) (gF : mg "_law_bent" = some (.ref f)) (G : FnOk P w K mg base CX0 n f fd ["_law_feed_here", "_law_thing"] spG) (hn : 1 ≤ n)
    (FT : FnP K "_law_take" sTake fT fdT) (gT : mg "_law_take" = some (.ref fT)) (FO : FnP K "_law_odd" sOdd fO fdO) (gO : mg "_law_odd" = some (.ref fO)) (B : Bi mg)
    (hsp : ∀ vs H Q E, sp vs H Q E → spBentI K T vs H Q E ∨ (spBentT K T vs H Q E ∧ spG = spBentI K T)) :
    FnOk P w K mg base CX0 (n + 1) f fd ["_law_feed_here", "_law_thing"] sp := by
  have GT : FnOk P w K mg base CX0 1 fT fdT ["_law_feed_here", "_law_many"] (spTake K) := ok_take FT B
  have bT : Binds K fdT ["_law_feed_here", "_law_many"] [] := FT.bindsN fun _ _ _ _ _ _ us hl => match us, hl with | [_, _], _ => rfl
  have GO : FnOk P w K mg base CX0 1 fO fdO ["_law_thing"] (spOdd K T) := ok_odd FO B
  have bO : Binds K fdO ["_law_thing"] [] := FO.bindsN fun _ _ _ _ _ _ us hl => match us, hl with | [_], _ => rfl
  have bF : Binds K fd ["_law_feed_here", "_law_thing"] [] := F.bindsN fun _ _ _ _ _ _ us hl => match us, hl with | [_, _], _ => rfl
  refine F.ok scBent (fun vs H Q E h => ?_) (fun cdv A outer s H vs Q E hr h => ⟨_, PSs.nox (
    pss_cons (ps_if (PW.pt (pw_and (pt_val (pe_callB call_isi (by rfl) B.isi (by decide +kernel) (pa_cons (pv 1) (pa_cons (pe_bltn (by rfl) B.tuple (by decide +kernel) (v := .ty "tuple") rfl) pa_nil))))
        (pw_and (pt_cmpR op_gt (pe_callB call_len_seq (by rfl) B.len PySem.boot_len (pa_cons (pv 1) pa_nil)) pe_int (nomark _)) (pw_and1 (pt_cmpR op_gt (pe_call GT (hr.mono hn) rfl gT FT.kp bT .nil pass0 (pa_cons (pv 0) (pa_cons pe_int pa_nil))) pe_int (nomark _))))))
      (pss_cons (ps_set (i := 2) scBent.nd rfl (.inl rfl) (pe_call GT (hr.mono hn) rfl gT FT.kp bT .nil pass0 (pa_cons (pv 0) (pa_cons (pe_callB call_len_seq (by rfl) B.len PySem.boot_len (pa_cons (pv 1) pa_nil)) pa_nil))))
        (pss_one (ps_ret (pe_op op_catA (pe_op op_catA (pe_slice sl_tupA (pv 1) po_none (po_some (pv 2))) (pe_tup (pa_cons (pe_call G hr rfl gF F.kp bF .nil pass0 (pa_cons (pv 0) (pa_cons (pe_ix ix_tup (pv 1) (pv 2) (fun _ _ => rfl)) pa_nil))) pa_nil))) (pe_slice sl_tupA (pv 1) (po_some (pe_op op_add (pv 2) pe_int)) po_none))))) pss_nil)
    (pss_cons (ps_set (i := 3) scBent.nd rfl (.inl rfl) (pe_call GO (hr.mono hn) rfl gO FO.kp bO .nil pass0 (pa_cons (pv 1) pa_nil)))
    (pss_one (ps_ret (pe_ix ix_list (pv 3) (pe_call GT (hr.mono hn) rfl gT FT.kp bT .nil pass0 (pa_cons (pv 0) (pa_cons (pe_callB call_len_seq (by rfl) B.len PySem.boot_len (pa_cons (pv 3) pa_nil)) pa_nil))) (fun _ _ => rfl)))))), ?_⟩)
  · rcases hsp vs H Q E h with ⟨g, a, i, ns, rfl, _⟩ | ⟨⟨g, a, b, xs, ns, rfl, _⟩, _⟩ <;> rfl
  · rcases hsp vs H Q E h with ⟨g, a, i, ns, rfl, hi1, hi2, tH, hF, q⟩ | ⟨⟨g, a, b, xs, ns, rfl, hS, hE, hne, hlen, tH, hF, q⟩, hG⟩
    · refine ⟨_, rfl, _, _, _, _, _, rfl, .ty "tuple", .base (.int i), kit_it, _, rfl, iteF ?_⟩
      refine iteF ⟨_, rfl, tH, .inl ⟨i, rfl, hi1, hi2, fun H1 r zs e1 hr0 hr1 n1 n2 hK => ?_⟩⟩
      obtain ⟨p0, q0, t0, hg, _⟩ := id hF.at_
      have F1 := hF.ex tH e1
      obtain ⟨p1, q1, t1, hg1, _⟩ := id F1.at_
      have ngr : r ≠ g := (ne_of_none hg hr0).symm
      refine ⟨.ref r, rfl, .ref g, rfl, .ref r, rfl, r, zs, rfl, .inl (.inl (.inl hr1)), g, a, _, ns, rfl, by omega, by omega, F1, fun k p' q' t' h1 h2 h3 h4 h5 => ?_⟩
      obtain ⟨z, hz, ez⟩ := at_mem (zs := zs) h1 h2
      refine ⟨r, zs, k, z, rfl, rfl, .inl (.inl (by rw [upd_ne ngr]; exact hr1)), ez, ?_⟩
      exact q _ z (tab_put e1.tab hg1) (F1.put h3 h4 h5) ((e1.mv tH).trans (Mv.put hg1)) ((Mv.put hg1).k0 (hK z hz))
    · subst hG
      obtain ⟨p0, q0, t0, hg, _⟩ := id hF.at_
      have hlp : (0 : Int) < (xs.length : Int) := by
        cases xs with
        | nil => exact absurd rfl hne
        | cons x r => rw [List.length_cons]; omega
      refine ⟨_, rfl, _, _, _, _, _, rfl, .ty "tuple", ty_tup hS, tup_tuple, _, rfl, iteT ?_⟩
      refine ⟨.ref b, rfl, b, xs, rfl, .inr hS, _, _, rfl, rfl, _, rfl, ?_⟩
      rw [decide_eq_true hlp]
      refine iteT ⟨.ref g, rfl, g, a, 6, ns, rfl, by decide, by decide, hF, fun k p1 q1 t1 h1 h2 h3 h4 h5 => ?_⟩
      have F1 := hF.put h3 h4 h5
      have tb1 : GxR.TabG (upd H g (fd4 a p1 q1 t1)) T := tab_put tH hg
      have m1 : Mv H (upd H g (fd4 a p1 q1 t1)) := Mv.put hg
      have g1 : (upd H g (fd4 a p1 q1 t1)) g = some (fd4 a p1 q1 t1) := upd_same
      generalize upd H g (fd4 a p1 q1 t1) = H1 at F1 tb1 m1 g1
      have S1 := m1.sqt hS
      refine ⟨_, _, rfl, rfl, _, rfl, ?_⟩
      refine ite2 (fun c => ?_) (fun c => ?_)
      · -- at = take(feed, len(thing))
        refine ⟨.ref g, rfl, .ref b, rfl, b, xs, rfl, .inr S1, g, a, _, ns, rfl, by omega, by omega, F1, fun at_ p2 q2 t2 i1 i2 i3 i4 i5 => ?_⟩
        have F2 := F1.put i3 i4 i5
        have tb2 : GxR.TabG (upd H1 g (fd4 a p2 q2 t2)) T := tab_put tb1 g1
        have m2 : Mv H1 (upd H1 g (fd4 a p2 q2 t2)) := Mv.put g1
        generalize upd H1 g (fd4 a p2 q2 t2) = H2 at F2 tb2 m2
        have S2 := m2.sqt S1
        obtain ⟨y, hy, ey⟩ := at_mem (zs := xs) i1 i2
        obtain ⟨i, rfl, hi1, hi2⟩ := hE y hy
        -- thing[:at]
        refine ⟨.ref b, rfl, .int at_, rfl, at_, rfl, slAny tb2 S2 (fun H3 c3 y3 e3 c3S m3 n3 => ?_)⟩
        have S3 := e3.sqt tb2 S2
        have F3 := F2.ex tb2 e3
        -- (bent(feed, thing[at]),)
        refine ⟨.ref g, rfl, .ref b, rfl, .int at_, rfl, b, xs, at_, _, rfl, rfl, S3, ey, g, a, i, ns, rfl, hi1, hi2, e3.tab, F3, fun H4 z tb4 F4 m4 hz => ?_⟩
        refine ⟨(by show 1 ≤ sizeLine; decide), fun p5 h5 => ?_⟩
        have e5 : Ex T H4 (upd H4 p5 (.tup [z])) := Ex.new tb4 h5
        have z5 : K0 K (upd H4 p5 (.tup [z])) z := (e5.mv tb4).k0 hz
        have S5p : SqT K (upd H4 p5 (.tup [z])) p5 [z] := .inl (.inl upd_same)
        generalize upd H4 p5 (.tup [z]) = H5 at e5 z5 S5p
        have m45 : Mv H3 H5 := m4.trans (e5.mv tb4)
        refine catAny e5.tab (m45.sqt c3S) S5p (by show y3.length + 1 ≤ 1000; omega) (fun H6 c6 e6 c6S => ?_)
        have S6 : SqT K H6 b xs := e6.sqt e5.tab (m45.sqt S3)
        -- thing[at + 1:]
        refine ⟨.ref b, rfl, .int at_, rfl, at_, 1, rfl, rfl, _, rfl, ?_⟩
        dsimp only [tNoPart]
        refine slAny e6.tab S6 (fun H7 c7 y7 e7 c7S m7 n7 => ?_)
        refine catAny e7.tab (e7.sqt e6.tab c6S) c7S (by rw [List.length_append]; show y3.length + 1 + y7.length ≤ 1000; omega) (fun H8 c8 e8 c8S => ?_)
        have E58 : Ex T H5 H8 := e6.trans (e7.trans e8)
        have F5 : Fd K g a ns H5 := F4.ex tb4 e5
        refine q H8 _ E58.tab (F5.ex e5.tab E58) (m1.trans (m2.trans ((e3.mv tb2).trans (m45.trans (E58.mv e5.tab))))) (T0.th (.inr ⟨c8, _, rfl, c8S, fun y hy => ?_⟩))
        rcases List.mem_append.mp hy with h | h
        · rcases List.mem_append.mp h with h | h
          · exact ei_k0 (hE y (m3 y h))
          · rw [List.mem_singleton] at h
            rw [h]
            exact (E58.mv e5.tab).k0 z5
        · exact ei_k0 (hE y (m7 y h))
      · -- some = odd(thing)
        refine ⟨.ref b, rfl, tb1, .inr ⟨b, xs, rfl, S1, hE, hne, hlen, fun H2 r zs e2 hr0 hr1 n1 n2 hK => ?_⟩⟩
        have F2 := F1.ex tb1 e2
        obtain ⟨p2, q2, t2, hg2, _⟩ := id F2.at_
        have ngr : r ≠ g := (ne_of_none g1 hr0).symm
        refine ⟨.ref r, rfl, .ref g, rfl, .ref r, rfl, r, zs, rfl, .inl (.inl (.inl hr1)), g, a, _, ns, rfl, by omega, by omega, F2, fun k p' q' t' h1 h2 h3 h4 h5 => ?_⟩
        obtain ⟨z, hz, ez⟩ := at_mem (zs := zs) h1 h2
        refine ⟨r, zs, k, z, rfl, rfl, .inl (.inl (by rw [upd_ne ngr]; exact hr1)), ez, ?_⟩
        exact q _ z (tab_put e2.tab hg2) (F2.put h3 h4 h5) (m1.trans ((e2.mv tb1).trans (Mv.put hg2))) ((hK z hz).put g1 hg2).th
end
end K01

namespace K01
open PySem PySem.Spec PyProof.Rows L2 GX
abbrev lawN : List Str := ["_law_script", "_law_feed_here", "_law_odd_here", "_law_one", "_law_turn", "_law_seat", "_law_k", "_law_thing"]
theorem scLaw : FnScope lawN ["_law_script"] (defScope sLaw) := ⟨rfl, rfl, rfl, by decide +kernel, rfl, by decide +kernel, by decide +kernel⟩
abbrev rRep : List V → Hp → VK → Prop := fun xs H Q => ∃ b, xs = [.bl b] ∧ Q (.str (if b then "True" else "False")) H
/-- repr(is_seat(x)) != repr(_law_is_seat(x)), x in slot i -/
def cmpT (K : PySem.W.Frag) (T : Addr) (i : Nat) : TT := tTest (tOp rNe (tCB rRep (tCons (tCall (spSeat K T) [] E0 (tCons (tVar i) tNil)) tNil)) (tCB rRep (tCons (tCall (spSeat K T) [] E0 (tCons (tVar i) tNil)) tNil)))
theorem cmp_ok {K : PySem.W.Frag} {T : Addr} {i : Nat} {z : V} {σ : L2.St} {H : Hp} {R : Bool → Hp → Prop} (hz : Th K H z) (t : GxR.TabG H T) (hi : σ[i]? = some (some z)) (h : ∀ H', Ex T H H' → R false H') : cmpT K T i σ H R := by
  have fin : ∀ (b : Bool) (H' : Hp), Ex T H H' → ∃ k, V.bl (!decide (V.str (if b then "True" else "False") = V.str (if b then "True" else "False"))) = .bl k ∧ R k H' := fun b H' e => ⟨_, rfl, by
    rw [decide_eq_true rfl]
    exact h H' e⟩
  rcases hz with ⟨a, xs, rfl, hS, hK⟩ | hz
  · refine ⟨_, hi, t, .inl ⟨a, xs, rfl, hS, hK, fun H1 e1 => ⟨_, rfl, _, hi, e1.tab, .inl ⟨a, xs, rfl, e1.sqt t hS, fun y hy => e1.kn t (hK y hy), fun H2 e2 => ⟨_, rfl, rfl, ?_⟩⟩⟩⟩⟩
    exact fin _ H2 (e1.trans e2)
  · refine ⟨_, hi, t, .inr ⟨z, rfl, hz, ⟨_, rfl, _, hi, t, .inr ⟨z, rfl, hz, ⟨_, rfl, rfl, ?_⟩⟩⟩⟩⟩
    exact fin _ H (Ex.refl t)
section
variable {K : PySem.W.Frag} {T c p : Addr} {H H' : Hp} {zs ys : List V} {z : V}
theorem N_step (D : ∀ z ∈ zs, Th K H z) (t : GxR.TabG H T) (e : Ex T H H') {y : V} (hy : Th K H' y) : ∀ z ∈ zs ++ [y], Th K H' z := fun z hz => by
  rcases List.mem_append.mp hz with h | h
  · exact e.th t (D z h)
  · rw [List.mem_singleton] at h
    rw [h]
    exact hy
theorem N_tup (D : ∀ z ∈ zs, Th K H z) (t : GxR.TabG H T) (hp : H p = none) (hy : ∀ y ∈ ys, Kn K (upd H p (.tup ys)) y) : ∀ z ∈ zs ++ [.ref p], Th K (upd H p (.tup ys)) z :=
  N_step D t (Ex.new t hp) (.inl ⟨p, ys, rfl, .inl (.inl upd_same), hy⟩)
theorem kn_flat {y : V} (h : flat y) : Kn K H y := by
  cases y <;> first | exact .non | exact .bl _ | exact .int _ | exact .str _ | exact False.elim h
end
structure Nn (K : PySem.W.Frag) (T : Addr) (H0 H : Hp) (zs : List V) : Prop where
  t0 : GxR.TabG H0 T
  ex : Ex T H0 H
  th : ∀ z ∈ zs, Th K H z
section
variable {K : PySem.W.Frag} {T p : Addr} {H0 H : Hp} {zs ys : List V} {z : V} {o : HO}
theorem Nn.tup (n : Nn K T H0 H zs) (hp : H p = none) (hy : ∀ y ∈ ys, flat y) : Nn K T H0 (upd H p (.tup ys)) (zs ++ [.ref p]) :=
  ⟨n.t0, n.ex.trans (Ex.new n.ex.tab hp), N_tup n.th n.ex.tab hp fun y h => kn_flat (hy y h)⟩
theorem Nn.lst (n : Nn K T H0 H zs) (hp : H p = none) : Nn K T H0 (upd H p (.lst ys)) (zs ++ [.ref p]) :=
  ⟨n.t0, n.ex.trans (Ex.new n.ex.tab hp), N_step n.th n.ex.tab (Ex.new n.ex.tab hp) (.inr (.lst (.inl (.inl upd_same))))⟩
theorem Nn.new (n : Nn K T H0 H zs) (hp : H p = none) : Nn K T H0 (upd H p o) zs :=
  ⟨n.t0, n.ex.trans (Ex.new n.ex.tab hp), fun z hz => (Ex.new n.ex.tab hp).th n.ex.tab (n.th z hz)⟩
theorem Nn.flat (n : Nn K T H0 H zs) (hz : flat z) : Nn K T H0 H (zs ++ [z]) :=
  ⟨n.t0, n.ex, N_step n.th n.ex.tab (Ex.refl n.ex.tab) (T0.th (.inl hz))⟩
theorem sql_new {g a : Addr} (h : SqL K H a zs) (hg : H g = none) : SqL K (upd H g o) a zs := by
  rcases h with (h | ⟨ob, h⟩) | h
  · exact .inl (.inl (by rw [upd_ne (ne_of_none h hg)]; exact h))
  · exact .inl (.inr ⟨ob, by rw [upd_ne (ne_of_none h hg)]; exact h⟩)
  · exact .inr h
end
section
variable {P : Program} {w : World} {K : PySem.W.Frag} {mg : Str → Option Value} {base : Heap} {f fF fT fS fL fB : Addr} {fd fdF fdT fdS fdL fdB : FuncData}
def spLaw (K : PySem.W.Frag) (T : Addr) : Sp := fun vs H Q _ => ∃ (a : Addr) (ns : List Int), vs = [.ref a] ∧ SqL K H a (ns.map V.int) ∧ GxR.TabG H T ∧ ∀ H', Q (.bl true) H'
theorem ok_law {T : Addr} (F : FnP K "law" sLaw f fd) (FF : FnP K "_law_feed" sFeed fF fdF) (gF : mg "_law_feed" = some (.ref fF)) (FT : FnP K "_law_take" sTake fT fdT) (gT : mg "_law_take" = some (.ref fT))
    (FS : FnP K "is_seat" sSeat fS fdS) (gS : mg "is_seat" = some (.ref fS)) (GS : FnOk P w K mg base CX0 4 fS fdS ["thing"] (spSeat K T))
    (FL : FnP K "_law_is_seat" sLSeat fL fdL) (gL : mg "_law_is_seat" = some (.ref fL)) (GL : FnOk P w K mg base CX0 2 fL fdL ["_law_thing"] (spSeat K T))
    (FB : FnP K "_law_bent" sBent fB fdB) (gB : mg "_law_bent" = some (.ref fB)) (GB : FnOk P w K mg base CX0 3 fB fdB ["_law_feed_here", "_law_thing"] (spBentT K T)) (B : Bi mg) :
    FnOk P w K mg base CX0 5 f fd ["_law_script"] (spLaw K T) := by
  have GF : FnOk P w K mg base CX0 1 fF fdF ["_law_script", "_law_at"] spFeed := ok_feed FF
  have bF : Binds K fdF ["_law_script", "_law_at"] [] := FF.bindsN fun _ _ _ _ _ _ us hl => match us, hl with | [_, _], _ => rfl
  have GT : FnOk P w K mg base CX0 1 fT fdT ["_law_feed_here", "_law_many"] (spTake K) := ok_take FT B
  have bT : Binds K fdT ["_law_feed_here", "_law_many"] [] := FT.bindsN fun _ _ _ _ _ _ us hl => match us, hl with | [_, _], _ => rfl
  have bS : Binds K fdS ["thing"] [] := FS.bindsN fun _ _ _ _ _ _ us hl => match us, hl with | [_], _ => rfl
  have bL : Binds K fdL ["_law_thing"] [] := FL.bindsN fun _ _ _ _ _ _ us hl => match us, hl with | [_], _ => rfl
  have bB : Binds K fdB ["_law_feed_here", "_law_thing"] [] := FB.bindsN fun _ _ _ _ _ _ us hl => match us, hl with | [_, _], _ => rfl
  refine F.ok scLaw (fun vs H Q E h => ?_) (fun cdv A outer s H vs Q E hr h => ⟨_, PSs.nox (
    pss_cons (ps_set (i := 1) scLaw.nd rfl (.inl rfl) (pe_call GF (hr.mono (by decide)) rfl gF FF.kp bF .nil pass0 (pa_cons (pv 0) (pa_cons pe_int pa_nil))))
    (pss_cons (ps_set (i := 2) scLaw.nd rfl (.inl rfl) (pe_lst (pa_cons (pe_tup pa_nil) (pa_cons (pe_tup (pa_cons pe_int pa_nil)) (pa_cons (pe_tup (pa_cons pe_int pa_nil)) (pa_cons (pe_tup (pa_cons pe_int (pa_cons pe_int pa_nil))) (pa_cons (pe_tup (pa_cons pe_int (pa_cons pe_int pa_nil)))
        (pa_cons (pe_tup (pa_cons pe_int (pa_cons pe_int pa_nil))) (pa_cons (pe_tup (pa_cons pe_int (pa_cons pe_int (pa_cons pe_int (pa_cons pe_int (pa_cons pe_int (pa_cons pe_int pa_nil))))))) (pa_cons (pe_lst (pa_cons pe_int pa_nil)) (pa_cons (pe_tup (pa_cons pe_bl pa_nil)) (pa_cons (pe_tup (pa_cons pe_int (pa_cons pe_bl pa_nil))) pa_nil))))))))))))
    (pss_cons (ps_set (i := 2) scLaw.nd rfl (.inl rfl) (pe_op op_cat (pv 2) (pe_lst (pa_cons pe_str (pa_cons pe_non (pa_cons pe_int (pa_cons (pe_tup (pa_cons (pe_tup (pa_cons pe_int pa_nil)) pa_nil)) pa_nil)))))))
    (pss_cons (ps_for PassesOwn.never rfl (pi_list (pv 2)) (pg_name (i := 3) scLaw.nd rfl (.inl rfl))
      (pss_one (ps_if (pt_cmpR op_ne (pe_callB call_repr_bl (by rfl) B.repr (by decide +kernel) (pa_cons (pe_call GS hr rfl gS FS.kp bS .nil pass0 (pa_cons (pv 3) pa_nil)) pa_nil)) (pe_callB call_repr_bl (by rfl) B.repr (by decide +kernel) (pa_cons (pe_call GL (hr.mono (by decide)) rfl gL FL.kp bL .nil pass0 (pa_cons (pv 3) pa_nil)) pa_nil)) (nomark _))
        (pss_one (ps_ret pe_bl)) pss_nil)))
    (pss_cons (ps_for PassesOwn.never rfl (pi_range1 rfl B.range (pa_cons pe_int pa_nil)) (pg_name (i := 4) scLaw.nd rfl (.inl rfl))
      (pss_cons (ps_set (i := 5) scLaw.nd rfl (.inl rfl) (pe_tup (pa_cons (pe_ix ix_list (pe_lst (pa_cons pe_int (pa_cons pe_int (pa_cons pe_int (pa_cons pe_int (pa_cons pe_int (pa_cons (pe_un un_neg pe_int) pa_nil))))))) (pe_call GT (hr.mono (by decide)) rfl gT FT.kp bT .nil pass0 (pa_cons (pv 1) (pa_cons pe_int pa_nil))) (fun _ _ => rfl)) pa_nil)))
      (pss_cons (ps_for PassesOwn.never rfl (pi_range1 rfl B.range (pa_cons (pe_call GT (hr.mono (by decide)) rfl gT FT.kp bT .nil pass0 (pa_cons (pv 1) (pa_cons pe_int pa_nil))) pa_nil)) (pg_name (i := 6) scLaw.nd rfl (.inl rfl))
        (pss_one (ps_set (i := 5) scLaw.nd rfl (.inl rfl) (pe_op op_catA (pv 5) (pe_tup (pa_cons (pe_ix ix_list (pe_lst (pa_cons pe_int (pa_cons pe_int (pa_cons pe_int (pa_cons pe_int (pa_cons pe_int (pa_cons pe_int pa_nil))))))) (pe_call GT (hr.mono (by decide)) rfl gT FT.kp bT .nil pass0 (pa_cons (pv 1) (pa_cons pe_int pa_nil))) (fun _ _ => rfl)) pa_nil))))))
      (pss_one (ps_for PassesOwn.never rfl (pi_tup (pe_tup (pa_cons (pv 5) (pa_cons (pe_call GB (hr.mono (by decide)) rfl gB FB.kp bB .nil pass0 (pa_cons (pv 1) (pa_cons (pv 5) pa_nil))) pa_nil)))) (pg_name (i := 7) scLaw.nd rfl (.inl rfl))
        (pss_one (ps_if (pt_cmpR op_ne (pe_callB call_repr_bl (by rfl) B.repr (by decide +kernel) (pa_cons (pe_call GS hr rfl gS FS.kp bS .nil pass0 (pa_cons (pv 7) pa_nil)) pa_nil)) (pe_callB call_repr_bl (by rfl) B.repr (by decide +kernel) (pa_cons (pe_call GL (hr.mono (by decide)) rfl gL FL.kp bL .nil pass0 (pa_cons (pv 7) pa_nil)) pa_nil)) (nomark _))
          (pss_one (ps_ret pe_bl)) pss_nil)))))))
    (pss_one (ps_ret pe_bl))))))), ?_⟩)
  · obtain ⟨a, ns, rfl, _⟩ := h
    rfl
  · obtain ⟨a, ns, rfl, hS, tH, q⟩ := h
    refine ⟨.ref a, rfl, a, rfl, fun g hg => ?_⟩
    have F0 : Fd K g a ns (upd H g (fd4 a 0 0 0)) := ⟨⟨0, 0, 0, upd_same, by decide, by decide, by decide⟩, fun o => by rw [upd_upd]; exact sql_new hS hg⟩
    have tb0 : GxR.TabG (upd H g (fd4 a 0 0 0)) T := (Ex.new tH hg).tab
    generalize upd H g (fd4 a 0 0 0) = H0 at F0 tb0
    have n0 : Nn K T H0 H0 [] := ⟨tb0, Ex.refl tb0, fun z hz => by cases hz⟩
    -- odd_here = [..]
    refine ⟨(by show 0 ≤ sizeLine; decide), fun p1 h1 => ?_⟩
    have n1 := n0.tup h1 (ys := []) (fun y hy => by cases hy)
    refine ⟨(by show 1 ≤ sizeLine; decide), fun p2 h2 => ?_⟩
    have n2 := n1.tup h2 (ys := [.int 4]) (by simp [flat])
    refine ⟨(by show 1 ≤ sizeLine; decide), fun p3 h3 => ?_⟩
    have n3 := n2.tup h3 (ys := [.int 3]) (by simp [flat])
    refine ⟨(by show 2 ≤ sizeLine; decide), fun p4 h4 => ?_⟩
    have n4 := n3.tup h4 (ys := [.int 0, .int 0]) (by simp [flat])
    refine ⟨(by show 2 ≤ sizeLine; decide), fun p5 h5 => ?_⟩
    have n5 := n4.tup h5 (ys := [.int 0, .int 100]) (by simp [flat])
    refine ⟨(by show 2 ≤ sizeLine; decide), fun p6 h6 => ?_⟩
    have n6 := n5.tup h6 (ys := [.int 3, .int 99]) (by simp [flat])
    refine ⟨(by show 6 ≤ sizeLine; decide), fun p7 h7 => ?_⟩
    have n7 := n6.tup h7 (ys := [.int 0, .int 1, .int 1, .int 1, .int 1, .int 1]) (by simp [flat])
    refine ⟨(by show 1 ≤ sizeLine; decide), fun p8 h8 => ?_⟩
    have n8 := n7.lst h8 (ys := [.int 0])
    refine ⟨(by show 1 ≤ sizeLine; decide), fun p9 h9 => ?_⟩
    have n9 := n8.tup h9 (ys := [.bl true]) (by simp [flat])
    refine ⟨(by show 2 ≤ sizeLine; decide), fun p10 h10 => ?_⟩
    have n10 := n9.tup h10 (ys := [.int 0, .bl true]) (by simp [flat])
    generalize upd (upd (upd (upd (upd (upd (upd (upd (upd (upd H0 p1 (.tup [])) p2 (.tup [.int 4])) p3 (.tup [.int 3])) p4 (.tup [.int 0, .int 0])) p5 (.tup [.int 0, .int 100])) p6 (.tup [.int 3, .int 99])) p7 (.tup [.int 0, .int 1, .int 1, .int 1, .int 1, .int 1])) p8 (.lst [.int 0])) p9 (.tup [.bl true])) p10 (.tup [.int 0, .bl true]) = H10 at n10
    refine ⟨(by show 10 ≤ sizeLine; decide), fun r1 hr1 => ?_⟩
    have n11 := (n10.new hr1 (o := .lst [.ref p1, .ref p2, .ref p3, .ref p4, .ref p5, .ref p6, .ref p7, .ref p8, .ref p9, .ref p10])).flat (z := .str "0") trivial |>.flat (z := .non) trivial |>.flat (z := .int 0) trivial
    have g11 : (upd H10 r1 (.lst [.ref p1, .ref p2, .ref p3, .ref p4, .ref p5, .ref p6, .ref p7, .ref p8, .ref p9, .ref p10])) r1 = some (.lst [.ref p1, .ref p2, .ref p3, .ref p4, .ref p5, .ref p6, .ref p7, .ref p8, .ref p9, .ref p10]) := upd_same
    generalize upd H10 r1 (.lst [.ref p1, .ref p2, .ref p3, .ref p4, .ref p5, .ref p6, .ref p7, .ref p8, .ref p9, .ref p10]) = H11 at n11 g11
    -- odd_here + ['0', None, 0, ((0,),)]
    refine ⟨.ref r1, rfl, (by show 1 ≤ sizeLine; decide), fun p12 h12 => (?_ : _ ∧ _)⟩
    refine ⟨(by show 1 ≤ sizeLine; decide), fun p13 h13 => ?_⟩
    have n12 := n11.new h12 (o := .tup [.int 0])
    have n13 : Nn K T H0 (upd (upd H11 p12 (.tup [.int 0])) p13 (.tup [.ref p12])) _ := ⟨n12.t0, n12.ex.trans (Ex.new n12.ex.tab h13), N_tup n12.th n12.ex.tab h13 (ys := [.ref p12]) fun y hy => by
      rw [List.mem_singleton] at hy
      rw [hy]
      exact .tup ((Ex.new n12.ex.tab h13).sqt n12.ex.tab (.inl (.inl upd_same)))⟩
    have g13 : (upd (upd H11 p12 (.tup [.int 0])) p13 (.tup [.ref p12])) r1 = some (.lst [.ref p1, .ref p2, .ref p3, .ref p4, .ref p5, .ref p6, .ref p7, .ref p8, .ref p9, .ref p10]) := by
      rw [upd_ne (ne_of_none (by rw [upd_ne (ne_of_none g11 h12)]; exact g11) h13), upd_ne (ne_of_none g11 h12)]
      exact g11
    generalize upd (upd H11 p12 (.tup [.int 0])) p13 (.tup [.ref p12]) = H13 at n13 g13
    refine ⟨(by show 4 ≤ sizeLine; decide), fun r2 hr2 => ?_⟩
    have n14 := n13.new hr2 (o := .lst [.str "0", .non, .int 0, .ref p13])
    have g14 : (upd H13 r2 (.lst [.str "0", .non, .int 0, .ref p13])) r2 = some (.lst [.str "0", .non, .int 0, .ref p13]) := upd_same
    have g14' : (upd H13 r2 (.lst [.str "0", .non, .int 0, .ref p13])) r1 = some (.lst [.ref p1, .ref p2, .ref p3, .ref p4, .ref p5, .ref p6, .ref p7, .ref p8, .ref p9, .ref p10]) := (upd_ne (ne_of_none g13 hr2)).trans g13
    generalize upd H13 r2 (.lst [.str "0", .non, .int 0, .ref p13]) = H14 at n14 g14 g14'
    refine ⟨r1, r2, _, _, rfl, rfl, g14', g14, (by show 14 ≤ sizeLine; decide), fun r3 hr3 => ?_⟩
    have n15 := n14.new hr3 (o := .lst ([.ref p1, .ref p2, .ref p3, .ref p4, .ref p5, .ref p6, .ref p7, .ref p8, .ref p9, .ref p10] ++ [.str "0", .non, .int 0, .ref p13]))
    have g15 : (upd H14 r3 (.lst ([.ref p1, .ref p2, .ref p3, .ref p4, .ref p5, .ref p6, .ref p7, .ref p8, .ref p9, .ref p10] ++ [.str "0", .non, .int 0, .ref p13]))) r3 = _ := upd_same
    generalize upd H14 r3 (.lst ([.ref p1, .ref p2, .ref p3, .ref p4, .ref p5, .ref p6, .ref p7, .ref p8, .ref p9, .ref p10] ++ [.str "0", .non, .int 0, .ref p13])) = H15 at n15 g15
    have F15 := F0.ex tb0 n15.ex
    have t15 := n15.ex.tab
    -- for one in odd_here
    refine ⟨.ref r3, rfl, r3, rfl, ⟨_, .inl (.inl g15)⟩, for_list (K := K) (a := r3) (fun i σ H' => (∃ y3, σ = [some (.ref a), some (.ref g), some (.ref r3), y3, none, none, none, none]) ∧ Ex T H15 H') ⟨⟨none, rfl⟩, Ex.refl t15⟩ (fun i σ H' _ h' => h'.2.sql t15 (.inl (.inl g15))) (fun i x σ H' hx h' => ?_) (fun σ H' h' => ?_)⟩
    · obtain ⟨⟨y3, rfl⟩, e⟩ := h'
      refine cmp_ok (i := 3) (z := x) (e.th t15 (n15.th x (List.mem_of_getElem? hx))) e.tab rfl (fun H2 e2 => iteF ?_)
      exact ⟨⟨_, rfl⟩, e.trans e2⟩
    · obtain ⟨⟨y3, rfl⟩, e⟩ := h'
      have F16 := F15.ex t15 e
      -- for turn in range(8)
      refine ⟨8, rfl, by decide, by decide, for_range (lo := 0) (n := 8) (fun i σ H' => (∃ y3 y4 y5 y6 y7, σ = [some (.ref a), some (.ref g), some (.ref r3), y3, y4, y5, y6, y7]) ∧ GxR.TabG H' T ∧ Fd K g a ns H') ⟨⟨y3, none, none, none, none, rfl⟩, e.tab, F16⟩ (fun i_ σ H1 hi h1 => ?_) (fun σ H' h' => q H')⟩
      obtain ⟨⟨y3, y4, y5, y6, y7, rfl⟩, t1, F1⟩ := h1
      -- seat = ([..][take(feed, 6)],)
      refine ⟨1, rfl, (by show 6 ≤ sizeLine; decide), fun l hl => ?_⟩
      have e2 : Ex T H1 (upd H1 l (.lst [.int 0, .int 3, .int 1, .int 2, .int 4, .int (-1)])) := Ex.new t1 hl
      have g2 : (upd H1 l (.lst [.int 0, .int 3, .int 1, .int 2, .int 4, .int (-1)])) l = some (.lst [.int 0, .int 3, .int 1, .int 2, .int 4, .int (-1)]) := upd_same
      generalize upd H1 l (.lst [.int 0, .int 3, .int 1, .int 2, .int 4, .int (-1)]) = H2 at e2 g2
      have F2 := F1.ex t1 e2
      obtain ⟨_, _, _, hg1, _⟩ := id F1.at_
      obtain ⟨_, _, _, hg2, _⟩ := id F2.at_
      have ngl : l ≠ g := (ne_of_none hg1 hl).symm
      refine ⟨.ref g, rfl, g, a, 6, ns, rfl, by decide, by decide, F2, fun k p2 q2 t2 i1 i2 i3 i4 i5 => ?_⟩
      obtain ⟨v, hv, ev⟩ := at_mem (zs := [.int 0, .int 3, .int 1, .int 2, .int 4, .int (-1)]) i1 i2
      have hEv : Ei v := by
        simp only [List.mem_cons, List.not_mem_nil, or_false] at hv
        rcases hv with rfl | rfl | rfl | rfl | rfl | rfl <;> exact ⟨_, rfl, by decide, by decide⟩
      have F3 := F2.put i3 i4 i5
      have t3 : GxR.TabG (upd H2 g (fd4 a p2 q2 t2)) T := tab_put e2.tab hg2
      have g3 : (upd H2 g (fd4 a p2 q2 t2)) l = some (.lst [.int 0, .int 3, .int 1, .int 2, .int 4, .int (-1)]) := (upd_ne ngl).trans g2
      generalize upd H2 g (fd4 a p2 q2 t2) = H3 at F3 t3 g3
      refine ⟨l, _, k, v, rfl, rfl, .inl (.inl g3), ev, (by show 1 ≤ sizeLine; decide), fun b hb => ?_⟩
      have e4 : Ex T H3 (upd H3 b (.tup [v])) := Ex.new t3 hb
      have S4 : SqT K (upd H3 b (.tup [v])) b [v] := .inl (.inl upd_same)
      generalize upd H3 b (.tup [v]) = H4 at e4 S4
      have F4 := F3.ex t3 e4
      have t4 := e4.tab
      -- for k in range(take(feed, 6))
      refine ⟨.ref g, rfl, g, a, 6, ns, rfl, by decide, by decide, F4, fun k5 p5 q5 t5 j1 j2 j3 j4 j5 => ?_⟩
      obtain ⟨_, _, _, hg4, _⟩ := id F4.at_
      have m5 : Mv H4 (upd H4 g (fd4 a p5 q5 t5)) := Mv.put hg4
      have F5 := F4.put j3 j4 j5
      have tb5 : GxR.TabG (upd H4 g (fd4 a p5 q5 t5)) T := tab_put t4 hg4
      generalize upd H4 g (fd4 a p5 q5 t5) = H5 at F5 tb5 m5
      refine ⟨k5, rfl, by omega, by omega, for_range (lo := 0) (n := k5.toNat) (fun i σ H' => (∃ b xs y6, σ = [some (.ref a), some (.ref g), some (.ref r3), y3, some (.int (0 + ↑i_)), some (.ref b), y6, y7] ∧ SqT K H' b xs ∧ (∀ y ∈ xs, Ei y) ∧ xs ≠ [] ∧ xs.length ≤ 1 + i) ∧ GxR.TabG H' T ∧ Fd K g a ns H') ?_ (fun i σ H6 hi6 h6 => ?_) (fun σ H6 h6 => ?_)⟩
      · exact ⟨⟨b, [v], y6, rfl, m5.sqt S4, fun y hy => by
          rw [List.mem_singleton] at hy
          rw [hy]
          exact hEv, by simp, by simp⟩, tb5, F5⟩
      · obtain ⟨⟨b6, xs, y6', rfl, S6, hE6, hne6, hl6⟩, t6, F6⟩ := h6
        refine ⟨.ref b6, rfl, (by show 6 ≤ sizeLine; decide), fun l7 hl7 => ?_⟩
        have e7 : Ex T H6 (upd H6 l7 (.lst [.int 1, .int 99, .int 2, .int 0, .int 100, .int 7])) := Ex.new t6 hl7
        have g7 : (upd H6 l7 (.lst [.int 1, .int 99, .int 2, .int 0, .int 100, .int 7])) l7 = some (.lst [.int 1, .int 99, .int 2, .int 0, .int 100, .int 7]) := upd_same
        generalize upd H6 l7 (.lst [.int 1, .int 99, .int 2, .int 0, .int 100, .int 7]) = H7 at e7 g7
        have F7 := F6.ex t6 e7
        obtain ⟨_, _, _, hg6, _⟩ := id F6.at_
        obtain ⟨_, _, _, hg7, _⟩ := id F7.at_
        have ngl7 : l7 ≠ g := (ne_of_none hg6 hl7).symm
        refine ⟨.ref g, rfl, g, a, 6, ns, rfl, by decide, by decide, F7, fun k8 p8 q8 t8 i1 i2 i3 i4 i5 => ?_⟩
        obtain ⟨v8, hv8, ev8⟩ := at_mem (zs := [.int 1, .int 99, .int 2, .int 0, .int 100, .int 7]) i1 i2
        have hEv8 : Ei v8 := by
          simp only [List.mem_cons, List.not_mem_nil, or_false] at hv8
          rcases hv8 with rfl | rfl | rfl | rfl | rfl | rfl <;> exact ⟨_, rfl, by decide, by decide⟩
        have F8 := F7.put i3 i4 i5
        have m8 : Mv H7 (upd H7 g (fd4 a p8 q8 t8)) := Mv.put hg7
        have tb8 : GxR.TabG (upd H7 g (fd4 a p8 q8 t8)) T := tab_put e7.tab hg7
        have g8 : (upd H7 g (fd4 a p8 q8 t8)) l7 = some (.lst [.int 1, .int 99, .int 2, .int 0, .int 100, .int 7]) := (upd_ne ngl7).trans g7
        generalize upd H7 g (fd4 a p8 q8 t8) = H8 at F8 tb8 g8 m8
        refine ⟨l7, _, k8, v8, rfl, rfl, .inl (.inl g8), ev8, (by show 1 ≤ sizeLine; decide), fun p9 h9 => ?_⟩
        have e9 : Ex T H8 (upd H8 p9 (.tup [v8])) := Ex.new tb8 h9
        have S9p : SqT K (upd H8 p9 (.tup [v8])) p9 [v8] := .inl (.inl upd_same)
        generalize upd H8 p9 (.tup [v8]) = H9 at e9 S9p
        have F9 := F8.ex tb8 e9
        have S9 : SqT K H9 b6 xs := e9.sqt tb8 (m8.sqt (e7.sqt t6 S6))
        refine catAny e9.tab S9 S9p (by show xs.length + 1 ≤ 1000; omega) (fun H10 c10 e10 c10S => ?_)
        refine ⟨⟨c10, _, _, rfl, c10S, fun y hy => ?_, by simp, ?_⟩, e10.tab, F9.ex e9.tab e10⟩
        · rcases List.mem_append.mp hy with h | h
          · exact hE6 y h
          · rw [List.mem_singleton] at h
            rw [h]
            exact hEv8
        · rw [List.length_append]
          show xs.length + 1 ≤ 1 + (i + 1)
          omega
      · obtain ⟨⟨b6, xs, y6', rfl, S6, hE6, hne6, hl6⟩, t6, F6⟩ := h6
        refine ⟨.ref b6, rfl, .ref g, rfl, .ref b6, rfl, g, a, b6, xs, ns, rfl, S6, hE6, hne6, by omega, t6, F6, fun H7 z t7 F7 m7 hz => ?_⟩
        refine ⟨(by show 2 ≤ sizeLine; decide), fun p8 h8 => ?_⟩
        have e8 : Ex T H7 (upd H7 p8 (.tup [.ref b6, z])) := Ex.new t7 h8
        have S8p : SqT K (upd H7 p8 (.tup [.ref b6, z])) p8 [.ref b6, z] := .inl (.inl upd_same)
        generalize upd H7 p8 (.tup [.ref b6, z]) = H8 at e8 S8p
        have t8 := e8.tab
        have F8 := F7.ex t7 e8
        have th1 : Th K H8 (.ref b6) := T0.th (.inr ⟨b6, xs, rfl, e8.sqt t7 (m7.sqt S6), fun y hy => ei_k0 (hE6 y hy)⟩)
        have th2 : Th K H8 z := e8.th t7 hz
        refine ⟨p8, rfl, ⟨_, S8p⟩, for_tup (K := K) (a := p8) (xs := [.ref b6, z]) (fun i σ H' => (∃ y7, σ = [some (.ref a), some (.ref g), some (.ref r3), y3, some (.int (0 + ↑i_)), some (.ref b6), y6', y7]) ∧ Ex T H8 H') ⟨⟨_, rfl⟩, Ex.refl t8⟩ (fun i σ H' _ h' => h'.2.sqt t8 S8p) (fun i x σ H' hx h' => ?_) (fun σ H' h' => ?_)⟩
        · obtain ⟨⟨y7', rfl⟩, e⟩ := h'
          have hx' : Th K H8 x := by
            have hm := List.mem_of_getElem? hx
            simp only [List.mem_cons, List.not_mem_nil, or_false] at hm
            rcases hm with rfl | rfl
            · exact th1
            · exact th2
          refine cmp_ok (i := 7) (z := x) (e.th t8 hx') e.tab rfl (fun H2 e2 => iteF ?_)
          exact ⟨⟨_, rfl⟩, e.trans e2⟩
        · obtain ⟨⟨y7', rfl⟩, e⟩ := h'
          exact ⟨⟨_, _, _, _, _, rfl⟩, e.tab, F8.ex t8 e⟩
end
end K01

namespace K01
open PySem PySem.Spec PyProof.Rows L2 GX
def mkD (x : Str) (st : Stmt) : He.DefD := ⟨(x, none), x, x, defArgs st, defBody st, defScope st, [], []⟩
def fn : List He.DefD := [mkD "is_whole" sWhole, mkD "is_between" sBtw, mkD "is_seat" sSeat, mkD "_law_feed" sFeed, mkD "_law_take" sTake, mkD "_law_odd" sOdd, mkD "_law_bent" sBent, mkD "_law_whole" sLWhole, mkD "_law_is_seat" sLSeat, mkD "law" sLaw]
def fa : List He.Fa := [.glo "is_whole", .glo "is_between", .glo "is_seat", .glo "_law_feed", .glo "_law_take", .glo "_law_odd", .glo "_law_bent", .glo "_law_whole", .glo "_law_is_seat", .glo "law",
  .free "isinstance", .free "int", .free "bool", .free "tuple", .free "len", .free "all", .free "repr", .free "range", .free "str", .free "list"]
def tf : List He.Defn := [("is_seat", none)]
def exx (_ : PySem.W.Frag) : Bool := true
abbrev R : PySem.W.OpenRow := PySem.W.OpenLaw.row PySem.Challenge.rw_gonemarks_k01_what_is_a_seat
abbrev hk : PySem.W.Hook := He.hookX 4 fa fn [] tf exx
def ob (s : PySem.W.SharedT) : He.AlX := He.obsX 4 fa fn [] tf exx (HandSHeadRun.getT s)
theorem ob_eq (s : PySem.W.SharedT) : ob s = hk.obs s.abs := He.obsX_eq (HandSHeadRun.getT_eq s)
abbrev loose : List PySem.Str := ["is_whole", "is_between", "is_seat", "_law_feed", "_law_take", "_law_odd", "_law_bent", "_law_whole", "_law_is_seat"]
theorem run (w : World) : HandSHeadRun.RunEq R (PySem.W.view R.prog [12]) hk ob 2000 loose w := by
  intro os
  kernel_rfl
theorem fact_glo {w : World} {K : PySem.W.Frag} {h : Heap} {mg : Str → Option Value} {x : Str} (X : K.In h) (G : h.Ns mainGlobals mg) (c : He.SaysX fa fn [] tf exx w h K) (hx : He.Fa.glo x ∈ fa) : mg x = some (.ref (He.ga K x)) := He.glo_ok X G (c.t.d.facts hx)
theorem fact_free {w : World} {K : PySem.W.Frag} {h : Heap} {mg : Str → Option Value} {x : Str} (X : K.In h) (G : h.Ns mainGlobals mg) (c : He.SaysX fa fn [] tf exx w h K) (hx : He.Fa.free x ∈ fa) : mg x = none := He.free_ok X G (c.t.d.facts hx)
theorem facts {l : PySem.W.OpenLaw} {w : World} {K : PySem.W.Frag} {h : Heap} {mg : Str → Option Value} {f : Addr} (X : K.In h) (G : h.Ns mainGlobals mg) (hfa : mg ("law" : Str) = some (.ref f)) (c : He.SaysX fa fn [] tf exx w h K) :
    LamX.LawAtS l w K CX0 5 63 "_law_script" mg f h := by
  have e := hfa.symm.trans (fact_glo X G c (x := "law") (by simp [fa]))
  cases e
  obtain ⟨fdW, FW⟩ := c.t.d.def_ 0 (d := mkD "is_whole" sWhole) rfl
  obtain ⟨fdB, FB⟩ := c.t.d.def_ 1 (d := mkD "is_between" sBtw) rfl
  obtain ⟨fdS, FS⟩ := c.t.d.def_ 2 (d := mkD "is_seat" sSeat) rfl
  obtain ⟨fdF, FF⟩ := c.t.d.def_ 3 (d := mkD "_law_feed" sFeed) rfl
  obtain ⟨fdT, FT⟩ := c.t.d.def_ 4 (d := mkD "_law_take" sTake) rfl
  obtain ⟨fdO, FO⟩ := c.t.d.def_ 5 (d := mkD "_law_odd" sOdd) rfl
  obtain ⟨fdN, FN⟩ := c.t.d.def_ 6 (d := mkD "_law_bent" sBent) rfl
  obtain ⟨fdLW, FLW⟩ := c.t.d.def_ 7 (d := mkD "_law_whole" sLWhole) rfl
  obtain ⟨fdL, FL⟩ := c.t.d.def_ 8 (d := mkD "_law_is_seat" sLSeat) rfl
  obtain ⟨fd, F⟩ := c.t.d.def_ 9 (d := mkD "law" sLaw) rfl
  have B : Bi mg := ⟨fact_free X G c (by simp [fa]), fact_free X G c (by simp [fa]), fact_free X G c (by simp [fa]), fact_free X G c (by simp [fa]), fact_free X G c (by simp [fa]), fact_free X G c (by simp [fa]), fact_free X G c (by simp [fa]), fact_free X G c (by simp [fa]), fact_free X G c (by simp [fa]), fact_free X G c (by simp [fa])⟩
  have b := FunD.bindsA (ps := ["_law_script"]) F fun _ _ _ _ _ _ us hl => match us, hl with | [_], _ => rfl
  refine ⟨fd, [He.cT K ("is_seat", none)], spLaw K (He.cT K ("is_seat", none)).2, fun p hp => ?_, fun p hp => ?_, fun p hp => ?_, fun s v => b s [v] rfl, fun H a ns hl _ hT hS => ?_, fun base hK hN hTB => ?_⟩
  · rw [List.mem_singleton] at hp
    rw [hp]
    exact c.empty _ (by simp [tf])
  · rw [List.mem_singleton] at hp
    rw [hp]
    exact c.out _ (by simp [tf])
  · rw [List.mem_singleton] at hp
    rw [hp]
    exact PySem.W.codeHd_of_K X (c.hd _ (by simp [tf]))
  · exact ⟨a, ns, rfl, hS, ⟨#[], hT _ (List.mem_singleton.mpr rfl), True.intro⟩, fun _ => rfl⟩
  · obtain ⟨tc, tb, tg⟩ := hTB _ (List.mem_singleton.mpr rfl)
    have gW := fact_glo X G c (x := "is_whole") (by simp [fa])
    have gT := fact_glo X G c (x := "_law_take") (by simp [fa])
    have gO := fact_glo X G c (x := "_law_odd") (by simp [fa])
    have gN := fact_glo X G c (x := "_law_bent") (by simp [fa])
    have GS := ok_seat (P := l.prog) (w := w) (base := base) FS (code_of (p := ("is_seat", none)) FS) FB (fact_glo X G c (x := "is_between") (by simp [fa])) FW gW ⟨tc, tb, tg⟩ B
    have GL := ok_lseat (P := l.prog) (w := w) (base := base) (T := (He.cT K ("is_seat", none)).2) FL FLW (fact_glo X G c (x := "_law_whole") (by simp [fa])) B
    have G0 : FnOk l.prog w K mg base CX0 1 (He.fAd K ("_law_bent", none)) fdN ["_law_feed_here", "_law_thing"] spNo := ok_no.mono (by decide)
    have GI : FnOk l.prog w K mg base CX0 2 (He.fAd K ("_law_bent", none)) fdN ["_law_feed_here", "_law_thing"] (spBentI K (He.cT K ("is_seat", none)).2) := ok_bent FN gN G0 (by decide) FT gT FO gO B fun vs H Q E h => .inl h
    have GN : FnOk l.prog w K mg base CX0 3 (He.fAd K ("_law_bent", none)) fdN ["_law_feed_here", "_law_thing"] (spBentT K (He.cT K ("is_seat", none)).2) := ok_bent FN gN GI (by decide) FT gT FO gO B fun vs H Q E h => .inr ⟨h, rfl⟩
    exact ok_law F FF (fact_glo X G c (x := "_law_feed") (by simp [fa])) FT gT FS (fact_glo X G c (x := "is_seat") (by simp [fa])) GS FL (fact_glo X G c (x := "_law_is_seat") (by simp [fa])) GL FN gN GN B
end K01
open PySem PySem.W PySem.Calls PyProof.Rows
theorem PySem.Challenge.cw_gonemarks_k01_what_is_a_seat_holds : PySem.Challenge.rw_gonemarks_k01_what_is_a_seat.Holds := by
  w_on; o_law
  refine HandSHeadRun.head_any (r := OpenLaw.row PySem.Challenge.rw_gonemarks_k01_what_is_a_seat) (q := view (OpenLaw.row PySem.Challenge.rw_gonemarks_k01_what_is_a_seat).prog [12]) (H := K01.hk) (ob := K01.ob) (M := 2000) (loose := K01.loose) (d := HandSHeadRun.topDef (OpenLaw.row PySem.Challenge.rw_gonemarks_k01_what_is_a_seat).prog 12) (kwd := []) K01.ob_eq
    (by kernel_rfl) (fun s => by kernel_rfl) K01.run (by kernel_rfl) (by kernel_rfl) (by kernel_rfl) (by rfl) (by first | assumption | decide +kernel) (by decide +kernel) ⟨rfl, rfl, rfl, rfl, rfl, by decide +kernel⟩ ?hw ?hc
  case hw => w_witness2
  case hc =>
    refine LamX.walk_ofTsE (l := PySem.Challenge.rw_gonemarks_k01_what_is_a_seat) (n := 63) (k := 5) (x := "_law_script") (CX := fun _ => L2.CX0) rfl (by decide) (by kernel_rfl) ⟨rfl, by decide, by decide⟩ ?F (fun _ _ _ _ _ z => z)
    intro w mg fa h Y G hmg0
    obtain ⟨K, KX, c⟩ := Y
    have hmg : mg ("law" : PySem.Str) = some (.ref fa) := by
      have e : (HandSHeadRun.topDef (OpenLaw.row PySem.Challenge.rw_gonemarks_k01_what_is_a_seat).prog 12).name = ("law" : PySem.Str) := by kernel_rfl
      rw [← e]
      exact hmg0
    exact ⟨K, KX, K01.facts KX G hmg c⟩
#print axioms PySem.Challenge.cw_gonemarks_k01_what_is_a_seat_holds
