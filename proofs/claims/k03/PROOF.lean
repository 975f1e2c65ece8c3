import PyProof.Rows.All
import Wide.All
import OpenK.AllK
import Wide.FinOn
import HandS.ForMost
import HandS.AnyAll
import HandS.GenList
import HandS.EndTab
import HandS.IsInst
import HandS.TupAny
import HandS.Wide
import HandS.HeadHook4
import HandS.HeadWalk
import HandS.Style
import HandS.RaiseMore
import PyProof.TupleOfGen
import PyProof.ReprRoads
import PyProof.Rows.NestShow
import HandS.Head0
import HandS.Head1
import HandS.Head2
import HandS.HeadEnd
import PySem.Challenge.RW_gonemarks_k03_seats_begin
set_option Elab.async false
set_option linter.all false
set_option maxRecDepth 100000
set_option maxHeartbeats 0
/-! Generator expressions consumed by all, any: over anything that PI serves, the element any expression of the layer (calls of defs too). -/
namespace GX
open PySem PySem.Spec PyProof.Rows L2 GenW

theorem over_comp {A : Around} {elt : Expr} {gs : List Comprehension} {sc : Scope} {pos : Pos} {it acc : Value} {env : Env} : A.over (.compLoop (.GeneratorExp elt gs sc pos) 0 it acc env) [] = A.deeper env := by
  rfl
theorem over_start {A : Around} {elt : Expr} {gs : List Comprehension} {sc : Scope} {pos : Pos} {it acc : Value} {env : Env} : A.over (.compStart (.GeneratorExp elt gs sc pos) 0 it acc env) [] = A.deeper env := by
  rfl

/-- the generator's own context, from its making on -/
abbrev gcx (X : Cx) (B : Around) (s : Shared) (H : Hp) (cenv : Env) (fp : List Addr) : Cx :=
  { X with A := B.deeper cenv, s_0 := s, H_0 := H, env := cenv, outer := X.stack, stack := cenv :: X.stack, ex := fp, fn := fun _ => false, pn := [], xe := fun _ _ => False }

theorem room_gx {k : Nat} {A : Around} (r : Room (k + 1) A) (env : Env) : Room k (A.in1.in1.deeper env) :=
  ⟨r.hd, by have := r.dp; show A.depth + 1 + 3 * k + 5 < _; omega, by have := r.un; show A.units + 1 + 1 + 3 + 16 * k + 200 < _; omega⟩

section
variable {X : Cx} {pins : List (Addr × Obj)}
variable {σ : L2.St} {H : Hp} {s : Shared}

/-- a name that the generator's own cells give stands for the maker's cell -/
theorem clo_cell {cells : List (Str × Addr)} {names : List (Str × NameKind)} {y : Str} {c : Addr} (have_ : ∀ q ∈ names, q.2 = .free → ∃ d, cells.lookup q.1 = some d) (e : (cloFrom cells names []).lookup y = some c) : cells.lookup y = some c := by
  rcases cloFrom_mem (PySem.mem_of_lookup e) with no | ⟨hm, hc⟩
  · cases no
  · obtain ⟨d, hd⟩ := have_ _ hm rfl
    rw [hd] at hc
    exact hc ▸ hd
theorem clo_there {cells : List (Str × Addr)} {names : List (Str × NameKind)} {y : Str} (have_ : ∀ q ∈ names, q.2 = .free → ∃ d, cells.lookup q.1 = some d) (hy : names.lookup y = some .free) :
    ∃ c, (cloFrom cells names []).lookup y = some c ∧ cells.lookup y = some c := by
  obtain ⟨c, hc⟩ := mem_lookup (cloFrom_has (cells := cells) (acc := []) (PySem.mem_of_lookup hy))
  exact ⟨c, hc, clo_cell have_ hc⟩
/-- a name of N that stands in the generator's scope and isn't one of its own is captured -/
theorem captured {N : List Str} {sc scope : Scope} {own : List (Str × Nat)} {i : Nat} {y : Str} (ok : BlkOk N sc scope own) (nd : N.Nodup) (hc : ∀ q ∈ scope.names, q.2 ≠ .cell) (hi : N[i]? = some y) (hv : Vis scope y) (no : i ∉ own.map (·.2)) : scope.names.lookup y = some .free := by
  rcases hv with k | k | k
  · exfalso
    rcases ok.own (y, .local) (PySem.mem_of_lookup k) (.inl rfl) with m | m
    · obtain ⟨q, qm, qe⟩ := List.mem_map.mp m
      have at_q : N[q.2]? = some y := (ok.ix q qm).trans (congrArg some qe)
      exact no (List.mem_map.mpr ⟨q, qm, nodup_ix nd at_q hi⟩)
    · exact m (List.mem_of_getElem? hi)
  · exact absurd rfl (hc (y, .cell) (PySem.mem_of_lookup k))
  · exact k
/-- the generator stands, not begun: its context holds -/
theorem gx_start {scope : Scope} {own : List (Str × Nat)} {fp : List Addr} {code : Value} {B : Around} {h' : Heap} {it : Value} {gobj : Obj} {g' : Array GenState} {tk : Nat} (I : Inv X pins σ H s) (ok : BlkOk X.N X.env.scope scope own) (hN : X.N.Nodup)
    (hcell : ∀ y ∈ scope.names, y.2 ≠ .cell) (hfp : ∀ b ∈ fp, FpOk X pins H b ∧ b < s.heap.objs.size) (hB : B.frames = some X.stack) (hBh : B.handled = none)
    (hn' : h'.Ns s.heap.objs.size (fun y => if y = ".0" then some it else none)) (hs' : Heap.SameBut s.heap.objs.size (s.heap.push { cls := .type "frame", data := .dict #[] }) h')
    (hgo : ∀ v, gobj.data ≠ .cell v) (hgf : gobj.isFreed = false) (hg : AllBare g') :
    Inv (gcx X B s H (genEnv scope (cloFrom X.env.cells scope.names []) s.heap.objs.size code builtinsNs X.env) fp) [(h'.objs.size, gobj)] (wipe σ (own.map (·.2))) H { s with gens := g', toks := tk, heap := h'.push gobj } := by
  have caught : ∀ q ∈ scope.names, q.2 = .free → ∃ d, X.env.cells.lookup q.1 = some d := fun q hq fr => (ok.free q hq fr).elim (fun u => I.ok.has _ (.inl u)) (fun u => I.ok.has _ (.inr u))
  have grown : ∀ b o, s.heap.get? b = some o → (h'.push gobj).get? b = some o := fun b o at_b =>
    Heap.get?_push_of_some _ (hs'.extBut b o (Nat.ne_of_lt (Heap.lt_size at_b)) (Heap.get?_push_of_some _ at_b))
  have size' : h'.objs.size = s.heap.objs.size + 1 := hs'.1.trans (Heap.size_push ..)
  have older : ∀ {y : Str} {c : Addr}, (cloFrom X.env.cells scope.names []).lookup y = some c → X.env.cells.lookup y = some c := fun at_y => clo_cell caught at_y
  have notFrame : ∀ {b : Addr}, s.heap.objs.size ≤ b → b ∉ frs X.stack := fun {b} big mem => by
    rcases List.mem_cons.mp (I.stkSub b mem) with own_ | callers
    · exact absurd (Nat.lt_of_lt_of_le I.lt (own_ ▸ big)) (Nat.lt_irrefl _)
    · exact I.nofs big callers
  have fine : (gcx X B s H (genEnv scope (cloFrom X.env.cells scope.names []) s.heap.objs.size code builtinsNs X.env) fp).Ok := by
    constructor
    case mod => exact I.ok.mod
    case kind => exact ok.kind
    case glob => exact I.ok.glob
    case blt => rfl
    case above => exact Nat.le_refl s.heap.objs.size
    case inj => exact fun y z c hy hz => I.ok.inj y z c (older hy) (older hz)
    case has =>
      intro y kinds
      rcases kinds with k | k
      · exact absurd rfl (hcell (y, .cell) (PySem.mem_of_lookup k))
      · exact (clo_there caught k).imp fun c both => both.1
    case cab => exact fun y c no => Bool.noConfusion no
    case hd => exact fun _ => hBh
    case frames => exact Around.frames_deeper hB
    case stk => exact .inr ⟨rfl, rfl⟩
    case exf => exact fun b mem => ⟨Nat.ne_of_lt (hfp b mem).2, fun y c at_y => (hfp b mem).1.2.2.2.2.1 y c (older at_y)⟩
    case bs => exact I.bs
    case bsz => exact Nat.le_trans I.ok.bsz I.sz
    case noex =>
      intro b o at_b mem
      have young := (hfp b mem).1.2.2.2.1
      exact young.elim (I.ok.noex b o at_b) fun big => Nat.not_le_of_lt (Heap.lt_size at_b) (Nat.le_trans I.ok.bsz big)
    case exfs =>
      intro b mem inFs
      have two := List.mem_cons.mp (I.stkSub b inFs)
      exact two.elim (hfp b mem).1.2.1 (hfp b mem).1.2.2.1
    case funs => exact I.stack
    case frf => exact I.stkFree
  constructor
  case ok => exact fine
  case os => rfl
  case bare => exact hg
  case base => exact Un.kept grown
  case loc =>
    refine ⟨_, hn'.push gobj, fun i y v at_i at_v vis => ?_⟩
    obtain ⟨held, notOwn⟩ := wipe_some at_v
    have fr : scope.names.lookup y = some .free := captured ok hN hcell at_i vis notOwn
    obtain ⟨c, here, there⟩ := clo_there caught fr
    have kinds := ok.free (y, .free) (PySem.mem_of_lookup fr) rfl
    obtain ⟨m, _, look⟩ := I.loc
    obtain ⟨u, rel, found⟩ := look i y v at_i held (kinds.elim (fun k => .inr (.inl k)) fun k => .inr (.inr k))
    refine ⟨u, rel, .inr ⟨.inr fr, c, here, ?_⟩⟩
    rcases found with ⟨loc_, _⟩ | ⟨_, d, at_d, cell_d⟩
    · have loc2 : X.env.scope.names.lookup y = some .local := loc_
      rcases kinds with k | k
      · exact nomatch loc2.symm.trans k
      · exact nomatch loc2.symm.trans k
    · cases there.symm.trans at_d
      exact cell_d.keeps grown
  case cell => exact fun y c at_y => (I.cell y c (older at_y)).imp fun v at_c => at_c.keeps grown
  case free => exact I.hok.fresh (Nat.le_refl s.heap.objs.size)
  case freeC => exact fun y c at_y => I.freeC y c (older at_y)
  case pin =>
    intro p mem
    obtain rfl : p = (h'.objs.size, gobj) := by simpa using mem
    have big : s.heap.objs.size ≤ h'.objs.size := size' ▸ Nat.le_succ _
    exact ⟨Heap.get?_push_size _ hgf, I.hok.fresh big, Nat.ne_of_gt (size' ▸ Nat.lt_succ_self _), notFrame big, hgo⟩
  case hok => exact I.hok.kept grown
  case len => exact (wipe_length σ _).trans I.len

/-- while the generator sleeps nothing is changed but the table of generators; the heap may grow -/
structure Slp (s s' : Shared) : Prop where
  os : s'.os = s.os
  bare : AllBare s'.gens
  keep : ∀ b o, s.heap.get? b = some o → s'.heap.get? b = some o
theorem inv_slept {s' : Shared} (I : Inv X pins σ H s) (z : Slp s s') : Inv X pins σ H s' := by
  obtain ⟨z1, z2, z3⟩ := z
  obtain ⟨hh, g, d, t, o⟩ := s'
  have ho : o = s.os := z1
  subst ho
  refine I.step (g' := g) (t' := t) (d' := d) (h' := hh) (ch := []) (fun b hb => absurd hb (by simp)) (fun b ob _ _ _ q _ => z3 b ob q) (fun b ob _ _ _ q _ => ⟨ob.slots, z3 b ob q⟩) (fun _ _ _ _ n => n) (fun b ob _ q => ⟨ob, z3 b ob q⟩)
    (fun _ _ q => q) (fun _ _ _ q => q) (fun b ps q => ⟨#[], by rw [q]; simp⟩) (fun m hm => hm.keeps z3) (I.hok.kept z3) z2

/-- the turns of a generator, with the consumer's state c: fin what is wanted at the end, out what is wanted of an item that is handed out -/
def Turns {γ : Type} (J : It) (g : TG) (tt : TT) (te : TE) (σw : L2.St) (vs : List Nat) (W : γ → Nat → Nat → Hp → Prop) (fin : γ → Hp → Prop) (out : γ → V → Hp → (γ → Hp → Prop) → Prop) : Prop := ∀ c i m H, W c i m H →
  (J.stop i H ∧ fin c H) ∨ (J.go i H ∧ ∃ Nx : γ → Hp → Prop, (∀ c' H', Nx c' H' → ∃ m', m' < m ∧ W c' (i + 1) m' H') ∧ ∀ x H', J.yld i H x H' → g x σw H' fun σ2 H2 => wipe σ2 vs = σw ∧ tt σ2 H2 fun b H3 =>
    if b = true then te σ2 H3 fun y H4 => out c y H4 Nx else Nx c H3)
/-- the item is a truth; b: the one at which one goes on -/
def outB (b : Bool) (Q : VK) : Unit → V → Hp → (Unit → Hp → Prop) → Prop := fun _ y H4 k => ∃ c, y = .bl c ∧ if c = b then k () H4 else Q (.bl (!b)) H4
/-- the items go into a list -/
def outL : List V → V → Hp → (List V → Hp → Prop) → Prop := fun ys y H4 k => ys.length < sizeLine ∧ k (ys ++ [y]) H4
def Mono {γ : Type} (out : γ → V → Hp → (γ → Hp → Prop) → Prop) : Prop := ∀ c y H k k', (∀ c', k c' H → k' c' H) → out c y H k → out c y H k'
theorem mono_B {b : Bool} {Q : VK} : Mono (outB b Q) := fun _ y H k k' hk h => by
  obtain ⟨c, e, q⟩ := h
  refine ⟨c, e, ?_⟩
  by_cases hcb : c = b
  · rw [if_pos hcb] at q ⊢
    exact hk () q
  · rw [if_neg hcb] at q ⊢
    exact q
theorem mono_L : Mono outL := fun _ y H k k' hk h => ⟨h.1, hk _ h.2⟩

def endG {γ : Type} (XG : Cx) (pn : List (Addr × Obj)) (σw : L2.St) (C : γ → List (Addr × Obj) → Prop) (fin : γ → Hp → Prop) : GenEnd := fun _ _ r s1 => r = .ok .next ∧ ∃ c cp H', C c cp ∧ Inv XG (pn ++ cp) σw H' s1 ∧ fin c H'
def yldG {γ : Type} (XG : Cx) (pn : List (Addr × Obj)) (σw : L2.St) (fp : List Addr) (C : γ → List (Addr × Obj) → Prop) (out : γ → V → Hp → (γ → Hp → Prop) → Prop) : Protocol := fun _ _ v s1 kap =>
  ∃ c cp y H', C c cp ∧ RelV y v ∧ Inv XG (pn ++ cp) σw H' s1 ∧ out c y H' fun c' _ => ∀ s' cp', C c' cp' → Inv XG (pn ++ cp') σw H' s' → (∀ q ∈ fp, ∀ o, s1.heap.get? q = some o → s'.heap.get? q = some o) → kap (.send .none) s'

theorem seg_gx {γ : Type} {B : Around} {s4 : Shared} {H4 : Hp} {cenv : Env} {fp : List Addr} {pn : List (Addr × Obj)} {elt tg iter : Expr} {ifs : List Expr} {scope : Scope} {pos : Pos} {it : Addr} {tn : Nat → Heap → Prop} {J : It} {g : TG} {tt : TT} {te : TE} {vs : List Nat}
    {W : γ → Nat → Nat → Hp → Prop} {fin : γ → Hp → Prop} {out : γ → V → Hp → (γ → Hp → Prop) → Prop} {C : γ → List (Addr × Obj) → Prop} {σw : L2.St} (hc : X.calm = true) (hco : cenv.scope.isCoroutine = false) (hpn : ∀ p ∈ pn, ∀ q ∈ fp, p.1 ≠ q) (hcp : ∀ c cp, C c cp → ∀ p ∈ cp, ∀ q ∈ fp, p.1 ≠ q) (hmo : Mono out) (T : Turn X.prog X.w X.K tg J fp it tn)
    (pg : PG (gcx X B s4 H4 cenv fp) tg g) (pt : PTs (gcx X B s4 H4 cenv fp) ifs tt) (pe : PE (gcx X B s4 H4 cenv fp) elt te) (turn : Turns J g tt te σw vs W fin out) :
    ∀ (m n : Nat) (c : γ) (cp : List (Addr × Obj)) (i : Nat) (H : Hp) (s0 s : Shared), m < n → C c cp → Inv (gcx X B s4 H4 cenv fp) (pn ++ cp) σw H s → tn i s.heap → (∀ q ∈ fp, H q = none) → W c i m H →
      Seg (model X.prog X.w) B (endG (gcx X B s4 H4 cenv fp) pn σw C fin) (yldG (gcx X B s4 H4 cenv fp) pn σw fp C out) n s0
        (.compLoop (.GeneratorExp elt [⟨tg, iter, ifs, 0⟩] scope pos) 0 (.ref it) .none cenv)
        ((model X.prog X.w).den (.compLoop (.GeneratorExp elt [⟨tg, iter, ifs, 0⟩] scope pos) 0 (.ref it) .none cenv)) [] s := by
  intro m
  induction m using Nat.strongRecOn with
  | ind m ih =>
    intro n c cp i H s0 s hmn hC I st nf w
    have apart : ∀ p ∈ pn ++ cp, ∀ q ∈ fp, p.1 ≠ q := fun p hp => (List.mem_append.mp hp).elim (hpn p) (hcp c cp hC p)
    have stat : ∀ {σ' : L2.St} {H' : Hp} {s' : Shared}, Inv (gcx X B s4 H4 cenv fp) (pn ++ cp) σ' H' s' → (∀ q ∈ fp, H' q = none) → ∀ q ∈ fp, FpOk (gcx X B s4 H4 cenv fp) (pn ++ cp) H' q := fun {σ' H' s'} I' hn q hq =>
      ⟨hn q hq, (I'.ok.exf q hq).1, I'.ok.exfs q hq, .inl hq, fun x c e => (I'.ok.exf q hq).2 x c e, fun p hp => apart p hp q hq⟩
    show Seg _ B _ _ _ s0 _ ((compTurn (.GeneratorExp elt [⟨tg, iter, ifs, 0⟩] scope pos) 0 (.ref it) .none cenv).onRaise (leaving cenv)) [] s
    rw [compTurn_gen, Sem.onRaise_eq_wrap]
    refine seg_bind_wrap (wpAny_standAt ?_)
    rcases turn c i m H w with ⟨stop, qq⟩ | ⟨go, Nx, hNx, step⟩
    · refine seg_bind_wrap ?_
      rw [over_comp]
      refine thnF (T.done (gcx X B s4 H4 cenv fp) rfl rfl rfl hc i _ s σw H (fun _ _ => False) I (stat I nf) st stop) fun r s6 ⟨hr, I6⟩ => ?_
      subst hr
      exact seg_end (.ok .next) ⟨rfl, c, cp, H, hC, I6, qq⟩
    · refine seg_bind_wrap ?_
      rw [over_comp]
      refine thnF (T.item (gcx X B s4 H4 cenv fp) rfl rfl rfl hc i _ s σw H (fun _ _ => False) I (stat I nf) st go) fun r s6 ⟨u, hr, h6⟩ => ?_
      subst hr
      refine seg_bind_wrap ?_
      rw [over_comp]
      refine thnF h6 fun _ s7 ⟨x, H7, I7, r7, y7, st7, n7⟩ => ?_
      have I7' := I7.pinned (stat I7 n7) (T.obj _ _ st7)
      refine seg_bind_wrap ?_
      rw [over_comp]
      have put := pg.run _ s7 _ H7 x u _ I7' r7 (step x H7 y7)
      refine thnF put fun _ s8 ⟨σ8, H8, I8, hw8, q8⟩ => ?_
      refine seg_bind_wrap ?_
      rw [over_comp]
      refine thnF (pt.run _ s8 σ8 H8 _ I8 q8) fun k s9 ⟨H9, I9, q9⟩ => ?_
      have pin' : ∀ {H' : Hp} {s' : Shared} {σ' : L2.St}, Inv (gcx X B s4 H4 cenv fp) ((pn ++ cp) ++ pinsAt fp s7.heap) σ' H' s' → ∀ q ∈ fp, ∀ o, s7.heap.get? q = some o → s'.heap.get? q = some o ∧ H' q = none := fun {H' s' σ'} I' q hq o e =>
        let z := I'.pin (q, o) (List.mem_append_right _ (List.mem_append_right _ (mem_pinsAt hq e)))
        ⟨z.1, z.2.1⟩
      have back : ∀ {s' : Shared} {H' : Hp}, Inv (gcx X B s4 H4 cenv fp) ((pn ++ cp) ++ pinsAt fp s7.heap) σ8 H' s' → Inv (gcx X B s4 H4 cenv fp) (pn ++ cp) σw H' s' ∧ tn (i + 1) s'.heap ∧ ∀ q ∈ fp, H' q = none := fun {s' H'} I' => by
        have hl : σw.length = σ8.length := by rw [← hw8, wipe_length]
        refine ⟨(I'.unpinned (pins := pn ++ cp)).weak hl (fun j v e => ?_), T.keep _ _ _ st7 fun q hq o e => (pin' I' q hq o e).1, fun q hq => ?_⟩
        · rw [← hw8] at e
          exact (wipe_some e).1
        · obtain ⟨o, e, _⟩ := T.obj _ _ st7 q hq
          exact (pin' I' q hq o e).2
      cases k with
      | false =>
        simp only [Bool.false_eq_true, if_false] at q9 ⊢
        obtain ⟨m', hm, w'⟩ := hNx _ _ q9
        obtain ⟨b1, b2, b3⟩ := back I9
        exact seg_again rfl (ih m' hm n c cp (i + 1) H9 s0 s9 (by omega) hC b1 b2 b3 w')
      | true =>
        simp only [if_true] at q9 ⊢
        have out : yieldOut cenv = yieldValue := funext fun v => by
          unfold yieldOut
          rw [hco]
          rfl
        simp only [out]
        simp only [Sem.bind_eq_wrap', Sem.wrap_wrap]
        refine seg_wrap ?_
        rw [over_comp]
        refine thnF (pe.run _ s9 σ8 H9 _ I9 q9) fun z s10 ⟨yv, H10, I10, r10, qq⟩ => ?_
        obtain ⟨b1, b2, b3⟩ := back I10
        have hn1 : ∃ n', n = n' + 1 := ⟨n - 1, by omega⟩
        obtain ⟨n', rfl⟩ := hn1
        refine seg_at (seg_yield rfl rfl rfl ⟨c, cp, yv, H10, hC, r10, b1, hmo _ _ _ _ _ (fun c' nx => ?_) qq⟩)
        obtain ⟨m', hm, w'⟩ := hNx _ _ nx
        intro s'' cp' hC' I'' kept
        exact seg_again rfl (ih m' hm n' c' cp' (i + 1) H10 s'' s'' (by omega) hC' I'' (T.keep _ _ _ b2 kept) b3 w')

theorem seg_start {B : Around} {R : GenEnd} {Y : Protocol} {n : Nat} {elt tg iter : Expr} {ifs : List Expr} {scope : Scope} {pos : Pos} {J : It} {fp : List Addr} {it : Addr} {tn : Nat → Heap → Prop} {cenv : Env} {s0 : Shared} (T : Turn X.prog X.w X.K tg J fp it tn) (st : tn 0 s.heap)
    (loop : Seg (model X.prog X.w) B R Y n s0 (.compLoop (.GeneratorExp elt [⟨tg, iter, ifs, 0⟩] scope pos) 0 (.ref it) .none cenv) ((model X.prog X.w).den (.compLoop (.GeneratorExp elt [⟨tg, iter, ifs, 0⟩] scope pos) 0 (.ref it) .none cenv)) [] s) :
    Seg (model X.prog X.w) B R Y n s0 (.compStart (.GeneratorExp elt [⟨tg, iter, ifs, 0⟩] scope pos) 0 (.ref it) .none cenv) ((model X.prog X.w).den (.compStart (.GeneratorExp elt [⟨tg, iter, ifs, 0⟩] scope pos) 0 (.ref it) .none cenv)) [] s := by
  show Seg _ B _ _ _ s0 _ ((compStart (.GeneratorExp elt [⟨tg, iter, ifs, 0⟩] scope pos) 0 (.ref it) .none cenv).onRaise (leaving cenv)) [] s
  unfold compStart
  rw [Sem.onRaise_eq_wrap]
  show Seg _ B _ _ _ s0 _ ((ask >>= _).wrap _ _ _ _) [] s
  refine seg_bind_wrap (wpAny_askSetting ?_)
  split
  · exact seg_again rfl loop
  · first
      | exact seg_bind_wrap (wpAny_rule (seg_bind_wrap (wpAny_standAt (seg_bind_wrap (T.self _ 0 s _ _ st (seg_again rfl loop))))))
      | (refine seg_bind_wrap (wpAny_rule ?_); show Seg _ B _ _ _ s0 _ ((standAt iter.pos >>= _).wrap _ _ _ _) [] s; exact seg_bind_wrap (wpAny_standAt (seg_bind_wrap (T.self _ 0 s _ _ st (seg_again rfl loop)))))

/-- the generator at u, not begun; R what is known of what it walks -/
structure Here (X : Cx) (pins : List (Addr × Obj)) (σ : L2.St) (B : Around) (elt tg iter : Expr) (ifs : List Expr) (scope : Scope) (pos : Pos) (vs : List Nat) (g : TG) (tt : TT) (te : TE) (J : It) (s3 : Shared) (H3 : Hp) (cenv : Env) (fp : List Addr) (it a : Addr) (gn : Nat) (gobj : Obj) (tn : Nat → Heap → Prop) (s4 : Shared) : Prop where
  inv : Inv X pins σ H3 s3
  turn : Turn X.prog X.w X.K tg J fp it tn
  st : tn 0 s4.heap
  fps : ∀ b ∈ fp, FpOk X pins H3 b ∧ b < s3.heap.objs.size
  big : s3.heap.objs.size < a
  gen : Inv (gcx X B s3 H3 cenv fp) [(a, gobj)] (wipe σ vs) H3 s4
  pg : PG (gcx X B s3 H3 cenv fp) tg g
  pt : PTs (gcx X B s3 H3 cenv fp) ifs tt
  pe : PE (gcx X B s3 H3 cenv fp) elt te
  co : cenv.scope.isCoroutine = false
  fresh : s4.gens[gn]? = some (.fresh (.compStart (.GeneratorExp elt [⟨tg, iter, ifs, 0⟩] scope pos) 0 (.ref it) .none cenv))
  is : ∀ h : Heap, h.get? a = some gobj → h.IsGen a gn

/-- what a generator expression asks: wi what is walked; behind it the def's table may have grown -/
def tGx (P : Addr) (wi : TI) (R : It → Hp → Prop) : L2.St → Hp → Prop := fun σ H => wi σ H fun J H1 => GxR.TabG H1 P ∧ ∀ H2, GxR.Tabbed P H1 H2 → R J H2

theorem gx_make {c P : Addr} {elt tg iter : Expr} {ifs : List Expr} {gpos : Pos} {scope : Scope} {own : List (Str × Nat)} {wi : TI} {g : TG} {tt : TT} {te : TE} {k : Nat} {B : Around} {R : It → Hp → Prop} {Qg : Value → Shared → Prop}
    (hr : Room k X.A) (hB : B.frames = some X.stack) (hBh : B.handled = none) (hN : X.N.Nodup) (TB : GxR.TabB X.base X.mg c P) (hcode : X.env.code = .ref c) (ok : BlkOk X.N X.env.scope scope own) (hco : scope.isCoroutine = false)
    (hcell : ∀ y ∈ scope.names, y.2 ≠ .cell) (hdot : scope.names.lookup (".0" : Str) = some NameKind.local) (hi : PI X tg iter wi)
    (hpg : ∀ (s : Shared) (H : Hp) (C : Addr) (code : Value) (fp : List Addr), PG (gcx X B s H (genEnv scope (cloFrom X.env.cells scope.names []) C code builtinsNs X.env) fp) tg g)
    (hpt : ∀ (s : Shared) (H : Hp) (C : Addr) (code : Value) (fp : List Addr), PTs (gcx X B s H (genEnv scope (cloFrom X.env.cells scope.names []) C code builtinsNs X.env) fp) ifs tt)
    (hpe : ∀ (s : Shared) (H : Hp) (C : Addr) (code : Value) (fp : List Addr), PE (gcx X B s H (genEnv scope (cloFrom X.env.cells scope.names []) C code builtinsNs X.env) fp) elt te)
    (hs : ∀ v, genFold iter X.env v = pure v) (I : Inv X pins σ H s) (h : tGx P wi R σ H)
    (hQ : ∀ J s3 H3 cenv fp it a gn gobj tn s4, Here X pins σ B elt tg iter ifs scope gpos (own.map (·.2)) g tt te J s3 H3 cenv fp it a gn gobj tn s4 → R J H3 → Qg (.ref a) s4) :
    wpAny (model X.prog X.w) X.A (eval (.GeneratorExp elt [⟨tg, iter, ifs, 0⟩] scope gpos) X.env) Qg X.xe s := by
  have caught : ∀ q ∈ scope.names, q.2 = .free → ∃ d, X.env.cells.lookup q.1 = some d := fun q hq fr => (ok.free q hq fr).elim (fun u => I.ok.has _ (.inl u)) (fun u => I.ok.has _ (.inr u))
  refine wpAny_GeneratorExp_make hco (closure_ok caught) hcell hdot ok.kind hr.depth ?_ hs
  refine thn (hi.run pins s σ H _ I h) fun xv s1 h1 => thn h1 fun itv s2 h2 => ?_
  obtain ⟨it, fp, tn, J, H2, e, I2, T, st2, f2, ⟨ps, hP, ht⟩, q⟩ := h2
  subst e
  refine ⟨I2.nolimit, ?_⟩
  have hPs : s2.heap.get? P = some { cls := .none, data := .fields ps } := I2.hok P _ hP
  have cd : PySem.W.CodeHd s2.heap c P := TB.code.keeps I2.bk
  have fpP : ∀ b ∈ fp, b ≠ P := fun b hb z => by
    have := (f2 b hb).1
    rw [z, hP] at this
    cases this
  have fplt : ∀ b ∈ fp, b < s2.heap.objs.size := fun b hb => (T.obj _ _ st2 b hb).elim fun o both => Heap.lt_size both.1
  have cont : ∀ (code : Value) (h3 : Heap) (tk : Nat) (ps' : Array Value), Heap.ExtBut P s2.heap h3 → s2.heap.objs.size ≤ h3.objs.size → h3.get? P = some { cls := .none, data := .fields ps' } → (∃ more, ps' = ps ++ more) → TriplesOk ps'.toList →
      wpAny (model X.prog X.w) X.A (builtinsFor X.env.globals X.env.builtins) (fun bi s₄ => /- the frame -/
        ∀ h', h'.Ns s₄.heap.objs.size (fun y => if y = ".0" then some (.ref it) else none) → Heap.SameBut s₄.heap.objs.size (s₄.heap.push { cls := .type "frame", data := .dict #[] }) h' →
          Qg (.ref h'.objs.size) { s₄ with
            gens := s₄.gens.push (.fresh (.compStart (.GeneratorExp elt [⟨tg, iter, ifs, 0⟩] scope gpos) 0 (.ref it) .none (genEnv scope (cloFrom X.env.cells scope.names []) s₄.heap.objs.size code bi X.env))),
            toks := s₄.toks + 1 + 1 + 1,
            heap := h'.push { cls := .type "generator", data := .fields #[.int s₄.gens.size 0, .str "<genexpr>" (s₄.toks + 1), .str (X.env.qual ++ "<genexpr>") (s₄.toks + 1 + 1)] } }) X.xe { s2 with heap := h3, toks := tk } := by
    intro code h3 tk ps' hx hsz hP3 grew ht3
    obtain ⟨bm, ob, e1, e2, e3, e4, e5, e6, e7, e8⟩ := TB.bm
    obtain ⟨more, em⟩ := grew
    refine wpAny_builtinsFor (m := X.mg) (by rw [I2.ok.glob]; exact (I2.mod.glob.keeps I2.bk).extBut hx TB.gP) e1 e2 (hx _ _ e4 (I2.bk _ _ e5)) e6 e7 e8 ?_
    intro h' hn' hs'
    have J3 := GxR.inv_tab (more := more) (h' := h3) (g' := s2.gens) (d' := s2.drawn) (t' := tk) I2 hP (fun b u hb e => hx b u hb e) (by rw [← em]; exact hP3) I2.bare
    have hT3 : GxR.Tabbed P H2 (upd H2 P (.tbl (ps ++ more))) := ⟨⟨ps ++ more, upd_same, by rw [← em]; exact ht3⟩, fun b hb => upd_ne hb⟩
    have rJ := q _ hT3
    generalize hH3 : upd H2 P (.tbl (ps ++ more)) = H3 at J3 rJ hT3
    generalize hs3 : ({ s2 with heap := h3, toks := tk } : Shared) = s3
    have hs3' : ({ s2 with heap := h3, gens := s2.gens, drawn := s2.drawn, toks := tk } : Shared) = s3 := hs3
    rw [hs3'] at J3
    have h3e : s3.heap = h3 := by rw [← hs3]
    have f3 : ∀ b ∈ fp, FpOk X pins H3 b ∧ b < s3.heap.objs.size := fun b hb => by
      refine ⟨⟨?_, (f2 b hb).2⟩, by rw [h3e]; exact Nat.lt_of_lt_of_le (fplt b hb) hsz⟩
      rw [hT3.2 b (fpP b hb)]
      exact (f2 b hb).1
    have st3 : tn 0 s3.heap := T.keep _ _ _ st2 fun b hb o e => by rw [h3e]; exact hx b o (fpP b hb) e
    have hn' : h'.Ns s3.heap.objs.size (fun y => if y = ".0" then some (.ref it) else none) := by rw [h3e]; exact hn'
    have hs' : Heap.SameBut s3.heap.objs.size (s3.heap.push { cls := .type "frame", data := .dict #[] }) h' := by rw [h3e]; exact hs'
    have sz' : h'.objs.size = s3.heap.objs.size + 1 := by rw [hs'.1, Heap.size_push]
    generalize hgo : ({ cls := .type "generator", data := .fields #[.int s3.gens.size 0, .str "<genexpr>" (s3.toks + 1), .str (X.env.qual ++ "<genexpr>") (s3.toks + 1 + 1)] } : Obj) = gobj
    have hgobj : ∀ h : Heap, h.get? h'.objs.size = some gobj → h.IsGen h'.objs.size s3.gens.size := fun h e => by
      rw [← hgo] at e
      exact ⟨_, _, _, e, rfl, rfl, rfl⟩
    have B3 : AllBare (s3.gens.push (.fresh (.compStart (.GeneratorExp elt [⟨tg, iter, ifs, 0⟩] scope gpos) 0 (.ref it) .none (genEnv scope (cloFrom X.env.cells scope.names []) s3.heap.objs.size code builtinsNs X.env)))) := J3.bare.push rfl
    have I4 := gx_start (code := code) (B := B) (tk := s3.toks + 1 + 1 + 1) J3 ok hN hcell f3 hB hBh hn' hs' (gobj := gobj) (fun v z => by rw [← hgo] at z; cases z) (by rw [← hgo]; rfl) B3
    refine hQ J s3 H3 _ fp it _ s3.gens.size gobj tn _ ⟨J3, T, ?_, f3, by rw [sz']; exact Nat.lt_succ_self _, I4, hpg s3 H3 _ code fp, hpt s3 H3 _ code fp, hpe s3 H3 _ code fp, hco, Array.getElem?_push_size .., hgobj⟩ rJ
    exact T.keep _ _ _ st3 fun b _ o e => Heap.get?_push_of_some _ (hs'.extBut b o (Nat.ne_of_lt (Heap.lt_size e)) (Heap.get?_push_of_some _ e))
  cases hf : codeAmong gpos ps.toList with
  | none =>
    refine wpAny_genexprCodeX hcode (cd.code hPs ht) (cd.tab hPs) hf fun c' h' tk hx hge hlt hco' _ htab' _ => ?_
    obtain ⟨o1, vs, f1, tf, fl, tg', inF, tx, tt', op, _, _, _, _, _, _, _, _, _, htr, _⟩ := hco'
    have bigger := Nat.le_trans hge (Nat.le_of_lt hlt)
    exact cont _ h' tk _ hx bigger htab'.2 ⟨_, rfl⟩ htr
  | some cv =>
    refine wpAny_genexprCode_hit hcode (cd.code hPs ht) hf ?_
    exact cont cv s2.heap s2.toks ps (Heap.ExtBut.refl _ _) (Nat.le_refl _) hPs ⟨#[], by simp⟩ ht

/-- back in the maker's context -/
theorem Here.back {B : Around} {elt tg iter : Expr} {ifs : List Expr} {scope : Scope} {pos : Pos} {vs : List Nat} {g : TG} {tt : TT} {te : TE} {J : It} {s3 : Shared} {H3 H' : Hp} {cenv : Env} {fp : List Addr} {it a : Addr} {gn : Nat} {gobj : Obj} {tn : Nat → Heap → Prop} {s4 s' : Shared} {pl : List (Addr × Obj)} {σ' : L2.St}
    (M : Here X pins σ B elt tg iter ifs scope pos vs g tt te J s3 H3 cenv fp it a gn gobj tn s4) (I' : Inv (gcx X B s3 H3 cenv fp) pl σ' H' s') : Inv X pins σ H' s' :=
  M.inv.call' (ch := fp) I'.os I'.base I'.hok I'.bare fun b hb => ⟨(M.fps b hb).1.2.2.2.1, (M.fps b hb).1.2.1, (M.fps b hb).1.2.2.2.2.1, (M.fps b hb).1.2.2.2.2.2⟩
/-- it goes, for any consumer -/
theorem Here.goes {γ : Type} {B : Around} {elt tg iter : Expr} {ifs : List Expr} {scope : Scope} {pos : Pos} {vs : List Nat} {g : TG} {tt : TT} {te : TE} {J : It} {s3 : Shared} {H3 : Hp} {cenv : Env} {fp : List Addr} {it a : Addr} {gn : Nat} {gobj : Obj} {tn : Nat → Heap → Prop} {s4 s5 : Shared}
    {W : γ → Nat → Nat → Hp → Prop} {fin : γ → Hp → Prop} {out : γ → V → Hp → (γ → Hp → Prop) → Prop} {C : γ → List (Addr × Obj) → Prop} {c : γ} {cp : List (Addr × Obj)} {m : Nat}
    (M : Here X pins σ B elt tg iter ifs scope pos vs g tt te J s3 H3 cenv fp it a gn gobj tn s4) (hc : X.calm = true) (hcp : ∀ c cp, C c cp → ∀ p ∈ cp, ∀ q ∈ fp, p.1 ≠ q) (hmo : Mono out) (turn : Turns J g tt te (wipe σ vs) vs W fin out)
    (hC : C c cp) (w : W c 0 m H3) (I5 : Inv (gcx X B s3 H3 cenv fp) ([(a, gobj)] ++ cp) (wipe σ vs) H3 s5) (kept : ∀ b ∈ fp, ∀ o, s4.heap.get? b = some o → s5.heap.get? b = some o) :
    (GenState.fresh (.compStart (.GeneratorExp elt [⟨tg, iter, ifs, 0⟩] scope pos) 0 (.ref it) .none cenv)).Goes (model X.prog X.w) B (endG (gcx X B s3 H3 cenv fp) [(a, gobj)] (wipe σ vs) C fin) (yldG (gcx X B s3 H3 cenv fp) [(a, gobj)] (wipe σ vs) fp C out) (m + 1) (.send .none) s5 := by
  have st5 : tn 0 s5.heap := M.turn.keep _ _ _ M.st kept
  refine ⟨rfl, seg_start (X := X) M.turn st5 (seg_gx hc M.co (fun p hp q hq z => ?_) hcp hmo M.turn M.pg M.pt M.pe turn m (m + 1) c cp 0 H3 _ _ (Nat.lt_succ_self _) hC I5 st5 (fun q hq => (M.fps q hq).1.1) w)⟩
  rw [List.mem_singleton] at hp
  rw [hp] at z
  have h1 := (M.fps q hq).2
  have h2 := M.big
  have z : a = q := z
  rw [z] at h2
  exact absurd (Nat.lt_trans h1 h2) (Nat.lt_irrefl _)
/-! ### all, any -/
def CU : Unit → List (Addr × Obj) → Prop := fun _ cp => cp = []
/-- what the two loops share: b goes on, the other truth ends it -/
theorem bool_drain {XG : Cx} {pn : List (Addr × Obj)} {σw : L2.St} {fp : List Addr} {A : Around} {Q : VK} {a : Addr} {gn : Nat} {R : Result → Shared → Prop} (b : Bool) (id : String) (hh : A.handled = none) (hd : A.depth < recursionLimit) (hpin : ∃ o, (a, o) ∈ pn ∧ ∀ h : Heap, h.get? a = some o → h.IsGen a gn)
    (step : ∀ (s : Shared), wpAny (model XG.prog XG.w) A.in1 (pyNext (.ref a)) (fun v s1 => match v with
      | none => R (.ok (.ret (.bool b))) s1
      | some u => ∃ c, u = .bool c ∧ if c = b then codeAny (model XG.prog XG.w) A (.builtin id ⟨[.ref a], []⟩) R s1 else R (.ok (.ret (.bool (!b)))) s1) (fun _ _ => False) s → codeAny (model XG.prog XG.w) A (.builtin id ⟨[.ref a], []⟩) R s)
    (hend : ∀ c H' s1 s', Inv XG pn σw H' s1 → Slp s1 s' → Q (.bl c) H' → R (.ok (.ret (.bool c))) s') :
    ∀ (n : Nat) (s : Shared), s.heap.IsGen a gn → s.heap.NoLimit → (∃ gs, s.gens[gn]? = some gs ∧ gs.Goes (model XG.prog XG.w) A.in1.in1 (endG XG pn σw CU (fun _ => Q (.bl b))) (yldG XG pn σw fp CU (outB b Q)) n (.send .none) (s.setGen gn .running)) →
      codeAny (model XG.prog XG.w) A (.builtin id ⟨[.ref a], []⟩) R s := by
  obtain ⟨o, ho, isGen⟩ := hpin
  intro n
  induction n with
  | zero =>
    intro s hg hl ⟨gs, hgs, hgo⟩
    refine step s (wpAny_pyNext_genexpQ (A := A.in1) (P := fun _ _ s₁ => ∃ c cp H', CU c cp ∧ Inv XG (pn ++ cp) σw H' s₁ ∧ Q (.bl b) H') hh hl hd hg hgs hgo (fun v s₁ gs' bare hv => ?_) (fun s₁ hp h' hk => ?_))
    · obtain ⟨_, cp, y, H', rfl, rv, I', c, rfl, q⟩ := hv
      rw [List.append_nil] at I'
      refine ⟨c, rv, ?_⟩
      by_cases hcb : c = b
      · rw [if_pos hcb] at q
        exact False.elim (q s₁ [] rfl (by rw [List.append_nil]; exact I') fun _ _ _ e => e)
      · rw [if_neg hcb] at q ⊢
        exact hend (!b) H' s₁ _ I' ⟨rfl, allBare_setGen I'.bare bare, fun _ _ e => e⟩ q
    · obtain ⟨_, cp, H', rfl, I', q⟩ := hp
      rw [List.append_nil] at I'
      exact hend b H' s₁ _ I' ⟨rfl, allBare_setGen I'.bare rfl, hk⟩ q
  | succ n ih =>
    intro s hg hl ⟨gs, hgs, hgo⟩
    have hgl : gn < s.gens.size := (Array.getElem?_eq_some_iff.mp hgs).1
    refine step s (wpAny_gsz (n := gn + 1) hgl (wpAny_pyNext_genexpQ (A := A.in1) (P := fun _ _ s₁ => ∃ c cp H', CU c cp ∧ Inv XG (pn ++ cp) σw H' s₁ ∧ Q (.bl b) H') hh hl hd hg hgs hgo (fun v s₁ gs' bare hv => ?_) (fun s₁ hp h' hk => ?_)))
    · intro hsz
      obtain ⟨_, cp, y, H', rfl, rv, I', c, rfl, q⟩ := hv
      rw [List.append_nil] at I'
      refine ⟨c, rv, ?_⟩
      by_cases hcb : c = b
      · rw [if_pos hcb] at q ⊢
        have inRange : gn < s₁.gens.size := by
          have e1 : (s₁.setGen gn gs').gens.size = s₁.gens.size := setGen_size _ _ _
          have e2 : gn + 1 ≤ (s₁.setGen gn gs').gens.size := hsz
          omega
        have z : Slp s₁ ((s₁.setGen gn gs').setGen gn .running) := ⟨rfl, allBare_setGen (s := s₁.setGen gn gs') (allBare_setGen I'.bare bare) rfl, fun _ _ e => e⟩
        exact ih (s₁.setGen gn gs') (isGen _ (I'.pin (a, o) (List.mem_append_right _ ho)).1) I'.nolimit ⟨gs', setGen_at inRange, q _ [] rfl (by rw [List.append_nil]; exact inv_slept I' z) fun _ _ _ e => e⟩
      · rw [if_neg hcb] at q ⊢
        exact hend (!b) H' s₁ _ I' ⟨rfl, allBare_setGen I'.bare bare, fun _ _ e => e⟩ q
    · intro _
      obtain ⟨_, cp, H', rfl, I', q⟩ := hp
      rw [List.append_nil] at I'
      exact hend b H' s₁ _ I' ⟨rfl, allBare_setGen I'.bare rfl, hk⟩ q
theorem all_step {P : Program} {w : World} {A : Around} {a : Addr} {R : Result → Shared → Prop} {s : Shared} (h : wpAny (model P w) A.in1 (pyNext (.ref a)) (fun v s1 => match v with
      | none => R (.ok (.ret (.bool true))) s1
      | some u => ∃ c, u = .bool c ∧ if c = true then codeAny (model P w) A (.builtin "all.loop" ⟨[.ref a], []⟩) R s1 else R (.ok (.ret (.bool (!true)))) s1) (fun _ _ => False) s) : codeAny (model P w) A (.builtin "all.loop" ⟨[.ref a], []⟩) R s := by
  refine codeAny_builtin F.entry_all_loop (Around.under_plainId F.plain_all_loop _ ▸ ?_)
  refine wpAny_bind (m := pyNext (.ref a)) (wpAny_mono h (fun v s1 hv => ?_) fun _ _ no => no.elim)
  cases v with
  | none => exact wpAny_bind (wpAny_rule (wpAny_pure hv))
  | some u =>
    obtain ⟨c, rfl, q⟩ := hv
    refine wpAny_bind (wpAny_holding (wpAny_truthy_bool (wpAny_bind (wpAny_letGo ?_))))
    cases c with
    | true => exact wpAny_pure ⟨plainId_quiet F.plain_all_loop _, q⟩
    | false => exact wpAny_bind (wpAny_rule (wpAny_pure q))
theorem any_step {P : Program} {w : World} {A : Around} {a : Addr} {R : Result → Shared → Prop} {s : Shared} (h : wpAny (model P w) A.in1 (pyNext (.ref a)) (fun v s1 => match v with
      | none => R (.ok (.ret (.bool false))) s1
      | some u => ∃ c, u = .bool c ∧ if c = false then codeAny (model P w) A (.builtin "any.loop" ⟨[.ref a], []⟩) R s1 else R (.ok (.ret (.bool (!false)))) s1) (fun _ _ => False) s) : codeAny (model P w) A (.builtin "any.loop" ⟨[.ref a], []⟩) R s := by
  refine codeAny_builtin F.entry_any_loop (Around.under_plainId F.plain_any_loop _ ▸ ?_)
  refine wpAny_bind (m := pyNext (.ref a)) (wpAny_mono h (fun v s1 hv => ?_) fun _ _ no => no.elim)
  cases v with
  | none => exact wpAny_bind (wpAny_rule (wpAny_pure hv))
  | some u =>
    obtain ⟨c, rfl, q⟩ := hv
    refine wpAny_bind (wpAny_holding (wpAny_truthy_bool (wpAny_bind (wpAny_letGo ?_))))
    cases c with
    | true => exact wpAny_bind (wpAny_rule (wpAny_pure q))
    | false => exact wpAny_pure ⟨plainId_quiet F.plain_any_loop _, q⟩
/-- all(elt for tg in iter if ..) (b = true), any(..) (b = false): behind it the def's table may have grown -/
def tAA (b : Bool) (P : Addr) (wi : TI) (g : TG) (tt : TT) (te : TE) (vs : List Nat) : TE := fun σ H Q => tGx P wi (fun J H2 => ∃ W : Unit → Nat → Nat → Hp → Prop, (∃ m, W () 0 m H2) ∧ Turns J g tt te (wipe σ vs) vs W (fun _ => Q (.bl b)) (outB b Q)) σ H
abbrev tAllG := tAA true
abbrev tAnyG := tAA false
section
variable {c P : Addr} {elt tg iter : Expr} {ifs : List Expr} {p pos gpos : Pos} {scope : Scope} {own : List (Str × Nat)} {wi : TI} {g : TG} {tt : TT} {te : TE} {k : Nat}
theorem pe_AA (b : Bool) (nm : Str) (id idl : String) (hb : bootBuiltins nm = some (.builtin id)) (run : ∀ (u : Value) (s : Shared) (Q : Value → Shared → Prop) (E : Value → Shared → Prop), wpAny (model X.prog X.w) X.A.in1 (pyIter u) (fun it s2 => codeAny (model X.prog X.w) X.A (.builtin idl ⟨[it], []⟩) (fun r s' => match r with | .ok (.ret v) => Q v s' | .ok _ => False | .error e => E e s') s2) E s → wpAny (model X.prog X.w) X.A (call (.builtin id) [u]) Q E s)
    (step : ∀ (a : Addr) (R : Result → Shared → Prop) (s : Shared), wpAny (model X.prog X.w) X.A.in1 (pyNext (.ref a)) (fun v s1 => match v with
      | none => R (.ok (.ret (.bool b))) s1
      | some u => ∃ c, u = .bool c ∧ if c = b then codeAny (model X.prog X.w) X.A (.builtin idl ⟨[.ref a], []⟩) R s1 else R (.ok (.ret (.bool (!b)))) s1) (fun _ _ => False) s → codeAny (model X.prog X.w) X.A (.builtin idl ⟨[.ref a], []⟩) R s)
    (hr : Room (k + 1) X.A) (hc : X.calm = true) (hN : X.N.Nodup) (hg : Gl X nm) (hm : X.mg nm = none) (TB : GxR.TabB X.base X.mg c P) (hcode : X.env.code = .ref c) (ok : BlkOk X.N X.env.scope scope own) (hco : scope.isCoroutine = false)
    (hcell : ∀ y ∈ scope.names, y.2 ≠ .cell) (hdot : scope.names.lookup (".0" : Str) = some NameKind.local) (hi : PI X tg iter wi)
    (hpg : ∀ (s : Shared) (H : Hp) (C : Addr) (code : Value) (fp : List Addr), PG (gcx X X.A.in1.in1 s H (genEnv scope (cloFrom X.env.cells scope.names []) C code builtinsNs X.env) fp) tg g)
    (hpt : ∀ (s : Shared) (H : Hp) (C : Addr) (code : Value) (fp : List Addr), Room k (gcx X X.A.in1.in1 s H (genEnv scope (cloFrom X.env.cells scope.names []) C code builtinsNs X.env) fp).A → PTs (gcx X X.A.in1.in1 s H (genEnv scope (cloFrom X.env.cells scope.names []) C code builtinsNs X.env) fp) ifs tt)
    (hpe : ∀ (s : Shared) (H : Hp) (C : Addr) (code : Value) (fp : List Addr), Room k (gcx X X.A.in1.in1 s H (genEnv scope (cloFrom X.env.cells scope.names []) C code builtinsNs X.env) fp).A → PE (gcx X X.A.in1.in1 s H (genEnv scope (cloFrom X.env.cells scope.names []) C code builtinsNs X.env) fp) elt te)
    (hs : ∀ v, genFold iter X.env v = pure v) (hnm : nm ≠ "__name__") (hdb : (nm == ("__debug__" : Str)) = false)
    (he : starEach [.GeneratorExp elt [⟨tg, iter, ifs, 0⟩] scope gpos] X.env = (false, eval (.GeneratorExp elt [⟨tg, iter, ifs, 0⟩] scope gpos) X.env) :: starEach [] X.env) :
    PE X (.Call (.Name nm p) [.GeneratorExp elt [⟨tg, iter, ifs, 0⟩] scope gpos] [] pos) (tAA b P wi g tt te (own.map (·.2))) := by
  constructor
  intro pins s σ H Q I h
  refine wpAny_Call_Name_kw (ld_blt I hg hm hb (PyProof.Rows.callWith_builtin1 ?_ he (by rfl)) hnm hdb)
  rw [he]
  show wpAny _ _ (spliced ((false, eval (.GeneratorExp elt [⟨tg, iter, ifs, 0⟩] scope gpos) X.env) :: backTo pos (starEach [] X.env))) _ _ s
  refine Calls.spliced_cons (gx_make (B := X.A.in1.in1) hr I.ok.frames hr.hd hN TB hcode ok hco hcell hdot hi hpg (fun s H C code fp => hpt s H C code fp (room_gx hr _)) (fun s H C code fp => hpe s H C code fp (room_gx hr _)) hs I h fun J s3 H3 cenv fp it a gn gobj tn s4 M ⟨W, ⟨m0, w0⟩, turn⟩ => Calls.spliced_nil ?_)
  have hIG : s4.heap.IsGen a gn := M.is _ (M.gen.pin (a, gobj) (by simp)).1
  have z : Slp s4 (s4.setGen gn .running) := ⟨rfl, allBare_setGen M.gen.bare rfl, fun _ _ e => e⟩
  refine run _ _ _ _ (wpAny_pyIter_gen hIG (bool_drain (XG := gcx X X.A.in1.in1 s3 H3 cenv fp) (pn := [(a, gobj)]) (fp := fp) (σw := wipe σ (own.map (·.2))) (A := X.A) (Q := Q) b idl hr.hd hr.depth ⟨gobj, by simp, M.is⟩ (fun s h => step a _ s h) (fun c H' s1 s' I' z' q => ?_) (m0 + 1) s4 hIG M.gen.nolimit
    ⟨_, M.fresh, M.goes (C := CU) (c := ()) (cp := []) hc (fun _ cp hC p hp => by rw [hC] at hp; cases hp) mono_B turn rfl w0 (by rw [List.append_nil]; exact inv_slept M.gen z) fun _ _ _ e => e⟩))
  exact ⟨.bl c, H', M.back (inv_slept I' z'), rfl, q⟩
theorem run_all {A : Around} {P : Program} {w : World} (u : Value) (s : Shared) (Q : Value → Shared → Prop) (E : Value → Shared → Prop) (h : wpAny (model P w) A.in1 (pyIter u) (fun it s2 => codeAny (model P w) A (.builtin "all.loop" ⟨[it], []⟩) (fun r s' => match r with | .ok (.ret v) => Q v s' | .ok _ => False | .error e => E e s') s2) E s) : wpAny (model P w) A (call (.builtin "all") [u]) Q E s := by
  refine call_function_tree F.kind_all F.plain_all F.entry_all (F.args_all1 u) ?_
  unfold Builtin.«all»
  refine wpAny_bind (m := oneArg "all" _) (wpAny_pure (wpAny_bind (wpAny_mono h (fun it s2 h2 => ?_) fun _ _ e => e)))
  exact wpAny_pure ⟨plainId_quiet F.plain_all_loop _, h2⟩
theorem run_any {A : Around} {P : Program} {w : World} (u : Value) (s : Shared) (Q : Value → Shared → Prop) (E : Value → Shared → Prop) (h : wpAny (model P w) A.in1 (pyIter u) (fun it s2 => codeAny (model P w) A (.builtin "any.loop" ⟨[it], []⟩) (fun r s' => match r with | .ok (.ret v) => Q v s' | .ok _ => False | .error e => E e s') s2) E s) : wpAny (model P w) A (call (.builtin "any") [u]) Q E s := by
  refine call_function_tree F.kind_any F.plain_any F.entry_any (F.args_any1 u) ?_
  unfold Builtin.«any»
  refine wpAny_bind (m := oneArg "any" _) (wpAny_pure (wpAny_bind (wpAny_mono h (fun it s2 h2 => ?_) fun _ _ e => e)))
  exact wpAny_pure ⟨plainId_quiet F.plain_any_loop _, h2⟩
theorem pe_allG (hr : Room (k + 1) X.A) (hc : X.calm = true) (hN : X.N.Nodup) (hg : Gl X "all") (hm : X.mg "all" = none) (TB : GxR.TabB X.base X.mg c P) (hcode : X.env.code = .ref c) (ok : BlkOk X.N X.env.scope scope own) (hco : scope.isCoroutine = false)
    (hcell : ∀ y ∈ scope.names, y.2 ≠ .cell) (hdot : scope.names.lookup (".0" : Str) = some NameKind.local) (hi : PI X tg iter wi)
    (hpg : ∀ (s : Shared) (H : Hp) (C : Addr) (code : Value) (fp : List Addr), PG (gcx X X.A.in1.in1 s H (genEnv scope (cloFrom X.env.cells scope.names []) C code builtinsNs X.env) fp) tg g)
    (hpt : ∀ (s : Shared) (H : Hp) (C : Addr) (code : Value) (fp : List Addr), Room k (gcx X X.A.in1.in1 s H (genEnv scope (cloFrom X.env.cells scope.names []) C code builtinsNs X.env) fp).A → PTs (gcx X X.A.in1.in1 s H (genEnv scope (cloFrom X.env.cells scope.names []) C code builtinsNs X.env) fp) ifs tt)
    (hpe : ∀ (s : Shared) (H : Hp) (C : Addr) (code : Value) (fp : List Addr), Room k (gcx X X.A.in1.in1 s H (genEnv scope (cloFrom X.env.cells scope.names []) C code builtinsNs X.env) fp).A → PE (gcx X X.A.in1.in1 s H (genEnv scope (cloFrom X.env.cells scope.names []) C code builtinsNs X.env) fp) elt te)
    (hs : ∀ v, genFold iter X.env v = pure v := by intro _; rfl)
    (he : starEach [.GeneratorExp elt [⟨tg, iter, ifs, 0⟩] scope gpos] X.env = (false, eval (.GeneratorExp elt [⟨tg, iter, ifs, 0⟩] scope gpos) X.env) :: starEach [] X.env := by rfl) :
    PE X (.Call (.Name "all" p) [.GeneratorExp elt [⟨tg, iter, ifs, 0⟩] scope gpos] [] pos) (tAllG P wi g tt te (own.map (·.2))) :=
  pe_AA true "all" "all" "all.loop" (by decide +kernel) run_all (fun a R s h => all_step h) hr hc hN hg hm TB hcode ok hco hcell hdot hi hpg hpt hpe hs (by decide) (by decide) he
theorem pe_anyG (hr : Room (k + 1) X.A) (hc : X.calm = true) (hN : X.N.Nodup) (hg : Gl X "any") (hm : X.mg "any" = none) (TB : GxR.TabB X.base X.mg c P) (hcode : X.env.code = .ref c) (ok : BlkOk X.N X.env.scope scope own) (hco : scope.isCoroutine = false)
    (hcell : ∀ y ∈ scope.names, y.2 ≠ .cell) (hdot : scope.names.lookup (".0" : Str) = some NameKind.local) (hi : PI X tg iter wi)
    (hpg : ∀ (s : Shared) (H : Hp) (C : Addr) (code : Value) (fp : List Addr), PG (gcx X X.A.in1.in1 s H (genEnv scope (cloFrom X.env.cells scope.names []) C code builtinsNs X.env) fp) tg g)
    (hpt : ∀ (s : Shared) (H : Hp) (C : Addr) (code : Value) (fp : List Addr), Room k (gcx X X.A.in1.in1 s H (genEnv scope (cloFrom X.env.cells scope.names []) C code builtinsNs X.env) fp).A → PTs (gcx X X.A.in1.in1 s H (genEnv scope (cloFrom X.env.cells scope.names []) C code builtinsNs X.env) fp) ifs tt)
    (hpe : ∀ (s : Shared) (H : Hp) (C : Addr) (code : Value) (fp : List Addr), Room k (gcx X X.A.in1.in1 s H (genEnv scope (cloFrom X.env.cells scope.names []) C code builtinsNs X.env) fp).A → PE (gcx X X.A.in1.in1 s H (genEnv scope (cloFrom X.env.cells scope.names []) C code builtinsNs X.env) fp) elt te)
    (hs : ∀ v, genFold iter X.env v = pure v := by intro _; rfl)
    (he : starEach [.GeneratorExp elt [⟨tg, iter, ifs, 0⟩] scope gpos] X.env = (false, eval (.GeneratorExp elt [⟨tg, iter, ifs, 0⟩] scope gpos) X.env) :: starEach [] X.env := by rfl) :
    PE X (.Call (.Name "any" p) [.GeneratorExp elt [⟨tg, iter, ifs, 0⟩] scope gpos] [] pos) (tAnyG P wi g tt te (own.map (·.2))) :=
  pe_AA false "any" "any" "any.loop" (by decide +kernel) run_any (fun a R s h => any_step h) hr hc hN hg hm TB hcode ok hco hcell hdot hi hpg hpt hpe hs (by decide) (by decide) he
end
end
end GX

namespace GX
open PySem PySem.Spec PyProof.Rows L2
section
variable {X : Cx}
/-- repr(truth) -/
theorem call_repr_bl : CallR X (.builtin "repr") (fun xs H Q => ∃ b, xs = [.bl b] ∧ Q (.str (if b then "True" else "False")) H) := by
  intro pins s σ H xs us Q I r h
  obtain ⟨b, rfl, q⟩ := h
  obtain ⟨u, rfl, r1⟩ := vals1 r
  cases r1
  exact PySem.P.repr_of_bool ⟨.str _, H, I.tok _, ⟨_, rfl⟩, q⟩
end
section
variable {prog : Program} {w : World} {A : Around} {E : Value → Shared → Prop} {s : Shared}
theorem rev_pick (xs : Array Value) : ((List.range xs.size).filterMap fun (k : Nat) => xs[((((xs.size : Int) - 1) + (k : Int) * (-1)).toNat)]?).toArray = xs.toList.reverse.toArray := by
  have e : (List.range xs.size).filterMap (fun (k : Nat) => xs[((((xs.size : Int) - 1) + (k : Int) * (-1)).toNat)]?) = ((List.range xs.size).map fun k => xs.size - 1 - k).filterMap (xs[·]?) := by
    rw [List.filterMap_map]
    have cg : ∀ (l : List Nat), (∀ k ∈ l, k < xs.size) → l.filterMap (fun (k : Nat) => xs[((((xs.size : Int) - 1) + (k : Int) * (-1)).toNat)]?) = l.filterMap ((xs[·]?) ∘ fun k => xs.size - 1 - k) := by
      intro l
      induction l with
      | nil => intro _; rfl
      | cons k r ih =>
        intro hl
        have h0 := hl k (List.mem_cons_self ..)
        have ih' := ih fun j hj => hl j (List.mem_cons_of_mem _ hj)
        have e0 : xs[((((xs.size : Int) - 1) + (k : Int) * (-1)).toNat)]? = ((xs[·]?) ∘ fun k => xs.size - 1 - k) k := by
          show xs[((((xs.size : Int) - 1) + (k : Int) * (-1)).toNat)]? = xs[xs.size - 1 - k]?
          rw [show (((xs.size : Int) - 1) + (k : Int) * (-1)).toNat = xs.size - 1 - k by omega]
        rw [List.filterMap_cons, List.filterMap_cons, e0, ih']
    exact cg _ fun k hk => List.mem_range.mp hk
  rw [e, PySem.W.krv_range, List.filterMap_reverse, PySem.W.krv_all]
theorem sliceApplied_rev {sl : Addr} {n : Nat} {t : Tok} {Q : Int × Int × Nat → Shared → Prop} (hs : s.heap.IsSliceOf sl .none .none (.int (-1) t))
    (h : Q (((n : Int) - 1), -1, n) s) : wpAny (model prog w) A (Builtin.Slice.sliceApplied (.ref sl) (pure (n : Int))) Q E s := by
  obtain ⟨os, hos, hcs, hds⟩ := id hs
  unfold Builtin.Slice.sliceApplied Builtin.Slice.sliceFields
  refine wpAny_bind (wpAny_bind (wpAny_field hos hds (x := .none) rfl (wpAny_bind (wpAny_field hos hds (x := .none) rfl (wpAny_bind (wpAny_field hos hds (x := .int (-1) t) rfl (wpAny_pure ?_)))))))
  refine wpAny_bind (slicePart_int ?_)
  show wpAny _ _ (if ((-1 : Int) == 0) = true then _ else _) _ _ s
  rw [if_neg (by decide)]
  refine wpAny_bind (slicePart_none (wpAny_bind (slicePart_none (wpAny_bind (wpAny_pure ?_)))))
  show wpAny _ _ (match Builtin.Slice.sliceAdjust none none (-1) (n : Int) with | (lo, hi) => pure (lo, (-1 : Int), Builtin.Slice.slicePlaces lo hi (-1))) _ _ s
  have e1 : Builtin.Slice.sliceAdjust none none (-1) (n : Int) = ((n : Int) - 1, -1) := by
    unfold Builtin.Slice.sliceAdjust
    simp
  have e2 : Builtin.Slice.slicePlaces ((n : Int) - 1) (-1) (-1) = n := by
    unfold Builtin.Slice.slicePlaces
    simp only [show ¬ ((-1 : Int) > 0) by decide, if_false]
    split <;> simp <;> omega
  rw [e1]
  show wpAny _ _ (pure ((n : Int) - 1, (-1 : Int), Builtin.Slice.slicePlaces ((n : Int) - 1) (-1) (-1))) _ _ s
  rw [e2]
  exact wpAny_pure h
theorem getItem_tuple_rev {t sl : Addr} {items : Array Value} {u : Tok} {Q : Value → Shared → Prop} (tup : IsTup s.heap t items) (cut : s.heap.IsSliceOf sl .none .none (.int (-1) u)) (few : items.size ≤ sizeLine)
    (h : Q (.ref s.heap.objs.size) { s with heap := s.heap.push { cls := .type "tuple", data := .seq items.toList.reverse.toArray } }) : wpAny (model prog w) A (getItem (.ref t) (.ref sl)) Q E s := by
  have fits : sizeOk (.seq items.toList.reverse.toArray) := by
    show items.toList.reverse.toArray.size ≤ sizeLine
    simpa using few
  have kind : s.TypeIs (.ref sl) "slice" := cut.imp fun _ both => ⟨both.1, both.2.1⟩
  unfold getItem
  repeat' first | with_reducible refine wpAny_holding ?_ | with_reducible refine wpAny_bind (wpAny_pure ?_)
  refine wpAny_bind (wpAny_sequenceKey tup.typeIs (by decide) (wpAny_bind (wpAny_callSpecial?_slot (name := Str.ofString "__getitem__") tup.typeIs PyProof.Rows.slot_tuple_getitem (wpAny_call_entry PyProof.Rows.slot_tuple_getitem tup.typeIs entry_tuple_getitem ?_ (args_tuple_getitem _ _)))))
  refine wpAny_bind (m := Builtin.Tuple.tupleItemsOf (.ref t)) (tupleItemsOf_ tup (wpAny_bind (wpAny_typeOf kind ?_)))
  rw [if_pos (by decide)]
  refine wpAny_bind (sliceApplied_rev cut ?_)
  show wpAny _ _ (if (((items.size : Int) - 1) == 0 && (-1 : Int) == 1 && items.size == items.size) = true then _ else _) _ _ s
  rw [if_neg (by rw [Bool.and_eq_true, Bool.and_eq_true]; intro z; exact absurd z.1.2 (by decide)), rev_pick]
  have last := fun v => wpAny_pure (M := model prog w) (A := A) (E := E) (Q := Q) (a := v) (s := { s with heap := s.heap.push { cls := .type "tuple", data := .seq items.toList.reverse.toArray } })
  first
    | exact wpAny_bind (m := Builtin.Tuple.tupleExact _) (wpAny_newObj_type (wpAny_pure ⟨_, rfl, last _ h⟩) fits)
    | exact wpAny_bind (m := Builtin.Tuple.tupleExact _) (wpAny_newObj_type (wpAny_bind (wpAny_pure (wpAny_pure ⟨_, rfl, last _ h⟩))) fits)
    | exact wpAny_bind (wpAny_bind (m := Builtin.Tuple.tupleExact _) (wpAny_newObj_type (wpAny_pure (wpAny_pure ⟨_, rfl, last _ h⟩)) fits))
    | exact wpAny_bind (wpAny_bind (m := Builtin.Tuple.tupleExact _) (wpAny_newObj_type (wpAny_pure ⟨_, rfl, last _ h⟩) fits))
end
section
variable {X : Cx}
theorem valsRev : ∀ {xs : List V} {us : List Value}, Vals xs us → Vals xs.reverse us.reverse
  | _, _, .nil => .nil
  | _, _, .cons r t => by
    simp only [List.reverse_cons]
    exact (valsRev t).append (.cons r .nil)
/-- t[::-1] of a tuple -/
def tRevT (K : PySem.W.Frag) (te : TE) : TE := fun σ H Q => te σ H fun x H1 => ∃ a xs, x = .ref a ∧ SqT K H1 a xs ∧ ∀ p, H1 p = none → Q (.ref p) (upd H1 p (.tup xs.reverse))
theorem pe_revT {e : Expr} {te : TE} {k : Nat} {p1 p2 p3 pos : Pos} (he : PE X e te) : PE X (.Subscript e (.Slice none none (some (.UnaryOp .USub (.Constant (.int 1) k p1) p2)) p3) pos) (tRevT X.K te) := by
  constructor
  intro pins s0 σ G Q J want
  have minus : PO X (some (.UnaryOp .USub (.Constant (.int 1) k p1) p2)) (tPart (tUn (rU fun i => .int (-i)) (tC (.int 1)))) := po_some (pe_un un_neg pe_int)
  have blank := fun (z : Shared) (F : Hp) (JF : Inv X pins σ F z) => po_none.run pins z σ F (fun part F' => part = none ∧ F' = F) JF ⟨rfl, rfl⟩
  refine Subscript_ (thn (he.run pins s0 σ G _ J want) fun obj z1 ⟨ov, F1, J1, rel, a, xs, isA, tup, done⟩ => ?_)
  subst isA
  obtain rfl : obj = Value.ref a := rel
  refine wpAny_Slice (thn (blank z1 F1 J1) fun lo z2 ⟨_, F2, J2, isLo, eLo, eF2⟩ => thn (blank z2 F2 J2) fun hi z3 ⟨_, F3, J3, isHi, eHi, eF3⟩ => ?_)
  subst eLo eF2 eHi eF3
  refine thn (minus.run pins z3 σ F3 (fun part F' => part = some (-1) ∧ F' = F3) J3 ⟨1, rfl, -1, rfl, rfl, rfl⟩) fun st z4 ⟨_, F4, J4, isSt, eSt, eF4⟩ => ?_
  subst eSt eF4
  cases isLo
  cases isHi
  obtain ⟨tk, rfl⟩ : ∃ tk, st = .int (-1) tk := by
    cases isSt
    exact ⟨_, rfl⟩
  have J5 : Inv X pins σ F4 { z4 with heap := z4.heap.push { cls := .type "slice", data := .fields #[.none, .none, .int (-1) tk] } } := J4.kept (t' := z4.toks) fun _ _ at_b => Heap.get?_push_of_some _ at_b
  obtain ⟨its, vals, isTup, few⟩ := J5.tuple tup
  show wpAny (model X.prog X.w) X.A (subscriptTail e (.Slice none none (some (.UnaryOp .USub (.Constant (.int 1) k p1) p2)) p3) (.ref a) (.ref z4.heap.objs.size)) (EP X pins σ Q) X.xe { z4 with heap := z4.heap.push { cls := .type "slice", data := .fields #[.none, .none, .int (-1) tk] } }
  refine tail_any (ops := [.ref a, .ref z4.heap.objs.size]) isTup.typeIs (PyProof.Rows.slot_tuple_getitem.lookup) (getItem_tuple_rev isTup (Heap.IsSliceOf.new _ _ _ _) ?few ?_) (by with_unfolding_all rfl)
  case few =>
    have n := vals.length
    rw [List.size_toArray, ← n]
    exact few
  refine ⟨.ref _, _, J5.laid (t' := z4.toks) (o := .tup xs.reverse) (fun _ _ at_b => Heap.get?_push_of_some _ at_b) (Nat.le_refl _) ⟨by rw [List.length_reverse]; exact few, its.reverse, valsRev vals, _, Heap.get?_push_size _ rfl, rfl, _, rfl⟩, rfl, done _ (J5.hok.fresh (Nat.le_refl _))⟩
end
/-! ### xs == [] -/
section
variable {X : Cx}
def rEqNil (K : PySem.W.Frag) : R2 := fun x y H Q => ∃ a b xs, x = .ref a ∧ y = .ref b ∧ SqL K H a xs ∧ SqL K H b [] ∧ Q (.bl xs.isEmpty) H
theorem op_eqNil (hu : X.A.units < cLine) : OpR X (compareOp .Eq) (rEqNil X.K) := by
  intro pins s σ H x y v u Q I rx ry h
  obtain ⟨a, b, xs, rfl, rfl, ha, hb, q⟩ := h
  cases rx
  cases ry
  obtain ⟨its, r1, p1, _⟩ := I.list ha
  obtain ⟨its2, r2, p2, _⟩ := I.list hb
  cases r2
  cases r1 with
  | nil => exact SeqAt.eq_listAt (e := fun _ => true) p1.isList p2.isList rfl hu (fun j h1 h2 => absurd h1 (by simp)) ⟨.bl true, H, I, rfl, q⟩
  | cons r t => exact SeqAt.eq_list_lengthsAt p1.isList p2.isList (by simp) hu ⟨.bl false, H, I, rfl, q⟩
end
/-! ### a def, its code object known -/
section
variable {P : Program} {w : World} {K : PySem.W.Frag} {mg : Str → Option Value} {base : Heap} {x qual : Str} {params : Arguments} {body : List Stmt} {scope : Scope} {dvs : List V} {kws : List (Str × V)} {f : Addr} {fd : FuncData}
theorem okC {CX : CXT} {N ps : List Str} {k : Nat} {sp : Sp} {c : Addr} (F : FunD K x qual params body scope dvs kws f fd) (hc : fd.code = .ref c) (S : FnScope N ps scope) (len : ∀ vs H Q E, sp vs H Q E → vs.length = ps.length)
    (hbody : ∀ (A : Around) (outer : List Env) (s : Shared) (H : Hp) (vs : List V) (Q : VK) (E : XK), Room k (A.deeper (envOfC qual scope s.heap.objs.size f (.ref c))) → sp vs H Q E →
      ∃ t, PSs (cxOf CX P w K mg base N qual scope f (.ref c) A outer s H E) body t ∧ t { nx := fun _ H' => Q .non H', rt := Q } (start N vs) H) : FnOk P w K mg base CX (k + 1) f fd ps sp := by
  obtain ⟨oc, od, dV, kV, doc, pm, an, cdv, ct, osl, rfl, lk, hcd, _, _⟩ := F.ex
  have e : cdv = .ref c := hc
  subst e
  exact fn_of lk hcd S len fun A outer s H vs Q E hr hsp => hbody A outer s H vs Q E hr hsp
theorem code_of {p : Str × Option Str} (F : FunD K x qual params body scope dvs kws (He.fAd K p) fd) : fd.code = .ref (He.cT K p).1 := by
  obtain ⟨oc, od, dV, kV, doc, pm, an, cdv, ct, osl, rfl, lk, hcd, _, _⟩ := F.ex
  obtain ⟨c, e⟩ := He.codeIn_ref hcd
  subst e
  show Value.ref c = _
  rw [show (He.cT K p).1 = c from He.codeOf_eq lk rfl]
end
end GX

namespace GX
open PySem PySem.Spec PyProof.Rows L2 GenW
section
variable {X : Cx} {pins : List (Addr × Obj)}
variable {σ : L2.St} {H : Hp} {s : Shared}
/-! ### tuple(..) -/
/-- the consumer's list at S holds what came so far -/
def CL (S : Addr) : List V → List (Addr × Obj) → Prop := fun ys cp => ∃ acc c, cp = [(S, lstObj acc c)] ∧ Vals ys acc.toList
/-- the consumer has put one more into its list -/
theorem inv_pushed {XG : Cx} {pn : List (Addr × Obj)} {σw : L2.St} {S : Addr} {o o' : Obj} {s s' : Shared} (I : Inv XG (pn ++ [(S, o)]) σw H s) (young : XG.s_0.heap.objs.size ≤ S) (no : ∀ p ∈ XG.pn ++ pn, p.1 ≠ S) (os : s'.os = s.os) (bare : AllBare s'.gens)
    (keep : ∀ b u, b ≠ S → s.heap.get? b = some u → s'.heap.get? b = some u) (now : s'.heap.get? S = some o') (plain : ∀ v, o'.data ≠ .cell v) : Inv XG (pn ++ [(S, o')]) σw H s' := by
  obtain ⟨atS, freeS, notL, notF, notC⟩ := I.pin (S, o) (by simp)
  have I0 : Inv XG pn σw H s := I.pins_of fun p hp => I.pin p (List.mem_append_right _ (List.mem_append_left _ hp))
  have other : ∀ b u, H b = some u → b ≠ S := fun b u h z => by
    rw [z] at h
    rw [show H S = none from freeS] at h
    cases h
  obtain ⟨hh, g, d, t, oo⟩ := s'
  have eo : oo = s.os := os
  subst eo
  have out : ∀ b, b ∉ [S] → b ≠ S := fun b hb z => hb (by rw [z]; exact List.mem_singleton.mpr rfl)
  have I1 : Inv XG pn σw H { s with heap := hh, gens := g, drawn := d, toks := t } := by
    refine I0.step (g' := g) (t' := t) (d' := d) (ch := [S]) (fun b hb => ?_) (fun b u _ _ hb at_b _ => keep b u (out b hb) at_b) (fun b u _ _ hb at_b _ => ⟨u.slots, keep b u (out b hb) at_b⟩) (fun _ _ _ _ n => n) (fun b u hb at_b => ⟨u, keep b u (out b hb) at_b⟩)
      (fun _ _ h => h) (fun _ _ _ h => h) (fun b ps h => ⟨#[], by rw [h]; simp⟩) (fun m ns => ns.at' fun u at_b => keep _ u (Ne.symm notL) at_b) (fun b u h => ?_) bare
    · rw [List.mem_singleton.mp hb]
      refine ⟨.inr young, notL, fun x c at_x z => ?_, no⟩
      obtain ⟨v, oc, at_c, is_c⟩ := I.cell x c at_x
      rw [z, show s.heap.get? S = some o from atS] at at_c
      cases at_c
      exact notC v is_c
    · refine (I0.hok b u h).stay (fun e v he at_e => keep e v ?_ at_e) (fun _ h => h) fun _ _ h => h
      rcases he with z | z
      · rw [z]; exact other b u h
      · exact other e _ z
  refine I1.pins_of fun p hp => ?_
  rcases List.mem_append.mp hp with m | m
  · exact I1.pin p (List.mem_append_right _ m)
  · rw [List.mem_singleton.mp m]
    exact ⟨now, freeS, notL, notF, plain⟩
theorem vals_snoc {ys : List V} {us : List Value} {y : V} {v : Value} (h : Vals ys us) (r : RelV y v) : Vals (ys ++ [y]) (us ++ [v]) := by
  induction h with
  | nil => exact .cons r .nil
  | cons a _ ih => exact .cons a ih
theorem CL.push {XG : Cx} {pn : List (Addr × Obj)} {σw : L2.St} {S : Addr} {acc : Array Value} {c gn : Nat} {ys : List V} {y : V} {v : Value} {H' : Hp} {s₁ : Shared} {gs' gs'' : GenState} (I' : Inv XG (pn ++ [(S, lstObj acc c)]) σw H' s₁) (vals : Vals ys acc.toList) (rv : RelV y v) (bare : gs'.bare = true) (bare2 : gs''.bare = true)
    (young : XG.s_0.heap.objs.size ≤ S) (no : ∀ p ∈ XG.pn ++ pn, p.1 ≠ S) : ∃ o', CL S (ys ++ [y]) [(S, o')] ∧ Inv XG (pn ++ [(S, o')]) σw H' ((({ s₁.setGen gn gs' with heap := s₁.heap.update S (Obj.mapSeq (·.push v)) } : Shared)).setGen gn gs'') := by
  have atS : s₁.heap.get? S = some (lstObj acc c) := (I'.pin (S, lstObj acc c) (by simp)).1
  refine ⟨Obj.mapSeq (·.push v) (lstObj acc c), ⟨acc.push v, _, rfl, ?_⟩, inv_pushed I' young no rfl (allBare_setGen (s := { s₁.setGen gn gs' with heap := s₁.heap.update S (Obj.mapSeq (·.push v)) }) (allBare_setGen (s := s₁) I'.bare bare) bare2) (fun b u hb e => (Heap.get?_update_other _ _ (Ne.symm hb)).trans e) (Heap.get?_update_self _ atS rfl) (fun v z => by cases z)⟩
  rw [Array.toList_push]
  exact vals_snoc vals rv
theorem list_drain {XG : Cx} {pn : List (Addr × Obj)} {σw : L2.St} {fp : List Addr} {A : Around} {fin : List V → Hp → Prop} {S a : Addr} {gn : Nat} {res : Value} {R : Result → Shared → Prop} (hh : A.handled = none) (hd : A.depth < recursionLimit) (hpin : ∃ o, (a, o) ∈ pn ∧ ∀ h : Heap, h.get? a = some o → h.IsGen a gn)
    (young : XG.s_0.heap.objs.size ≤ S) (no : ∀ p ∈ XG.pn ++ pn, p.1 ≠ S) (apart : ∀ q ∈ fp, q ≠ S)
    (hend : ∀ ys acc c H' s', Vals ys acc.toList → Inv XG (pn ++ [(S, lstObj acc c)]) σw H' s' → fin ys H' → R (.ok (.ret res)) s') :
    ∀ (n : Nat) (s : Shared), s.heap.IsGen a gn → s.heap.NoLimit → (∃ gs, s.gens[gn]? = some gs ∧ gs.Goes (model XG.prog XG.w) A.in1.in1 (endG XG pn σw (CL S) fin) (yldG XG pn σw fp (CL S) outL) n (.send .none) (s.setGen gn .running)) →
      codeAny (model XG.prog XG.w) A (.builtin "list.extend.loop" ⟨[.ref S, .ref a, res], []⟩) R s := by
  obtain ⟨o, ho, isGen⟩ := hpin
  have body : ∀ (s : Shared), wpAny (model XG.prog XG.w) A.in1 (pyNext (.ref a)) (fun v s1 => match v with
      | none => R (.ok (.ret res)) s1
      | some u => ∃ acc c, s1.heap.get? S = some (lstObj acc c) ∧ acc.size < sizeLine ∧ codeAny (model XG.prog XG.w) A (.builtin "list.extend.loop" ⟨[.ref S, .ref a, res], []⟩) R { s1 with heap := s1.heap.update S (Obj.mapSeq (·.push u)) }) (fun _ _ => False) s →
      codeAny (model XG.prog XG.w) A (.builtin "list.extend.loop" ⟨[.ref S, .ref a, res], []⟩) R s := fun s h => by
    refine codeAny_builtin F.entry_extend_loop (Around.under_plainId F.plain_extend_loop _ ▸ ?_)
    refine wpAny_bind (m := pyNext (.ref a)) (wpAny_mono h (fun v s1 hv => ?_) fun _ _ z => z.elim)
    cases v with
    | none => exact wpAny_pure hv
    | some u =>
      obtain ⟨acc, c, atS, few, more⟩ := hv
      refine wpAny_bind (m := updateSeq S (·.push u)) (wpAny_updateSeq atS rfl (wpAny_pure ⟨plainId_quiet F.plain_extend_loop _, more⟩) (Nat.le_of_lt few) ?_)
      show (acc.push u).size ≤ sizeLine + 1
      rw [Array.size_push]
      omega
  intro n
  induction n with
  | zero =>
    intro s hg hl ⟨gs, hgs, hgo⟩
    refine body s (wpAny_pyNext_genexpQ (A := A.in1) (P := fun _ _ s₁ => ∃ c cp H', CL S c cp ∧ Inv XG (pn ++ cp) σw H' s₁ ∧ fin c H') hh hl hd hg hgs hgo (fun v s₁ gs' bare hv => ?_) (fun s₁ hp h' hk => ?_))
    · obtain ⟨ys, cp, y, H', ⟨acc, c, rfl, vals⟩, rv, I', few, q⟩ := hv
      obtain ⟨o', hC, J⟩ := CL.push (gn := gn) (gs' := gs') (gs'' := gs') I' vals rv bare bare young no
      exact False.elim (q _ _ hC J fun b hb o e => (Heap.get?_update_other _ _ (Ne.symm (apart b hb))).trans e)
    · obtain ⟨ys, cp, H', ⟨acc, c, rfl, vals⟩, I', q⟩ := hp
      exact hend ys acc c H' _ vals (inv_slept I' ⟨rfl, allBare_setGen I'.bare rfl, hk⟩) q
  | succ n ih =>
    intro s hg hl ⟨gs, hgs, hgo⟩
    have hgl : gn < s.gens.size := (Array.getElem?_eq_some_iff.mp hgs).1
    refine body s (wpAny_gsz (n := gn + 1) hgl (wpAny_pyNext_genexpQ (A := A.in1) (P := fun _ _ s₁ => ∃ c cp H', CL S c cp ∧ Inv XG (pn ++ cp) σw H' s₁ ∧ fin c H') hh hl hd hg hgs hgo (fun v s₁ gs' bare hv => ?_) (fun s₁ hp h' hk => ?_)))
    · intro hsz
      obtain ⟨ys, cp, y, H', ⟨acc, c, rfl, vals⟩, rv, I', few, q⟩ := hv
      obtain ⟨o', hC, J⟩ := CL.push (gn := gn) (gs' := gs') (gs'' := .running) I' vals rv bare rfl young no
      have inRange : gn < s₁.gens.size := by
        have e1 : (s₁.setGen gn gs').gens.size = s₁.gens.size := setGen_size _ _ _
        have e2 : gn + 1 ≤ (s₁.setGen gn gs').gens.size := hsz
        omega
      refine ⟨acc, c, (I'.pin (S, lstObj acc c) (by simp)).1, ?_, ?_⟩
      · have e : acc.toList.length = ys.length := by first | exact vals.length | exact vals.length.symm
        have e' : acc.toList.length = acc.size := Array.length_toList
        omega
      · refine ih _ (isGen _ (J.pin (a, o) (List.mem_append_right _ (List.mem_append_left _ ho))).1) J.nolimit ⟨gs', setGen_at (s := s₁) inRange, q _ _ hC J fun b hb u e => (Heap.get?_update_other _ _ (Ne.symm (apart b hb))).trans e⟩
    · intro _
      obtain ⟨ys, cp, H', ⟨acc, c, rfl, vals⟩, I', q⟩ := hp
      exact hend ys acc c H' _ vals (inv_slept I' ⟨rfl, allBare_setGen I'.bare rfl, hk⟩) q
end
end GX

namespace GX
open PySem PySem.Spec PyProof.Rows L2 GenW
section
variable {X : Cx} {pins : List (Addr × Obj)}
variable {σ : L2.St} {H : Hp} {s : Shared}
/-- a young object that nobody knows is pinned -/
theorem inv_pinned {XG : Cx} {pn : List (Addr × Obj)} {σw : L2.St} {S : Addr} {o : Obj} {s s' : Shared} (I : Inv XG pn σw H s) (z : Slp s s') (big : s.heap.objs.size ≤ S) (atS : s'.heap.get? S = some o) (plain : ∀ v, o.data ≠ .cell v) : Inv XG (pn ++ [(S, o)]) σw H s' := by
  have I' := inv_slept I z
  refine I'.pins_of fun p hp => ?_
  rcases List.mem_append.mp hp with m | m
  · exact I'.pin p (List.mem_append_right _ m)
  · rw [List.mem_singleton.mp m]
    exact ⟨atS, I.hok.fresh big, fun e => Nat.lt_irrefl _ (Nat.lt_of_lt_of_le I.lt (e ▸ big)), I.nofs big, plain⟩
theorem collect_gx {A : Around} {elt tg iter : Expr} {ifs : List Expr} {scope : Scope} {pos : Pos} {vs : List Nat} {g : TG} {tt : TT} {te : TE} {J : It} {s3 : Shared} {H3 : Hp} {cenv : Env} {fp : List Addr} {it a : Addr} {gn : Nat} {gobj : Obj} {tn : Nat → Heap → Prop} {s4 : Shared}
    {W : List V → Nat → Nat → Hp → Prop} {fin : List V → Hp → Prop} {m : Nat} {Q : List Value → Shared → Prop} {E : Value → Shared → Prop} (M : Here X pins σ A.in1.in1 elt tg iter ifs scope pos vs g tt te J s3 H3 cenv fp it a gn gobj tn s4) (hh : A.handled = none) (hd : A.depth < recursionLimit) (hc : X.calm = true)
    (turn : Turns J g tt te (wipe σ vs) vs W fin outL) (w0 : W [] 0 m H3) (hQ : ∀ ys (acc : Array Value) H' s', Vals ys acc.toList → Inv X pins σ H' s' → fin ys H' → Q acc.toList s') : wpAny (model X.prog X.w) A (collect (.ref a)) Q E s4 := by
  have at_a : s4.heap.get? a = some gobj := (M.gen.pin (a, gobj) (by simp)).1
  have a_lt : a < s4.heap.objs.size := Heap.lt_size at_a
  have sA : ∀ q ∈ fp, q ≠ s4.heap.objs.size := fun q hq z => Nat.lt_irrefl _ (Nat.lt_trans (Nat.lt_trans (M.fps q hq).2 M.big) (z ▸ a_lt))
  have ty : ∀ s : Shared, s.heap.get? a = some gobj → s.TypeIs (.ref a) "generator" := fun s e => by
    obtain ⟨_, _, _, e1, e2, _⟩ := M.is _ e
    exact ⟨_, e1, e2⟩
  have still : ∀ o : Obj, (s4.heap.push o).get? a = some gobj := fun o => Heap.get?_push_of_some _ at_a
  unfold collect
  refine wpAny_bind (wpAny_runValue (codeAny_builtin F.entry_proto_collect (Around.under_plainId F.plain_proto_collect _ ▸ ?_)))
  -- the list that takes the items
  refine wpAny_bind (m := newList []) (wpAny_newObj_type (wpAny_pure ⟨plainId_quiet F.plain_list_iadd _, codeAny_builtin F.entry_list_iadd (Around.under_plainId F.plain_list_iadd _ ▸ ?_)⟩))
  generalize hS : s4.heap.objs.size = S at sA a_lt ⊢
  have aS : S ≠ a := fun z => Nat.lt_irrefl _ (z ▸ a_lt)
  change wpAny _ A.in1 (Builtin.List.listExtendWith (.ref S) (.ref a) (.ref S)) _ _ _
  unfold Builtin.List.listExtendWith
  refine wpAny_bind (wpAny_typeOf (ty _ (still _)) ?_)
  rw [if_neg (by simp [Builtin.List.listSameRef, aS])]
  refine wpAny_bind (wpAny_pyIter_gen (M.is _ (still _)) (wpAny_bind (wpAny_holding ?_)))
  unfold Builtin.List.listLengthHint
  refine wpAny_bind (wpAny_specialOf (ty _ (still _)) F.gen_no_len ?_)
  refine wpAny_bind (m := specialOf (Value.ref a) (Str.ofString "__length_hint__")) (wpAny_specialOf (ty _ (still _)) F.gen_no_hint (wpAny_pure ?_))
  change wpAny _ A.in1 (rule "list.extend.makes-room" >>= fun _ => (updateSeq S (·.push Value.none) >>= fun _ => updateSeq S (·.pop)) >>= fun _ => again (.builtin "list.extend.loop" ⟨[.ref S, .ref a, .ref S], []⟩)) _ _ _
  have l1 : (s4.heap.push { cls := .type "list", data := .seq ([] : List Value).toArray }).get? S = some { cls := .type "list", data := .seq ([] : List Value).toArray } := hS ▸ Heap.get?_push_size _ rfl
  have l2 := Heap.get?_update_self (Obj.mapSeq (·.push Value.none)) l1 rfl
  have l3 := Heap.get?_update_self (Obj.mapSeq (·.pop)) l2 rfl
  refine wpAny_bind (wpAny_rule (wpAny_bind (wpAny_bind (wpAny_updateSeq l1 rfl (wpAny_updateSeq l2 rfl (wpAny_pure ⟨plainId_quiet F.plain_extend_loop _, ?_⟩))))))
  generalize hh5 : ((s4.heap.push { cls := .type "list", data := .seq ([] : List Value).toArray }).update S (Obj.mapSeq (·.push Value.none))).update S (Obj.mapSeq (·.pop)) = h5 at l3
  have kept : ∀ b o, s4.heap.get? b = some o → h5.get? b = some o := fun b o e => by
    have nb : S ≠ b := fun z => Nat.lt_irrefl _ (z ▸ hS ▸ Heap.lt_size e)
    rw [← hh5]
    exact (Heap.get?_update_other _ _ nb).trans ((Heap.get?_update_other _ _ nb).trans (Heap.get?_push_of_some _ e))
  have sl : Slp s4 (({ s4 with heap := h5 } : Shared).setGen gn .running) := ⟨rfl, allBare_setGen (s := { s4 with heap := h5 }) M.gen.bare rfl, kept⟩
  have I5 := inv_pinned M.gen sl (Nat.le_of_eq hS) l3 (fun v z => by cases z)
  refine list_drain (XG := gcx X A.in1.in1 s3 H3 cenv fp) (pn := [(a, gobj)]) (fp := fp) (σw := wipe σ vs) (A := A) (fin := fin) (S := S) hh hd ⟨gobj, by simp, M.is⟩ ?_ (fun p hp => ?_) sA (fun ys acc c H' s' vals I' q => ?_) (m + 1) _ (M.is _ (kept _ _ at_a)) (M.gen.nolimit.keeps kept)
    ⟨_, M.fresh, M.goes (C := CL S) (c := []) (cp := [(S, _)]) hc (fun c cp hC p hp q hq z => ?_) mono_L turn ⟨_, _, rfl, .nil⟩ w0 I5 fun b _ o e => kept b o e⟩
  · exact Nat.le_of_lt (Nat.lt_trans M.big a_lt)
  · have hp' : p = (a, gobj) := by simpa using hp
    rw [hp']
    exact Ne.symm aS
  · refine wpAny_bind (m := load S) (wpAny_load (I'.pin (S, lstObj acc c) (by simp)).1 (wpAny_pure ?_))
    exact hQ ys acc H' s' vals (M.back I') q
  · obtain ⟨acc, c', e, _⟩ := hC
    rw [e, List.mem_singleton] at hp
    rw [hp] at z
    exact sA q hq z.symm
/-- tuple(elt for tg in iter if ..): W what holds with the items so far, ahead of item i, m turns left at most -/
def tTupG (P : Addr) (wi : TI) (g : TG) (tt : TT) (te : TE) (vs : List Nat) : TE := fun σ H Q => tGx P wi (fun J H2 => ∃ W : List V → Nat → Nat → Hp → Prop, (∃ m, W [] 0 m H2) ∧ Turns J g tt te (wipe σ vs) vs W (fun ys H' => ys.length ≤ sizeLine ∧ ∀ p, H' p = none → Q (.ref p) (upd H' p (.tup ys))) outL) σ H
theorem room_gt {k : Nat} {A : Around} (r : Room (k + 1) A) (env : Env) : Room k (A.in1.in1.in1.in1.deeper env) :=
  ⟨r.hd, by have := r.dp; show A.depth + 1 + 3 * k + 5 < _; omega, by have := r.un; show A.units + 1 + 1 + 1 + 1 + 3 + 16 * k + 200 < _; omega⟩
abbrev gtx (X : Cx) (scope : Scope) (s : Shared) (H : Hp) (C : Addr) (code : Value) (fp : List Addr) : Cx := gcx X X.A.in1.in1.in1.in1 s H (genEnv scope (cloFrom X.env.cells scope.names []) C code builtinsNs X.env) fp
theorem pe_tupG {c P : Addr} {elt tg iter : Expr} {ifs : List Expr} {p pos gpos : Pos} {scope : Scope} {own : List (Str × Nat)} {wi : TI} {g : TG} {tt : TT} {te : TE} {k : Nat} (hr : Room (k + 1) X.A) (hc : X.calm = true) (hN : X.N.Nodup) (hg : Gl X "tuple") (hm : X.mg "tuple" = none) (TB : GxR.TabB X.base X.mg c P) (hcode : X.env.code = .ref c) (ok : BlkOk X.N X.env.scope scope own) (hco : scope.isCoroutine = false)
    (hcell : ∀ y ∈ scope.names, y.2 ≠ .cell) (hdot : scope.names.lookup (".0" : Str) = some NameKind.local) (hi : PI X tg iter wi)
    (hpg : ∀ (s : Shared) (H : Hp) (C : Addr) (code : Value) (fp : List Addr), PG (gtx X scope s H C code fp) tg g)
    (hpt : ∀ (s : Shared) (H : Hp) (C : Addr) (code : Value) (fp : List Addr), Room k (gtx X scope s H C code fp).A → PTs (gtx X scope s H C code fp) ifs tt)
    (hpe : ∀ (s : Shared) (H : Hp) (C : Addr) (code : Value) (fp : List Addr), Room k (gtx X scope s H C code fp).A → PE (gtx X scope s H C code fp) elt te)
    (hs : ∀ v, genFold iter X.env v = pure v := by intro _; rfl)
    (he : starEach [.GeneratorExp elt [⟨tg, iter, ifs, 0⟩] scope gpos] X.env = (false, eval (.GeneratorExp elt [⟨tg, iter, ifs, 0⟩] scope gpos) X.env) :: starEach [] X.env := by rfl) :
    PE X (.Call (.Name "tuple" p) [.GeneratorExp elt [⟨tg, iter, ifs, 0⟩] scope gpos] [] pos) (tTupG P wi g tt te (own.map (·.2))) := by
  constructor
  intro pins s σ H Q I h
  refine wpAny_Call_Name_kw (ld_blt I hg hm (show bootBuiltins "tuple" = some (.type "tuple") by decide +kernel) (PyProof.Rows.callWith_type1 ?_ he (by rfl)) (by decide) (by decide))
  rw [he]
  show wpAny _ _ (spliced ((false, eval (.GeneratorExp elt [⟨tg, iter, ifs, 0⟩] scope gpos) X.env) :: backTo pos (starEach [] X.env))) _ _ s
  refine Calls.spliced_cons (gx_make (B := X.A.in1.in1.in1.in1) hr I.ok.frames hr.hd hN TB hcode ok hco hcell hdot hi hpg (fun s H C code fp => hpt s H C code fp (room_gt hr _)) (fun s H C code fp => hpe s H C code fp (room_gt hr _)) hs I h fun J s3 H3 cenv fp it a gn gobj tn s4 M ⟨W, ⟨m0, w0⟩, turn⟩ => Calls.spliced_nil ?_)
  have isG : s4.heap.IsGen a gn := M.is _ (M.gen.pin (a, gobj) (by simp)).1
  refine callType_codes (Q₁ := fun obj s₁ => s₁.TypeIs obj "tuple" ∧ EP X pins σ Q obj s₁) F.called_tuple (F.typeCall_tuple_1 _) F.entry_object_init (codeAny_of_tree ?_) fun obj s₁ h₁ => ?_
  · refine wpAny_bind (m := checkBuiltinCall "tuple.__new__" ⟨[.type "tuple", .ref a], []⟩) (wpAny_of_eq (F.newCall_tuple_1 _) (wpAny_pure ⟨plainId_quiet F.plain_tuple_new _, codeAny_builtin F.entry_tuple_new ?_⟩))
    rw [Around.under_plainId F.plain_tuple_new _]
    have tsub := sub_tuple_self
    have tinit := init_tuple_lookup
    have tmade := madeHere_tuple
    have tgen := isG.typeIs
    wp_walk using wpAny_typeOf tgen, collect_gx (A := X.A.in1.in1) M hr.hd hr.depth hc turn w0
    intro ys acc H' s' vals I' ⟨few, q⟩
    have e : acc.toList.toArray = acc := by simp
    have sz : acc.size ≤ sizeLine := by
      have e1 : acc.toList.length = ys.length := by first | exact vals.length | exact vals.length.symm
      have e2 : acc.toList.length = acc.size := Array.length_toList
      omega
    refine wpAny_bind (m := Builtin.Tuple.tupleExact acc.toList.toArray) ?_
    rw [e]
    unfold Builtin.Tuple.tupleExact
    refine wpAny_newObj_type (wpAny_pure ?_) sz
    have none_ : H' s'.heap.objs.size = none := I'.hok.fresh (Nat.le_refl _)
    refine ⟨⟨_, Heap.get?_push_size _ rfl, rfl⟩, .ref s'.heap.objs.size, upd H' s'.heap.objs.size (.tup ys), I'.laid (t' := s'.toks) (fun b u e => Heap.get?_push_of_some _ e) (Nat.le_refl _) ?_, rfl, q _ none_⟩
    exact ⟨few, acc.toList, vals, ⟨_, Heap.get?_push_size _ rfl, rfl, _, by simp <;> rfl⟩⟩
  · exact ⟨h₁.1, F.args_object_init_2 obj _, object_init_meets F.called_tuple.init.lookup F.called_tuple.made (by decide) X.prog X.w X.A.in1 _ s₁ ⟨h₁.1, rfl, h₁.2⟩⟩
end
end GX

/-! Promises of defs that run where nothing is being shown (no repr under way): what they may use of repr. -/
namespace GX
open PySem PySem.Spec PyProof.Rows L2 GenW
/-- room, and no repr under way -/
structure Calm (k : Nat) (A : Around) : Prop where
  room : Room k A
  clear : A.guards = some []
theorem Calm.mono {j k : Nat} {A : Around} (c : Calm k A) (h : j ≤ k) : Calm j A := ⟨c.room.mono h, c.clear⟩
/-- a def's promise, where it is calm -/
structure FnG (P : Program) (w : World) (K : PySem.W.Frag) (mg : Str → Option Value) (base : Heap) (k : Nat) (f : Addr) (fd : FuncData) (ps : List Str) (sp : Sp) : Prop where
  count : ∀ vs H Q E, sp vs H Q E → vs.length = ps.length
  goes : ∀ (A : Around) (stack : List Env) (s : Shared) (H : Hp) (args : Args) (us : List Value) (vs : List V) (Q : VK) (E : XK), sp vs H Q E → Calm k A → Vals vs us → BindsTo s fd args (ps.zip us) → Env0 P w K mg base A stack s H →
    codeAny (model P w) A (.call (.ref f) args) (CR CX0 stack P w H s Q E) s
section
variable {P : Program} {w : World} {K : PySem.W.Frag} {mg : Str → Option Value} {base : Heap} {k j : Nat} {f : Addr} {fd : FuncData} {ps : List Str} {sp : Sp}
theorem FnG.of (F : FnOk P w K mg base CX0 k f fd ps sp) : FnG P w K mg base k f fd ps sp := ⟨F.len, fun A stack s H args us vs Q E h c r b e => F.run A stack s H args us vs Q E c.room e b r h⟩
theorem FnG.mono (F : FnG P w K mg base j f fd ps sp) (h : j ≤ k) : FnG P w K mg base k f fd ps sp := ⟨F.count, fun A stack s H args us vs Q E q c => F.goes A stack s H args us vs Q E q (c.mono h)⟩
/-- a def of the text by its body -/
theorem okG {x qual : Str} {params : Arguments} {body : List Stmt} {scope : Scope} {dvs : List V} {kws : List (Str × V)} {N : List Str} {c : Addr} (F : FunD K x qual params body scope dvs kws f fd) (hc : fd.code = .ref c) (S : FnScope N ps scope) (count : ∀ vs H Q E, sp vs H Q E → vs.length = ps.length)
    (hbody : ∀ (A : Around) (stack : List Env) (s : Shared) (H : Hp) (vs : List V) (Q : VK) (E : XK), Calm k (cxOf CX0 P w K mg base N qual scope f (.ref c) A stack s H E).A → sp vs H Q E →
      ∃ t, PSs (cxOf CX0 P w K mg base N qual scope f (.ref c) A stack s H E) body t ∧ t { nx := fun _ H' => Q .non H', rt := Q } (start N vs) H) : FnG P w K mg base (k + 1) f fd ps sp := by
  refine ⟨count, fun A stack s H args us vs Q E want calm rel binds env => ?_⟩
  obtain ⟨oc, od, dV, kV, doc, pm, an, cdv, ct, osl, rfl, lk, hcd, _, _⟩ := F.ex
  obtain rfl : cdv = .ref c := hc
  have inK : K.In s.heap := env.mod.kin.keeps fun b o e => (env.bs b o e).1
  obtain ⟨t, runs, good⟩ := hbody A stack s H vs Q E ⟨calm.room.deeper _, calm.clear⟩ want
  refine codeAny_call_function calm.room.depth (inK _ _ lk) rfl S.co S.gen rfl (PySem.W.codeRec_of inK hcd) (binds _ _ _ _ ?_)
  refine wpAny_newFunctionEnv_cells S.kind (fun y hy => ?_) fun env' e s1 into => ?_
  · have par := S.par y.1 (List.of_mem_zip (show (y.1, y.2) ∈ _ from hy)).1
    exact par.imp id fun cell => ⟨cell, PySem.W.cellsFrom_some _ _ _ (.inl cell)⟩
  · cases e
    refine ⟨(env.mod.nolimit.keeps fun b o e => (env.bs b o e).1).keeps into.toInCall.keep, codeAny_func ?_⟩
    have J := inv_start (CX := CX0) (E := E) (qual := qual) (f := f) (cd := .ref c) S calm.room.hd env (count _ _ _ _ want) rel into
    have done : ∀ {σ' : L2.St} {H' : Hp} {s' : Shared} {v : V} {u : Value}, Inv (cxOf CX0 P w K mg base N qual scope f (.ref c) A stack s H E) [] σ' H' s' → RelV v u → Q v H' → CE stack P w H s Q u s' := fun J' r q => ⟨_, _, J'.os, J'.bare, J'.base, J'.hok, r, q⟩
    refine wpAny_mono (runs.run [] s1 _ H _ J good) (fun fl s' post => ?_) fun _ _ post => post
    cases fl with
    | brk => exact post.elim fun _ z => z.elim fun _ z => z.2.elim
    | cont => exact post.elim fun _ z => z.elim fun _ z => z.2.elim
    | next => exact post.elim fun _ z => z.elim fun _ z => done (v := .non) (u := .none) z.1 rfl z.2
    | ret u =>
      obtain ⟨v, _, _, J', r, q⟩ := post
      exact done J' r q
end
section
variable {X : Cx} {k : Nat} {f : Addr} {fd : FuncData} {ps : List Str} {sp : Sp} {dvs : List V} {ds : List Value} {x : Str} {p pos : Pos} {e : Expr} {es : List Expr} {t : TA}
/-- f(..) of a def that wants it calm -/
theorem pe_callG (F : FnG X.prog X.w X.K X.mg X.base k f fd ps sp) (calm : Calm k X.A) (hg : Gl X x) (hm : X.mg x = some (.ref f)) (hk : PySem.W.keepIn X.K (.ref f) = true) (hb : Binds X.K fd ps ds) (hd : Vals dvs ds)
    (ha : PA X (e :: es) t) (hdb : (x == ("__debug__" : Str)) = false := by decide) (he : starEach (e :: es) X.env = (false, eval e X.env) :: starEach es X.env := by rfl) (hpl : (backTo pos (starEach es X.env)).any (·.1) = false := by rfl) : PE X (.Call (.Name x p) (e :: es) [] pos) (tCall sp dvs E0 t) := by
  constructor
  intro pins s σ H Q I want
  refine wpAny_Call_Name_kw (ld_glob I hg hm (PySem.W.callWith_K (h₀ := X.base) I.ok.mod.kin hk (thn (ha.run pos pins s σ H _ I want) fun us s1 ⟨vs, H1, I1, rel, q⟩ => ⟨I1.kIn, ?_⟩) he hpl) hdb)
  have all := rel.append hd
  have num : (us ++ ds).length = ps.length := all.length ▸ F.count _ _ _ _ q
  refine wpAny_call (codeAny_mono (F.goes X.A X.stack s1 H1 ⟨us, []⟩ _ _ Q E0 q calm all (hb s1 us I1.kIn num) I1.env0) fun res s' post => ?_)
  rcases res with no | fl
  · exact False.elim post
  · cases fl with
    | ret u => exact I1.after post
    | _ => exact False.elim post
end
/-! ### repr of what lies deep -/
mutual
theorem Dp.noDict {K : PySem.W.Frag} {H : Hp} : ∀ {v : V} {d : PyData}, Dp K H v d → d.hasDict = false
  | _, _, .non => rfl
  | _, _, .bl _ => rfl
  | _, _, .int _ => rfl
  | _, _, .str _ => rfl
  | _, _, .lst _ h => Dp.noDicts h
  | _, _, .tup _ h => Dp.noDicts h
theorem Dp.noDicts {K : PySem.W.Frag} {H : Hp} : ∀ {vs : List V} {ds : List PyData}, DpAll K H vs ds → PyData.hasDictAll ds = false
  | _, _, .nil => rfl
  | _, _, .cons h t => by
    show (PyData.hasDict _ || PyData.hasDictAll _) = false
    rw [Dp.noDict h, Dp.noDicts t]
    rfl
end
def rShow (K : PySem.W.Frag) : List V → Hp → VK → Prop := fun xs H Q => ∃ a d, xs = [.ref a] ∧ Dp K H (.ref a) d ∧ d.showable = true ∧ d.depth ≤ 100 ∧ d.shown.length ≤ sizeLine ∧ Q (.str d.shown) H
theorem call_repr_deep {X : Cx} {k : Nat} (calm : Calm k X.A) : CallR X (.builtin "repr") (rShow X.K) := by
  intro pins s σ H xs us Q I rel want
  obtain ⟨a, d, rfl, deep, able, low, short, q⟩ := want
  obtain _ | ⟨r, _ | _⟩ := rel
  obtain ⟨as, reads⟩ := Dp.reads I d _ _ deep r
  cases (show _ = Value.ref a from r)
  have un := calm.room.un
  refine repr_of_reads' reads able (PyData.noDict_hsm (Dp.noDict deep)) calm.clear (by omega) (fun _ _ e => e) (fun h' u tk more => ?_) short
  exact ⟨.str d.shown, H, I.kept (t' := tk) more, ⟨_, rfl⟩, q⟩
end GX

/-! The end of a law whose promise wants it calm. -/
namespace GX
open PySem PySem.Spec PyProof.Rows L2
abbrev tabO : Obj := { cls := .none, data := .fields #[] }
abbrev scrO (vs : List Value) : Obj := { cls := .type "list", data := .seq vs.toArray }
/-- what is tracked at the beginning: the tables, and the script unless the text holds it -/
def hp0 (K : PySem.W.Frag) (T : List Addr) (a : Addr) (vs : List Value) (ns : List Int) : Hp := fun b => if b ∈ T then some (.tbl #[]) else if b = a ∧ (K.lookup a).isNone = true then some (.frz (scrO vs) (.lst (ns.map V.int))) else none
section
variable {P : Program} {w : World} {K : PySem.W.Frag} {mg mb : Str → Option Value} {a : Addr} {cs : List (Addr × Addr)} {s₁ : Shared} {vs : List Value} {ns : List Int} {T : List Addr}
theorem hp0_cases (b : Addr) : (hp0 K T a vs ns b = some (.tbl #[]) ∧ b ∈ T) ∨ (hp0 K T a vs ns b = some (.frz (scrO vs) (.lst (ns.map V.int))) ∧ b = a ∧ K.lookup a = none) ∨ (hp0 K T a vs ns b = none ∧ b ∉ T ∧ ¬ (b = a ∧ K.lookup a = none)) := by
  unfold hp0
  by_cases h : b ∈ T
  · exact .inl ⟨if_pos h, h⟩
  · by_cases h2 : b = a ∧ (K.lookup a).isNone = true
    · exact .inr (.inl ⟨(if_neg h).trans (if_pos h2), h2.1, Option.isNone_iff_eq_none.mp h2.2⟩)
    · exact .inr (.inr ⟨(if_neg h).trans (if_neg h2), h, fun z => h2 ⟨z.1, Option.isNone_iff_eq_none.mpr z.2⟩⟩)
/-- the ground on which the law is called -/
structure Begin (P : Program) (w : World) (K : PySem.W.Frag) (mg : Str → Option Value) (cs : List (Addr × Addr)) (a : Addr) (ns : List Int) (s₁ : Shared) (base : Heap) (H : Hp) : Prop where
  kin : K.In base
  glob : base.Ns mainGlobals mg
  tabs : ∀ p ∈ cs, GxR.TabB base mg p.1 p.2
  tbls : ∀ p ∈ cs, H p.2 = some (.tbl #[])
  script : SqL K H a (ns.map V.int)
  env : Env0 P w K mg base callerA [] s₁ H
  good : ∀ (u : Value) (s' : Shared), CE [] P w H s₁ (fun v _ => v = .bl true) u s' → u = .bool true ∧ OldK s₁.heap s'.heap ∧ s'.os = s₁.os ∧ AllBare s'.gens
theorem begin_of (kin : K.In s₁.heap) (glob : s₁.heap.Ns mainGlobals mg) (blt : s₁.heap.Ns builtinsNs mb) (boot : ∀ x : Str, x ≠ "__name__" → mb x = bootBuiltins x) (lim : s₁.heap.NoLimit) (gens : s₁.gens = #[])
    (tab : ∀ p ∈ cs, s₁.heap.get? p.2 = some tabO) (out : ∀ p ∈ cs, K.lookup p.2 = none) (code : ∀ p ∈ cs, PySem.W.CodeHd s₁.heap p.1 p.2)
    (bm : ∃ (bm : Addr) (ob : Obj), mg "__builtins__" = some (.ref bm) ∧ bm ≠ builtinsNs ∧ s₁.heap.get? bm = some ob ∧ ob.cls = .type "module" ∧ ob.dict = some builtinsNs ∧ ob.data = .plain)
    (at_a : s₁.heap.get? a = some (scrO vs)) (isInts : IntsAre vs ns) (few : ns.length ≤ sizeLine) : ∃ base H, Begin P w K mg cs a ns s₁ base H := by
  have T_at : ∀ b ∈ cs.map (·.2), s₁.heap.get? b = some tabO ∧ K.lookup b = none := fun b hb => by
    obtain ⟨p, hp, rfl⟩ := List.mem_map.mp hb
    exact ⟨tab p hp, out p hp⟩
  have in_T : ∀ p ∈ cs, p.2 ∈ cs.map (·.2) := fun p hp => List.mem_map.mpr ⟨p, hp, rfl⟩
  have rel := vals_ints isInts
  generalize hH : hp0 K (cs.map (·.2)) a vs ns = H
  have three : ∀ b, (H b = some (.tbl #[]) ∧ b ∈ cs.map (·.2)) ∨ (H b = some (.frz (scrO vs) (.lst (ns.map V.int))) ∧ b = a ∧ K.lookup a = none) ∨ (H b = none ∧ b ∉ cs.map (·.2) ∧ ¬ (b = a ∧ K.lookup a = none)) := hH ▸ hp0_cases
  -- what isn't tracked stands in the base
  have plain : ∀ {b : Addr} {o : Obj}, s₁.heap.get? b = some o → o ≠ tabO → o ≠ scrO vs → H b = none := fun {b o} e n1 n2 => by
    rcases three b with ⟨_, m⟩ | ⟨_, rfl, _⟩ | ⟨z, _⟩
    · exact absurd (Option.some.inj (e.symm.trans (T_at b m).1)) n1
    · exact absurd (Option.some.inj (e.symm.trans at_a)) n2
    · exact z
  have stays : ∀ {b : Addr} {o : Obj}, s₁.heap.get? b = some o → o ≠ tabO → o ≠ scrO vs → (hidT s₁.heap H).get? b = some o := fun e n1 n2 => hidT_get e (plain e n1 n2)
  have ns_ : ∀ {b : Addr} {m : Str → Option Value}, s₁.heap.Ns b m → (hidT s₁.heap H).Ns b m := fun {b m} ⟨o, es, ep, e, d, r⟩ =>
    ⟨o, es, ep, stays e (fun z => by rw [z] at d; cases d) (fun z => by rw [z] at d; cases d), d, r⟩
  have kin' : K.In (hidT s₁.heap H) := fun b o e => hidT_get (kin b o e) (by
    rcases three b with ⟨_, m⟩ | ⟨_, rfl, z⟩ | ⟨z, _⟩
    · rw [(T_at b m).2] at e; cases e
    · rw [z] at e; cases e
    · exact z)
  have notMain : ∀ {b : Addr} {o : Obj}, s₁.heap.get? b = some o → (∀ es ep, o.data ≠ .dict es ep) → b ≠ mainGlobals := fun e nd z => by
    obtain ⟨o, es, ep, e2, d, _⟩ := glob
    rw [z] at e
    cases e.symm.trans e2
    exact nd _ _ d
  have hok : HOk P w H s₁.heap := fun b u e => by
    rcases three b with ⟨z, m⟩ | ⟨z, rfl, _⟩ | ⟨z, _⟩
    · cases z.symm.trans e
      exact (T_at b m).1
    · cases z.symm.trans e
      exact ⟨at_a, by rw [List.length_map]; exact few, vs, _, rel, at_a⟩
    · cases z.symm.trans e
  have script : SqL K H a (ns.map V.int) := by
    rcases three a with ⟨_, m⟩ | ⟨z, _⟩ | ⟨_, _, z⟩
    · cases at_a.symm.trans (T_at a m).1
    · exact .inl (.inr ⟨_, z⟩)
    · cases hk : K.lookup a with
      | none => exact absurd ⟨rfl, hk⟩ z
      | some o =>
        cases (kin a o hk).symm.trans at_a
        exact .inr ⟨_, vs.toArray, _, hk, rfl, rfl, rfl, by rw [List.size_toArray, isInts.length]; exact few, by simpa using rel⟩
  refine ⟨hidT s₁.heap H, H, kin', ns_ glob, fun p hp => ⟨?_, ?_, fun z => ?_⟩, fun p hp => ?_, script, ?_, fun u s' post => ?_⟩
  · obtain ⟨o, us, file, tf, flags, tg, inF, text, tt, e, c1, d, i, rest⟩ := code p hp
    refine ⟨o, us, file, tf, flags, tg, inF, text, tt, stays e (fun z => ?_) (fun z => ?_), c1, d, i, rest⟩
    · rw [z] at c1; cases c1
    · rw [z] at d; cases d
  · obtain ⟨b, ob, e1, e2, e3, e4, e5, e6⟩ := bm
    refine ⟨b, ob, e1, e2, notMain e3 (fun es ep z => by rw [e6] at z; cases z), fun z => ?_, stays e3 (fun z => ?_) (fun z => ?_), e4, e5, e6⟩
    · rw [z, tab p hp] at e3; cases e3; cases e6
    · rw [z] at e6; cases e6
    · rw [z] at e6; cases e6
  · exact notMain (tab p hp) (fun es ep z => by cases z) z.symm
  · rcases three p.2 with ⟨z, _⟩ | ⟨_, z, _⟩ | ⟨_, z, _⟩
    · exact z
    · exact absurd ((tab p hp).symm.trans (z ▸ at_a)) (fun y => by cases y)
    · exact absurd (in_T p hp) z
  · exact ⟨rfl, ⟨kin', ns_ glob, ⟨mb, ns_ blt, boot⟩, lim.elim fun mc z => ⟨mc, ns_ z.1, z.2⟩⟩, fun b o e => of_hidT e, Nat.le_of_eq (hidT_size _ _), trivial, (fun b hb => nomatch hb), hok, .of_eq gens⟩
  · obtain ⟨v, H', os, bare, un, hok', r, q⟩ := post
    cases q
    have old : ∀ b o, s₁.heap.get? b = some o → (s'.heap.get? b = some o) ∨ (b ∈ cs.map (·.2) ∧ ∃ more, s'.heap.get? b = some { cls := .none, data := .fields more }) := fun b o e => by
      rcases three b with ⟨z, m⟩ | ⟨z, rfl, _⟩ | ⟨z, _⟩
      · obtain ⟨more, z2⟩ := un.tbls b #[] z
        exact .inr ⟨m, _, hok' b _ z2⟩
      · cases e.symm.trans at_a
        exact .inl (hok' b _ (un.frzs b _ _ z)).1
      · exact .inl (un.keep b o e z (fun y => by cases y) (fun y => by cases y))
    refine ⟨r, ⟨fun b o e => ?_, fun b o e => (old b o e).elim (fun z => ⟨_, z⟩) fun z => z.2.elim fun _ y => ⟨_, y⟩⟩, os, bare⟩
    rcases old b o e with z | ⟨m, more, z⟩
    · exact .inl z
    · obtain ⟨p, hp, rfl⟩ := List.mem_map.mp m
      cases e.symm.trans (tab p hp)
      exact .inr (.inl ⟨((code p hp).tab (tab p hp)).isCodeTable, rfl, #[], more, rfl, by rw [Array.empty_append]; exact z⟩)
end
/-- what is known of such a law at the head's heap -/
def LawG (l : PySem.W.OpenLaw) (w : World) (K : PySem.W.Frag) (k n : Nat) (x : Str) (mg : Str → Option Value) (f : Addr) (h : Heap) : Prop :=
  ∃ (fd : FuncData) (cs : List (Addr × Addr)) (sp : Sp), ((∀ p ∈ cs, h.get? p.2 = some tabO ∧ K.lookup p.2 = none ∧ PySem.W.CodeHd h p.1 p.2) ∧ ∀ (s : Shared) (u : Value), BindsTo s fd ⟨[u], []⟩ [(x, u)]) ∧
    (∀ (H : Hp) (a : Addr) (ns : List Int), ns.length ≤ n → (∀ p ∈ cs, H p.2 = some (.tbl #[])) → SqL K H a (ns.map V.int) → sp [.ref a] H (fun v _ => v = .bl true) E0) ∧
    ∀ base : Heap, (∀ p ∈ cs, GxR.TabB base mg p.1 p.2) → FnG l.prog w K mg base k f fd [x] sp
theorem walkG {l : PySem.W.OpenLaw} {n k : Nat} {q : Program} {loose : List Str} {XP : (Str → Option Value) → Heap → Prop} {YP : World → Heap → Prop} {d : DefRec} {x : Str} (most : l.most = some n) (le : n ≤ sizeLine) (nodef : d.params.defaults = []) (room : Room k callerA)
    (F : ∀ (w : World) (mg : Str → Option Value) (f : Addr) (h : Heap), YP w h → h.Ns mainGlobals mg → mg d.name = some (.ref f) → ∃ K : PySem.W.Frag, K.In h ∧ LawG l w K k n x mg f h) : PySem.W.WalkO q loose XP YP l.row.toRowW d [] (fun f vs => PySem.call f vs) := by
  refine Att.attach_callB most nodef fun w s₀ s₁ mg mb f o pm cd doc a vs ns G Y _ _ _ isF at_a isInts few _ gens => ?_
  obtain ⟨K, kin, fd, cs, sp, ⟨tabs, binds⟩, good, runs⟩ := F w mg f _ Y G.T.g isF
  obtain ⟨base, H, B⟩ := begin_of (P := l.prog) (w := w) kin G.T.g G.T.b G.T.builtins G.T.nolimit gens (fun p hp => (tabs p hp).1) (fun p hp => (tabs p hp).2.1) (fun p hp => (tabs p hp).2.2) G.T.bmain at_a isInts (Nat.le_trans few le)
  refine codeAny_mono ((runs base B.tabs).goes callerA [] s₁ H ⟨[.ref a], []⟩ [.ref a] [.ref a] _ _ (good H a ns few B.tbls B.script) ⟨room, rfl⟩ (.cons rfl .nil) (binds s₁ (.ref a)) B.env) fun r s' post => ?_
  rcases r with no | fl
  · exact False.elim post
  · cases fl with
    | ret u =>
      obtain ⟨e, rest⟩ := B.good u s' post
      exact ⟨by rw [e], rest⟩
    | _ => exact False.elim post
end GX

/-! What the laws of the set share: heaps that grow, the feed, tuples of numbers. -/
namespace LA
open PySem PySem.Spec PyProof.Rows L2 GX
/-! ### heaps: all that was tracked stands, the table at P may have grown -/
structure Ex (P : Addr) (H H' : Hp) : Prop where
  tab : GxR.TabG H' P
  keep : ∀ b o, H b = some o → b ≠ P → H' b = some o
section
variable {K : PySem.W.Frag} {P : Addr} {H H' H2 : Hp} {a p : Addr} {xs : List V} {x : V} {o : HO}
theorem tab_ne {u : HO} (t : GxR.TabG H P) (h : H a = some u) (hu : ∀ ps, u ≠ .tbl ps) : a ≠ P := fun e => by
  obtain ⟨ps, q, _⟩ := t
  rw [e, q] at h
  exact hu ps (Option.some.inj h).symm
theorem Ex.refl (t : GxR.TabG H P) : Ex P H H := ⟨t, fun _ _ h _ => h⟩
theorem Ex.trans (a : Ex P H H') (b : Ex P H' H2) : Ex P H H2 := ⟨b.tab, fun c o h n => b.keep c o (a.keep c o h n) n⟩
theorem Ex.new (t : GxR.TabG H P) (h : H p = none) : Ex P H (upd H p o) := by
  obtain ⟨ps, q, r⟩ := t
  have np : P ≠ p := ne_of_none q h
  exact ⟨⟨ps, by rw [upd_ne np]; exact q, r⟩, fun b u e _ => by rw [upd_ne (ne_of_none e h)]; exact e⟩
theorem Ex.tabbed (h : GxR.Tabbed P H H') : Ex P H H' := ⟨h.1, fun b o e n => by rw [h.2 b n]; exact e⟩
theorem Ex.sqt (e : Ex P H H') (t : GxR.TabG H P) (h : SqT K H a xs) : SqT K H' a xs := by
  rcases h with (h | ⟨o, h⟩) | h
  · exact .inl (.inl (e.keep _ _ h (tab_ne t h fun _ z => by cases z)))
  · exact .inl (.inr ⟨o, e.keep _ _ h (tab_ne t h fun _ z => by cases z)⟩)
  · exact .inr h
theorem Ex.sql (e : Ex P H H') (t : GxR.TabG H P) (h : SqL K H a xs) : SqL K H' a xs := by
  rcases h with (h | ⟨o, h⟩) | h
  · exact .inl (.inl (e.keep _ _ h (tab_ne t h fun _ z => by cases z)))
  · exact .inl (.inr ⟨o, e.keep _ _ h (tab_ne t h fun _ z => by cases z)⟩)
  · exact .inr h
end
/-- the feed at f: the script at a (to be read whatever stands at f), three numbers -/
def Sc (K : PySem.W.Frag) (f a : Addr) (ns : List Int) (H : Hp) : Prop := ∀ o, SqL K (upd H f o) a (ns.map V.int)
def fd4 (a : Addr) (p q t : Int) : HO := .lst [.ref a, .int p, .int q, .int t]
structure Fd (K : PySem.W.Frag) (f a : Addr) (ns : List Int) (H : Hp) : Prop where
  at_ : ∃ p q t : Int, H f = some (fd4 a p q t) ∧ 0 ≤ p ∧ 0 ≤ q ∧ 0 ≤ t
  sc : Sc K f a ns H
theorem upd_self {H : Hp} {f : Addr} {o : HO} (h : H f = some o) : upd H f o = H := by
  funext b
  unfold upd
  split
  · rename_i e
    rw [e, h]
  · rfl
theorem Fd.script {K : PySem.W.Frag} {f a : Addr} {ns : List Int} {H : Hp} (h : Fd K f a ns H) : SqL K H a (ns.map V.int) := by
  obtain ⟨p, q, t, e, _⟩ := h.at_
  have := h.sc (fd4 a p q t)
  rw [upd_self e] at this
  exact this
theorem Fd.put {K : PySem.W.Frag} {f a : Addr} {ns : List Int} {H : Hp} (h : Fd K f a ns H) {p q t : Int} (hp : 0 ≤ p) (hq : 0 ≤ q) (ht : 0 ≤ t) : Fd K f a ns (upd H f (fd4 a p q t)) :=
  ⟨⟨p, q, t, upd_same, hp, hq, ht⟩, fun o => by rw [upd_upd]; exact h.sc o⟩
/-- all but lists and tables stays -/
def Mv (H H' : Hp) : Prop := ∀ b o, H b = some o → (∀ xs, o ≠ .lst xs) → (∀ ps, o ≠ .tbl ps) → H' b = some o
section
variable {K : PySem.W.Frag} {T f a b p : Addr} {H H' H2 H0 : Hp} {xs ys : List V} {ns : List Int} {z : V} {Q : VK} {o : HO}
theorem Mv.refl : Mv H H := fun _ _ h _ _ => h
theorem Mv.trans (x : Mv H H') (y : Mv H' H2) : Mv H H2 := fun b o h n1 n2 => y b o (x b o h n1 n2) n1 n2
theorem Ex.mv (e : Ex T H H') (t : GxR.TabG H T) : Mv H H' := fun b o h n1 n2 => e.keep b o h (tab_ne t h n2)
theorem Mv.put {l : List V} (h : H f = some (.lst l)) : Mv H (upd H f o) := fun b u e n1 _ => by
  rw [upd_ne (fun z => ?_)]
  · exact e
  · rw [z, h] at e
    exact n1 l (Option.some.inj e).symm
theorem Mv.sqt (m : Mv H H') (h : SqT K H a xs) : SqT K H' a xs := by
  rcases h with (h | ⟨o, h⟩) | h
  · exact .inl (.inl (m _ _ h (fun _ z => by cases z) (fun _ z => by cases z)))
  · exact .inl (.inr ⟨o, m _ _ h (fun _ z => by cases z) (fun _ z => by cases z)⟩)
  · exact .inr h
theorem Sc.ex (h : Sc K f a ns H) (t : GxR.TabG H T) (e : Ex T H H') : Sc K f a ns H' := fun o => by
  by_cases haf : a = f
  · have z := h (.tbl #[])
    rcases z with (z | ⟨ob, z⟩) | z
    · rw [haf, upd_same] at z
      cases z
    · rw [haf, upd_same] at z
      cases z
    · exact .inr z
  · rcases h o with (z | ⟨ob, z⟩) | z
    · rw [upd_ne haf] at z
      exact .inl (.inl (by rw [upd_ne haf]; exact e.keep _ _ z (tab_ne t z fun _ z => by cases z)))
    · rw [upd_ne haf] at z
      exact .inl (.inr ⟨ob, by rw [upd_ne haf]; exact e.keep _ _ z (tab_ne t z fun _ z => by cases z)⟩)
    · exact .inr z
theorem Fd.ex (h : Fd K f a ns H) (t : GxR.TabG H T) (e : Ex T H H') : Fd K f a ns H' := by
  obtain ⟨p, q, r, h1, h2⟩ := h.at_
  exact ⟨⟨p, q, r, e.keep _ _ h1 (tab_ne t h1 fun _ z => by cases z), h2⟩, h.sc.ex t e⟩
theorem tab_put {l : List V} (t : GxR.TabG H T) (h : H f = some (.lst l)) {o : HO} : GxR.TabG (upd H f o) T := by
  obtain ⟨ps, z, r⟩ := t
  exact ⟨ps, by rw [upd_ne (fun e => by rw [e, h] at z; cases z)]; exact z, r⟩
/-- t + u -/
theorem catAny (t : GxR.TabG H T) (hx : SqT K H a xs) (hy : SqT K H b ys) (hz : xs.length + ys.length ≤ 1000) (h : ∀ H' c, Ex T H H' → SqT K H' c (xs ++ ys) → Q (.ref c) H') : rCatA K (.ref a) (.ref b) H Q := by
  refine ⟨a, b, xs, ys, rfl, rfl, hx, hy, Nat.le_of_lt (small1000 hz), fun e => ?_, fun _ e => ?_, fun _ _ p hp => h _ p (Ex.new t hp) (.inl (.inl upd_same))⟩
  · subst e
    exact h H b (Ex.refl t) hy
  · subst e
    exact h H a (Ex.refl t) (by rw [List.append_nil]; exact hx)
/-- a slice of a tuple -/
theorem slEx {lo hi : Option Int} (t : GxR.TabG H T) (hS : SqT K H a xs) (h : ∀ H' c, Ex T H H' → SqT K H' c (cutV xs lo hi) → Q (.ref c) H') : rSlA K (.ref a) lo hi H Q := by
  refine ⟨a, xs, rfl, hS, fun ⟨e1, e2⟩ => h H a (Ex.refl t) ?_, fun _ p hp => h _ p (Ex.new t hp) (.inl (.inl upd_same))⟩
  have e : cutV xs lo hi = xs := by
    unfold cutV
    rw [e1, e2, List.drop_zero, Nat.sub_zero, List.take_length]
  rw [e]
  exact hS
theorem cut_to (k : Nat) : cutV xs none (some (k : Int)) = xs.take k := by
  unfold cutV
  rw [HT.sIx_none, HT.sIx_nat, List.drop_zero, Nat.sub_zero]
  rcases Nat.le_total k xs.length with h | h
  · rw [Nat.min_eq_left h]
  · rw [Nat.min_eq_right h, List.take_length, List.take_of_length_le h]
theorem cut_last : cutV xs none (some (-1)) = xs.take (xs.length - 1) := by
  have e : HT.sIx xs.length xs.length (some (-1)) = xs.length - 1 := by
    show (if (-1 : Int) < 0 then ((-1 : Int) + (xs.length : Int)).toNat else min (-1 : Int).toNat xs.length) = _
    rw [if_pos (by decide)]
    omega
  unfold cutV
  rw [HT.sIx_none, e, List.drop_zero, Nat.sub_zero]
/-- a list that came behind H is written -/
theorem Ex.late {l : List V} (e : Ex T H H') (hp : H p = none) (h : H' p = some (.lst l)) : Ex T H (upd H' p o) :=
  ⟨tab_put e.tab h, fun b u hb nb => by rw [upd_ne (ne_of_none hb hp)]; exact e.keep b u hb nb⟩
end
/-! ### tuples of numbers -/
abbrev dInts (ns : List Int) : PyData := .tuple (ns.map PyData.int)
/-- z is the tuple of the numbers ns -/
def Tp (K : PySem.W.Frag) (H : Hp) (z : V) (ns : List Int) : Prop := ∃ a, z = .ref a ∧ SqT K H a (ns.map V.int)
inductive Tps (K : PySem.W.Frag) (H : Hp) : List V → List (List Int) → Prop
  | nil : Tps K H [] []
  | cons {z : V} {zs : List V} {ns : List Int} {nss : List (List Int)} : Tp K H z ns → Tps K H zs nss → Tps K H (z :: zs) (ns :: nss)
section
variable {K : PySem.W.Frag} {T a : Addr} {H H' : Hp} {zs : List V} {nss : List (List Int)} {z : V} {ns ms : List Int}
theorem Mv.tp (m : Mv H H') (h : Tp K H z ns) : Tp K H' z ns := h.elim fun a x => ⟨a, x.1, m.sqt x.2⟩
theorem Mv.tps (m : Mv H H') (h : Tps K H zs nss) : Tps K H' zs nss := by
  induction h with
  | nil => exact .nil
  | cons x _ ih => exact .cons (m.tp x) ih
theorem Ex.tp (e : Ex T H H') (t : GxR.TabG H T) (h : Tp K H z ns) : Tp K H' z ns := (e.mv t).tp h
theorem Ex.tps (e : Ex T H H') (t : GxR.TabG H T) (h : Tps K H zs nss) : Tps K H' zs nss := (e.mv t).tps h
theorem Tps.snoc (h : Tps K H zs nss) (x : Tp K H z ns) : Tps K H (zs ++ [z]) (nss ++ [ns]) := by
  induction h with
  | nil => exact .cons x .nil
  | cons y _ ih => exact .cons y ih
theorem Tps.length (h : Tps K H zs nss) : zs.length = nss.length := by
  induction h with
  | nil => rfl
  | cons _ _ ih => exact congrArg Nat.succ ih
theorem Tps.at (h : Tps K H zs nss) : ∀ {i : Nat} {z : V}, zs[i]? = some z → ∃ ns, ns ∈ nss ∧ Tp K H z ns := by
  induction h with
  | nil => exact fun e => by cases e
  | cons y _ ih =>
    intro i z e
    cases i with
    | zero =>
      cases e
      exact ⟨_, List.mem_cons_self .., y⟩
    | succ i => exact (ih e).imp fun ns x => ⟨List.mem_cons_of_mem _ x.1, x.2⟩
theorem dp_ints : ∀ ns : List Int, DpAll K H (ns.map V.int) (ns.map PyData.int)
  | [] => .nil
  | i :: r => .cons (.int i) (dp_ints r)
theorem Tp.dp (h : Tp K H z ns) : Dp K H z (dInts ns) := by
  obtain ⟨a, rfl, x⟩ := h
  exact .tup x (dp_ints ns)
theorem Tps.dps (h : Tps K H zs nss) : DpAll K H zs (nss.map dInts) := by
  induction h with
  | nil => exact .nil
  | cons x _ ih => exact .cons x.dp ih
theorem eqv_ints : ∀ ns ms : List Int, PyData.eqvAll (ns.map PyData.int) (ms.map PyData.int) = decide (ns = ms)
  | [], [] => rfl
  | [], _ :: _ => rfl
  | _ :: _, [] => rfl
  | i :: r, j :: t => by
    show ((i == j) && PyData.eqvAll (r.map PyData.int) (t.map PyData.int)) = _
    rw [eqv_ints r t]
    by_cases h1 : i = j <;> by_cases h2 : r = t <;> simp [h1, h2]
end
end LA

namespace LA
open PySem PySem.Spec PyProof.Rows L2 GX
/-! ### how long what is shown is -/
theorem piled_le {m : Nat} : ∀ {ts : List Str}, (∀ t ∈ ts, t.length ≤ m) → piled ts ≤ ts.length * (m + 2)
  | [], _ => Nat.zero_le _
  | t :: r, h => by
    rw [piled_cons, List.length_cons, Nat.succ_mul]
    have h1 := h t (List.mem_cons_self ..)
    have h2 := piled_le (m := m) (ts := r) fun x hx => h x (List.mem_cons_of_mem _ hx)
    omega
theorem tupText_le (ts : List Str) : (tupleText ts).length ≤ piled ts + 3 := by
  unfold tupleText
  rw [strLen_append, strLen_append]
  have e1 : ((("(" : String) : Str)).length = 1 := rfl
  have e2 : (((if ts.length == 1 then ",)" else ")" : String) : Str)).length ≤ 2 := by split <;> decide
  by_cases h : ts = []
  · subst h
    have e3 : (Str.join ", " []).length = 0 := rfl
    omega
  · have := join_length_add ts h
    omega
theorem shownAll_map : ∀ ds : List PyData, PyData.shownAll ds = ds.map PyData.shown
  | [] => rfl
  | d :: r => by
    show PyData.shown d :: PyData.shownAll r = _
    rw [shownAll_map r]
    rfl
theorem shown_tup_le {ds : List PyData} {m : Nat} (h : ∀ d ∈ ds, d.shown.length ≤ m) : (PyData.tuple ds).shown.length ≤ ds.length * (m + 2) + 3 := by
  show (tupleText (PyData.shownAll ds)).length ≤ _
  rw [shownAll_map]
  have h1 := tupText_le (ds.map PyData.shown)
  have h2 := piled_le (m := m) (ts := ds.map PyData.shown) fun t ht => by
    obtain ⟨d, hd, rfl⟩ := List.mem_map.mp ht
    exact h d hd
  rw [List.length_map] at h2
  omega
theorem depth_tup_le {ds : List PyData} {m : Nat} (h : ∀ d ∈ ds, d.depth ≤ m) : (PyData.tuple ds).depth ≤ m + 1 := by
  show PyData.depthAll ds + 1 ≤ m + 1
  induction ds with
  | nil =>
    show 0 + 1 ≤ m + 1
    omega
  | cons d r ih =>
    have h1 := ih fun x hx => h x (List.mem_cons_of_mem _ hx)
    have h2 := h d (List.mem_cons_self ..)
    show max (PyData.depth d) (PyData.depthAll r) + 1 ≤ m + 1
    omega
theorem able_tup {ds : List PyData} (h : ∀ d ∈ ds, d.showable = true) : (PyData.tuple ds).showable = true := by
  show PyData.showableAll ds = true
  induction ds with
  | nil => rfl
  | cons d r ih =>
    show (PyData.showable d && PyData.showableAll r) = true
    rw [h d (List.mem_cons_self ..), ih fun x hx => h x (List.mem_cons_of_mem _ hx)]
    rfl
theorem lay_tup {ds : List PyData} (h : ∀ d ∈ ds, d.canLay0 = true) : (PyData.tuple ds).canLay0 = true := by
  show PyData.canLayAll0 ds = true
  induction ds with
  | nil => rfl
  | cons d r ih =>
    show (PyData.canLay0 d && PyData.canLayAll0 r) = true
    rw [h d (List.mem_cons_self ..), ih fun x hx => h x (List.mem_cons_of_mem _ hx)]
    rfl
/-- a number of at most two figures -/
def Sm (i : Int) : Prop := 0 ≤ i ∧ i ≤ 99
theorem sm_nat : ∀ n : Nat, n < 100 → (PyData.shown (.int (n : Int))).length ≤ 2 ∧ (PyData.int (n : Int)).showable = true := by decide +kernel
theorem Sm.shown {i : Int} (h : Sm i) : (PyData.shown (.int i)).length ≤ 2 ∧ (PyData.int i).showable = true := by
  obtain ⟨n, rfl⟩ := Int.eq_ofNat_of_zero_le h.1
  exact sm_nat n (by have := h.2; omega)
theorem mem_ints {ns : List Int} {d : PyData} (h : d ∈ ns.map PyData.int) : ∃ i ∈ ns, d = .int i := by
  obtain ⟨i, hi, e⟩ := List.mem_map.mp h
  exact ⟨i, hi, e.symm⟩
/-- what can be shown, and how long -/
structure Sh (d : PyData) (m k : Nat) : Prop where
  able : d.showable = true
  depth : d.depth ≤ k
  long : d.shown.length ≤ m
theorem sh_ints {ns : List Int} (h : ∀ i ∈ ns, Sm i) : Sh (dInts ns) (ns.length * 4 + 3) 1 := by
  refine ⟨able_tup fun d hd => ?_, depth_tup_le fun d hd => ?_, ?_⟩
  · obtain ⟨i, hi, rfl⟩ := mem_ints hd
    exact (h i hi).shown.2
  · obtain ⟨i, hi, rfl⟩ := mem_ints hd
    exact Nat.le_refl _
  · have := shown_tup_le (ds := ns.map PyData.int) (m := 2) fun d hd => by
      obtain ⟨i, hi, rfl⟩ := mem_ints hd
      exact (h i hi).shown.1
    rw [List.length_map] at this
    exact this
theorem shaped_ints (ns : List Int) : SeqAt.shaped (dInts ns) = true := by
  have h1 : (dInts ns).canLay0 = true := lay_tup fun d hd => by
    obtain ⟨i, hi, rfl⟩ := mem_ints hd
    rfl
  have h2 : (dInts ns).depth ≤ 1 := depth_tup_le fun d hd => by
    obtain ⟨i, hi, rfl⟩ := mem_ints hd
    exact Nat.le_refl _
  show ((dInts ns).canLay0 && decide ((dInts ns).depth ≤ 64)) = true
  rw [h1, decide_eq_true (by omega)]
  rfl
theorem sh_rows {nss : List (List Int)} {m : Nat} (h : ∀ ns ∈ nss, ns.length ≤ m ∧ ∀ i ∈ ns, Sm i) : Sh (.tuple (nss.map dInts)) (nss.length * (m * 4 + 5) + 3) 2 := by
  have at_ : ∀ d ∈ nss.map dInts, Sh d (m * 4 + 3) 1 := fun d hd => by
    obtain ⟨ns, hn, rfl⟩ := List.mem_map.mp hd
    have z := sh_ints (h ns hn).2
    have := (h ns hn).1
    have := z.long
    exact ⟨z.able, z.depth, by omega⟩
  refine ⟨able_tup fun d hd => (at_ d hd).able, depth_tup_le fun d hd => (at_ d hd).depth, ?_⟩
  have := shown_tup_le (ds := nss.map dInts) (m := m * 4 + 3) fun d hd => (at_ d hd).long
  rw [List.length_map] at this
  exact this
end LA

namespace LA
open PySem PySem.Spec PyProof.Rows L2 GX
/-- tuple(.. for j in range(lo, lo + n)) -/
theorem tupRange {lo : Int} {n j : Nat} {te : TE} {σw : L2.St} {vs : List Nat} {fin : List V → Hp → Prop} {H2 : Hp} (Pv : List V → Nat → Hp → Prop) (h0 : Pv [] 0 H2) (hw : ∀ x, wipe (σw.set j (some x)) vs = σw)
    (step : ∀ ys i H, i < n → Pv ys i H → te (σw.set j (some (.int (lo + (i : Nat))))) H fun y H4 => ys.length < sizeLine ∧ Pv (ys ++ [y]) (i + 1) H4) (done : ∀ ys H, Pv ys n H → fin ys H) :
    ∃ W : List V → Nat → Nat → Hp → Prop, (∃ m, W [] 0 m H2) ∧ Turns (Itr lo n) (gName j) tYes te σw vs W fin outL := by
  refine ⟨fun ys i m H => m + i = n ∧ Pv ys i H, ⟨n, rfl, h0⟩, ?_⟩
  rintro ys i m H ⟨e, p⟩
  rcases Nat.lt_or_ge i n with lt | ge
  · refine .inr ⟨lt, fun ys' H' => Pv ys' (i + 1) H', fun ys' H' p' => ⟨n - (i + 1), by omega, by omega, p'⟩, fun x H' y => ?_⟩
    obtain ⟨rfl, rfl⟩ := y
    exact ⟨hw _, step ys i H' lt p⟩
  · obtain rfl : i = n := by omega
    exact .inl ⟨ge, done ys H p⟩
/-- [.. for j in range(lo, lo + n) if ..] -/
theorem lcRange {lo : Int} {n j : Nat} {tt : TT} {te : TE} {σ : L2.St} {vs : List Nat} {Qd : Hp → Prop} {H1 : Hp} {D : Addr} (Pv : Nat → Hp → Prop) (h0 : Pv 0 (upd H1 D (.lst []))) (hw : ∀ x, wipe ((wipe σ vs).set j (some x)) vs = wipe σ vs)
    (step : ∀ i H, i < n → Pv i H → tt ((wipe σ vs).set j (some (.int (lo + (i : Nat))))) H fun b H3 => if b = true then te ((wipe σ vs).set j (some (.int (lo + (i : Nat))))) H3 fun y H4 => ∃ acc, H4 D = some (.lst acc) ∧ acc.length < sizeLine ∧ Pv (i + 1) (upd H4 D (.lst (acc ++ [y]))) else Pv (i + 1) H3)
    (done : ∀ H, Pv n H → Qd H) : ∃ W : Nat → Nat → Hp → Prop, (∃ m, W 0 m (upd H1 D (.lst []))) ∧ ∀ i m H, W i m H →
      ((Itr lo n).stop i H ∧ Qd H) ∨ ((Itr lo n).go i H ∧ ∃ Nx : Hp → Prop, (∀ H', Nx H' → ∃ m', m' < m ∧ W (i + 1) m' H') ∧ ∀ x H', (Itr lo n).yld i H x H' → gName j x (wipe σ vs) H' fun σ2 H2 => wipe σ2 vs = wipe σ vs ∧ tt σ2 H2 fun b H3 =>
        if b = true then te σ2 H3 fun y H4 => ∃ acc, H4 D = some (.lst acc) ∧ acc.length < sizeLine ∧ Nx (upd H4 D (.lst (acc ++ [y]))) else Nx H3) := by
  refine ⟨fun i m H => m + i = n ∧ Pv i H, ⟨n, rfl, h0⟩, ?_⟩
  rintro i m H ⟨e, p⟩
  rcases Nat.lt_or_ge i n with lt | ge
  · refine .inr ⟨lt, fun H' => Pv (i + 1) H', fun H' p' => ⟨n - (i + 1), by omega, by omega, p'⟩, fun x H' y => ?_⟩
    obtain ⟨rfl, rfl⟩ := y
    exact ⟨hw _, step i H' lt p⟩
  · obtain rfl : i = n := by omega
    exact .inl ⟨ge, done H p⟩
/-- what begins a row -/
def begs (ns : List Int) (k : Nat) : List (List Int) := (List.range k).map fun i => ns.take (i + 1)
theorem begs_succ (ns : List Int) (k : Nat) : begs ns (k + 1) = begs ns k ++ [ns.take (k + 1)] := by
  unfold begs
  rw [List.range_succ, List.map_append]
  rfl
theorem begs_length (ns : List Int) (k : Nat) : (begs ns k).length = k := by
  unfold begs
  rw [List.length_map, List.length_range]
theorem begs_mem {ns ms : List Int} {k : Nat} (h : ms ∈ begs ns k) : ms.length ≤ ns.length ∧ ∀ i ∈ ms, i ∈ ns := by
  obtain ⟨i, _, rfl⟩ := List.mem_map.mp h
  exact ⟨by rw [List.length_take]; omega, fun j hj => List.mem_of_mem_take hj⟩
section
variable {K : PySem.W.Frag} {H : Hp} {zs : List V} {nss : List (List Int)} {z : V} {o : HO}
theorem sql_new {g a : Addr} (h : SqL K H a zs) (hg : H g = none) : SqL K (upd H g o) a zs := by
  rcases h with (h | ⟨ob, h⟩) | h
  · exact .inl (.inl (by rw [upd_ne (ne_of_none h hg)]; exact h))
  · exact .inl (.inr ⟨ob, by rw [upd_ne (ne_of_none h hg)]; exact h⟩)
  · exact .inr h
theorem Tps.mem (h : Tps K H zs nss) (hz : z ∈ zs) : ∃ ns ∈ nss, Tp K H z ns := by
  obtain ⟨i, e⟩ := List.mem_iff_getElem?.mp hz
  exact (h.at e).imp fun _ x => x
end
theorem at_mem {zs : List V} {k : Int} (h0 : 0 ≤ k) (h1 : k < (zs.length : Int)) : ∃ z, z ∈ zs ∧ atI zs k = some z := by
  obtain ⟨j, rfl⟩ : ∃ j : Nat, k = (j : Int) := ⟨k.toNat, by omega⟩
  have hk : j < zs.length := by omega
  exact ⟨zs[j], List.getElem_mem hk, atI_nat (List.getElem?_eq_getElem hk)⟩
end LA

namespace K03
open PySem PySem.Spec PyProof.Rows L2 GX LA
def topS (i : Nat) : Stmt := PySem.Challenge.pw_gonemarks_k03_seats_begin.main.body.getD i (.Pass ⟨0, 0, 0, 0⟩)
abbrev sBegins : Stmt := topS 1
abbrev sChild : Stmt := topS 2
abbrev sStems : Stmt := topS 3
abbrev sFeed : Stmt := topS 5
abbrev sTake : Stmt := topS 6
abbrev sLaw : Stmt := topS 7
abbrev FnP (K : PySem.W.Frag) (x : Str) (st : Stmt) (f : Addr) (fd : FuncData) : Prop := FunD K x x (defArgs st) (defBody st) (defScope st) [] [] f fd
/-- the built-ins that are asked -/
structure Bi (mg : Str → Option Value) : Prop where
  tuple : mg "tuple" = none
  len : mg "len" = none
  repr : mg "repr" = none
  range : mg "range" = none
theorem scFeed : FnScope ["_law_script", "_law_at"] ["_law_script", "_law_at"] (defScope sFeed) := ⟨rfl, rfl, rfl, by decide +kernel, rfl, by decide +kernel, by decide +kernel⟩
theorem scTake : FnScope ["_law_feed_here", "_law_many", "_law_found", "_law_cell", "_law_mixed"] ["_law_feed_here", "_law_many"] (defScope sTake) := ⟨rfl, rfl, rfl, by decide +kernel, rfl, by decide +kernel, by decide +kernel⟩
section
variable {P : Program} {w : World} {K : PySem.W.Frag} {mg : Str → Option Value} {base : Heap} {f : Addr} {fd : FuncData}
def spFeed : Sp := fun vs H Q _ => ∃ a, vs = [.ref a, .int 0] ∧ ∀ p, H p = none → Q (.ref p) (upd H p (fd4 a 0 0 0))
theorem ok_feed (F : FnP K "_law_feed" sFeed f fd) : FnOk P w K mg base CX0 1 f fd ["_law_script", "_law_at"] spFeed := by
  refine F.ok scFeed (fun vs H Q E h => ?_) (fun cdv A outer s H vs Q E hr h => ⟨_, PSs.nox (pss_one (ps_ret (pe_lst (pa_cons (pv 0) (pa_cons (pv 1) (pa_cons pe_int (pa_cons pe_int pa_nil))))))), ?_⟩)
  · obtain ⟨a, rfl, _⟩ := h
    rfl
  · obtain ⟨a, rfl, q⟩ := h
    exact ⟨_, rfl, _, rfl, (by show 4 ≤ sizeLine; decide), fun p hp => q p hp⟩
def spTake (K : PySem.W.Frag) : Sp := fun vs H Q _ => ∃ (g a : Addr) (many : Int) (ns : List Int), vs = [.ref g, .int many] ∧ 1 ≤ many ∧ many ≤ 1000 ∧ Fd K g a ns H ∧ ∀ (r : Int) (p q t : Int), 0 ≤ r → r < many → 0 ≤ p → 0 ≤ q → 0 ≤ t → Q (.int r) (upd H g (fd4 a p q t))
theorem ok_take (F : FnP K "_law_take" sTake f fd) (B : Bi mg) : FnOk P w K mg base CX0 1 f fd ["_law_feed_here", "_law_many"] (spTake K) := by
  refine F.ok scTake (fun vs H Q E h => ?_) (fun cdv A outer s H vs Q E hr h => ⟨_, PSs.nox (
    pss_cons (ps_asg (pe_op op_add (pe_ix ix_list (pv 0) pe_int (fun _ _ => rfl)) pe_int) (pg_sub (pv 0) pe_int set_list))
    (pss_cons (ps_if (pt_cmpR op_ge (pe_ix ix_list (pv 0) pe_int (fun _ _ => rfl)) (pv 1) (nomark _))
      (pss_cons (ps_set (i := 2) scTake.nd rfl (.inl rfl) (pe_op op_mod (pe_ix ix_list (pv 0) pe_int (fun _ _ => rfl)) (pv 1)))
        (pss_cons (ps_asg (pe_op op_fdiv (pe_ix ix_list (pv 0) pe_int (fun _ _ => rfl)) (pv 1)) (pg_sub (pv 0) pe_int set_list)) (pss_one (ps_ret (pv 2))))) pss_nil)
    (pss_cons (ps_set (i := 3) scTake.nd rfl (.inl rfl) pe_int)
    (pss_cons (ps_if (pt_cmpR op_gt (pe_callB call_len_seq (by rfl) B.len PySem.boot_len (pa_cons (pe_ix ix_list (pv 0) pe_int (fun _ _ => rfl)) pa_nil)) pe_int (nomark _))
      (pss_one (ps_set (i := 3) scTake.nd rfl (.inl rfl) (pe_ix ix_list (pe_ix ix_list (pv 0) pe_int (fun _ _ => rfl)) (pe_op op_mod (pe_ix ix_list (pv 0) pe_int (fun _ _ => rfl)) (pe_callB call_len_seq (by rfl) B.len PySem.boot_len (pa_cons (pe_ix ix_list (pv 0) pe_int (fun _ _ => rfl)) pa_nil))) (fun _ _ => rfl)))) pss_nil)
    (pss_cons (ps_asg (pe_op op_add (pe_ix ix_list (pv 0) pe_int (fun _ _ => rfl)) pe_int) (pg_sub (pv 0) pe_int set_list))
    (pss_cons (ps_if (pt_cmpR op_ge (pv 3) (pe_op op_pow pe_int pe_int) (nomark _))
      (pss_cons (ps_asg (pe_op op_fdiv (pv 3) (pv 1)) (pg_sub (pv 0) pe_int set_list)) (pss_one (ps_ret (pe_op op_mod (pv 3) (pv 1))))) pss_nil)
    (pss_cons (ps_set (i := 4) scTake.nd rfl (.inl rfl) (pe_op op_mod (pe_op op_mul (pe_op op_add (pe_op op_add (pe_op op_mod (pv 3) pe_int) (pe_op op_mul pe_int (pe_ix ix_list (pv 0) pe_int (fun _ _ => rfl)))) (pe_op op_mul pe_int (pe_ix ix_list (pv 0) pe_int (fun _ _ => rfl)))) pe_int) pe_int))
    (pss_cons (ps_set (i := 4) scTake.nd rfl (.inl rfl) (pe_op op_mod (pe_op op_mul (pe_op op_add (pe_op op_fdiv (pv 4) pe_int) (pe_op op_mul pe_int (pe_ix ix_list (pv 0) pe_int (fun _ _ => rfl)))) pe_int) pe_int))
    (pss_one (ps_ret (pe_op op_mod (pe_op op_fdiv (pv 4) pe_int) (pv 1)))))))))))), ?_⟩)
  · obtain ⟨g, a, many, ns, rfl, _⟩ := h
    rfl
  · obtain ⟨g, a, many, ns, rfl, hm1, hm2, hF, q⟩ := h
    obtain ⟨p, qq, t, hg, hp, hq, ht⟩ := id hF.at_
    -- feed[3] = feed[3] + 1
    refine ⟨.ref g, rfl, g, _, 3, .int t, rfl, rfl, .inl (.inl hg), rfl, _, _, rfl, rfl, .ref g, rfl, g, _, 3, 3, rfl, rfl, hg, rfl, ?_⟩
    have F1 : Fd K g a ns (upd H g (fd4 a p qq (t + 1))) := hF.put hp hq (by omega)
    have g1 : (upd H g (fd4 a p qq (t + 1))) g = some (fd4 a p qq (t + 1)) := upd_same
    have q1 : ∀ (r p' q' t' : Int), 0 ≤ r → r < many → 0 ≤ p' → 0 ≤ q' → 0 ≤ t' → Q (.int r) (upd (upd H g (fd4 a p qq (t + 1))) g (fd4 a p' q' t')) := fun r p' q' t' h1 h2 h3 h4 h5 => by rw [upd_upd]; exact q r p' q' t' h1 h2 h3 h4 h5
    generalize hH1 : upd H g (fd4 a p qq (t + 1)) = H1 at F1 g1 q1
    have hH1' : upd H g (.lst ([V.ref a, .int p, .int qq, .int t].set 3 (.int (t + 1)))) = H1 := hH1
    rw [hH1']
    -- if feed[2] >= many
    refine ⟨.ref g, rfl, g, _, 2, .int qq, rfl, rfl, .inl (.inl g1), rfl, _, rfl, _, _, rfl, rfl, _, rfl, ?_⟩
    refine ite2 (fun c => ?_) (fun c => ?_)
    · have c' : many ≤ qq := of_decide_eq_true c
      refine ⟨.ref g, rfl, g, _, 2, .int qq, rfl, rfl, .inl (.inl g1), rfl, _, rfl, _, _, rfl, rfl, (by show (0 : Int) < many; omega), ?_⟩
      refine ⟨.ref g, rfl, g, _, 2, .int qq, rfl, rfl, .inl (.inl g1), rfl, _, rfl, _, _, rfl, rfl, ⟨by omega, by omega⟩, .ref g, rfl, g, _, 2, 2, rfl, rfl, g1, rfl, ?_⟩
      exact ⟨_, rfl, q1 (qq % many) p (qq / many) (t + 1) (Int.emod_nonneg _ (by omega)) (Int.emod_lt_of_pos _ (by omega)) hp (Int.ediv_nonneg hq (by omega)) (by omega)⟩
    · -- cell = 0; if len(feed[0]) > 0
      refine ⟨.ref g, rfl, g, _, 0, .ref a, rfl, rfl, .inl (.inl g1), rfl, a, _, rfl, .inl F1.script, _, _, rfl, rfl, _, rfl, ?_⟩
      have g2 : (upd H1 g (fd4 a (p + 1) qq (t + 1))) g = some (fd4 a (p + 1) qq (t + 1)) := upd_same
      have q2 : ∀ (r p' q' t' : Int), 0 ≤ r → r < many → 0 ≤ p' → 0 ≤ q' → 0 ≤ t' → Q (.int r) (upd (upd H1 g (fd4 a (p + 1) qq (t + 1))) g (fd4 a p' q' t')) := fun r p' q' t' h1 h2 h3 h4 h5 => by rw [upd_upd]; exact q1 r p' q' t' h1 h2 h3 h4 h5
      have q3 : ∀ r : Int, 0 ≤ r → r < many → Q (.int r) (upd H1 g (fd4 a (p + 1) qq (t + 1))) := fun r h1 h2 => q1 r (p + 1) qq (t + 1) h1 h2 (by omega) hq (by omega)
      generalize hH2 : upd H1 g (fd4 a (p + 1) qq (t + 1)) = H2 at g2 q2 q3
      have hH2' : upd H1 g (.lst ([V.ref a, .int p, .int qq, .int (t + 1)].set 1 (.int (p + 1)))) = H2 := hH2
      refine ite2 (fun c2 => ?_) (fun c2 => ?_)
      · have hlen : (0 : Int) < ((ns.map V.int).length : Int) := of_decide_eq_true c2
        obtain ⟨v, hv⟩ : ∃ v, atI (ns.map V.int) (p % ((ns.map V.int).length : Int)) = some (.int v) := by
          have h1 := Int.emod_nonneg p (b := ((ns.map V.int).length : Int)) (by omega)
          have h2 := Int.emod_lt_of_pos p hlen
          have hk : (p % ((ns.map V.int).length : Int)).toNat < ns.length := by
            rw [List.length_map] at h2 ⊢
            rw [List.length_map] at h1
            omega
          have ek : p % ((ns.map V.int).length : Int) = (((p % ((ns.map V.int).length : Int)).toNat : Nat) : Int) := by omega
          rw [ek]
          exact ⟨ns[(p % ((ns.map V.int).length : Int)).toNat], atI_nat (by rw [List.getElem?_map, List.getElem?_eq_getElem hk] <;> rfl)⟩
        refine ⟨.ref g, rfl, g, _, 0, .ref a, rfl, rfl, .inl (.inl g1), rfl, .ref g, rfl, g, _, 1, .int p, rfl, rfl, .inl (.inl g1), rfl, .ref g, rfl, g, _, 0, .ref a, rfl, rfl, .inl (.inl g1), rfl, a, _, rfl, .inl F1.script, _, _, rfl, rfl, hlen, a, _, _, .int v, rfl, rfl, F1.script, hv, ?_⟩
        refine ⟨.ref g, rfl, g, _, 1, .int p, rfl, rfl, .inl (.inl g1), rfl, _, _, rfl, rfl, .ref g, rfl, g, _, 1, 1, rfl, rfl, g1, rfl, ?_⟩
        rw [hH2']
        refine ⟨_, rfl, _, _, rfl, rfl, ⟨by decide, by decide, by decide⟩, _, _, rfl, rfl, _, rfl, ?_⟩
        refine ite2 (fun c3 => ?_) (fun c3 => ?_)
        · have c3' := of_decide_eq_true c3
          refine ⟨_, rfl, _, rfl, _, _, rfl, rfl, ⟨by omega, by omega⟩, .ref g, rfl, g, _, 2, 2, rfl, rfl, g2, rfl, ?_⟩
          refine ⟨_, rfl, _, rfl, _, _, rfl, rfl, (by show (0 : Int) < many; omega), ?_⟩
          exact q2 _ (p + 1) _ (t + 1) (Int.emod_nonneg _ (by omega)) (Int.emod_lt_of_pos _ (by omega)) (by omega) (Int.ediv_nonneg (Int.le_trans (by decide) c3') (by omega)) (by omega)
        · refine ⟨_, rfl, _, _, rfl, rfl, (by show (0 : Int) < 2147483629; decide), .ref g, rfl, g, _, 3, .int (t + 1), rfl, rfl, .inl (.inl g2), rfl, _, _, rfl, rfl, .inl ⟨by decide, by decide⟩, _, _, rfl, rfl,
            .ref g, rfl, g, _, 1, .int (p + 1), rfl, rfl, .inl (.inl g2), rfl, _, _, rfl, rfl, .inl ⟨by decide, by decide⟩, _, _, rfl, rfl, _, _, rfl, rfl, .inr ⟨by decide, by decide⟩, _, _, rfl, rfl, (by show (0 : Int) < 2147483647; decide), ?_⟩
          refine ⟨_, rfl, _, _, rfl, rfl, ⟨by decide, by decide⟩, .ref g, rfl, g, _, 3, .int (t + 1), rfl, rfl, .inl (.inl g2), rfl, _, _, rfl, rfl, .inl ⟨by decide, by decide⟩, _, _, rfl, rfl, _, _, rfl, rfl, .inr ⟨by decide, by decide⟩, _, _, rfl, rfl, (by show (0 : Int) < 2147483587; decide), ?_⟩
          refine ⟨_, rfl, _, _, rfl, rfl, ⟨by decide, by decide⟩, _, rfl, _, _, rfl, rfl, (by show (0 : Int) < many; omega), ?_⟩
          exact q3 _ (Int.emod_nonneg _ (by omega)) (Int.emod_lt_of_pos _ (by omega))
      · refine ⟨.ref g, rfl, g, _, 1, .int p, rfl, rfl, .inl (.inl g1), rfl, _, _, rfl, rfl, .ref g, rfl, g, _, 1, 1, rfl, rfl, g1, rfl, ?_⟩
        rw [hH2']
        refine ⟨_, rfl, _, _, rfl, rfl, ⟨by decide, by decide, by decide⟩, _, _, rfl, rfl, _, rfl, ?_⟩
        refine ite2 (fun c3 => ?_) (fun c3 => ?_)
        · have c3' := of_decide_eq_true c3
          refine ⟨_, rfl, _, rfl, _, _, rfl, rfl, ⟨by omega, by omega⟩, .ref g, rfl, g, _, 2, 2, rfl, rfl, g2, rfl, ?_⟩
          refine ⟨_, rfl, _, rfl, _, _, rfl, rfl, (by show (0 : Int) < many; omega), ?_⟩
          exact q2 _ (p + 1) _ (t + 1) (Int.emod_nonneg _ (by omega)) (Int.emod_lt_of_pos _ (by omega)) (by omega) (Int.ediv_nonneg (Int.le_trans (by decide) c3') (by omega)) (by omega)
        · refine ⟨_, rfl, _, _, rfl, rfl, (by show (0 : Int) < 2147483629; decide), .ref g, rfl, g, _, 3, .int (t + 1), rfl, rfl, .inl (.inl g2), rfl, _, _, rfl, rfl, .inl ⟨by decide, by decide⟩, _, _, rfl, rfl,
            .ref g, rfl, g, _, 1, .int (p + 1), rfl, rfl, .inl (.inl g2), rfl, _, _, rfl, rfl, .inl ⟨by decide, by decide⟩, _, _, rfl, rfl, _, _, rfl, rfl, .inr ⟨by decide, by decide⟩, _, _, rfl, rfl, (by show (0 : Int) < 2147483647; decide), ?_⟩
          refine ⟨_, rfl, _, _, rfl, rfl, ⟨by decide, by decide⟩, .ref g, rfl, g, _, 3, .int (t + 1), rfl, rfl, .inl (.inl g2), rfl, _, _, rfl, rfl, .inl ⟨by decide, by decide⟩, _, _, rfl, rfl, _, _, rfl, rfl, .inr ⟨by decide, by decide⟩, _, _, rfl, rfl, (by show (0 : Int) < 2147483587; decide), ?_⟩
          refine ⟨_, rfl, _, _, rfl, rfl, ⟨by decide, by decide⟩, _, rfl, _, _, rfl, rfl, (by show (0 : Int) < many; omega), ?_⟩
          exact q3 _ (Int.emod_nonneg _ (by omega)) (Int.emod_lt_of_pos _ (by omega))
end
end K03

namespace K03
open PySem PySem.Spec PyProof.Rows L2 GX LA
theorem scBegins : FnScope ["seat", "other"] ["seat", "other"] (defScope sBegins) := ⟨rfl, rfl, rfl, by decide +kernel, rfl, by decide +kernel, by decide +kernel⟩
theorem scChild : FnScope ["seat", "i"] ["seat", "i"] (defScope sChild) := ⟨rfl, rfl, rfl, by decide +kernel, rfl, by decide +kernel, by decide +kernel⟩
theorem scStems : FnScope ["seat", "size"] ["seat"] (defScope sStems) := ⟨rfl, rfl, rfl, by decide +kernel, rfl, by decide +kernel, by decide +kernel⟩
section
variable {P : Program} {w : World} {K : PySem.W.Frag} {mg : Str → Option Value} {base : Heap} {f : Addr} {fd : FuncData} {T : Addr}
def spBegins (K : PySem.W.Frag) (T : Addr) : Sp := fun vs H Q _ => ∃ (a b : Addr) (ns ms : List Int), vs = [.ref a, .ref b] ∧ GxR.TabG H T ∧ SqT K H a (ns.map V.int) ∧ SqT K H b (ms.map V.int) ∧ ∀ H', Ex T H H' → Q (.bl (decide (ns.take ms.length = ms))) H'
theorem ok_begins (F : FnP K "begins" sBegins f fd) (B : Bi mg) : FnOk P w K mg base CX0 1 f fd ["seat", "other"] (spBegins K T) := by
  refine F.ok scBegins (fun vs H Q E h => ?_) (fun cdv A outer s H vs Q E hr h => ⟨_, PSs.nox (pss_one (ps_ret (pe_cmpR (op_eqD hr.units) (pe_slice sl_tupA (pv 0) po_none (po_some (pe_callB call_len_seq (by rfl) B.len PySem.boot_len (pa_cons (pv 1) pa_nil)))) (pv 1) (nomark _)))), ?_⟩)
  · obtain ⟨a, b, ns, ms, rfl, _⟩ := h
    rfl
  · obtain ⟨a, b, ns, ms, rfl, t, ha, hb, q⟩ := h
    refine ⟨.ref a, rfl, .ref b, rfl, b, _, rfl, .inr hb, _, rfl, ?_⟩
    refine slEx t ha fun H' c e hc => ?_
    rw [List.length_map, cut_to, ← List.map_take] at hc
    refine ⟨.ref b, rfl, _, _, Tp.dp ⟨c, rfl, hc⟩, Tp.dp ⟨b, rfl, e.sqt t hb⟩, shaped_ints _, shaped_ints _, ?_⟩
    have z := q H' e
    rw [← eqv_ints] at z
    exact z
def spChild (K : PySem.W.Frag) (T : Addr) : Sp := fun vs H Q _ => ∃ (a : Addr) (i : Int) (ns : List Int), vs = [.ref a, .int i] ∧ GxR.TabG H T ∧ SqT K H a (ns.map V.int) ∧ ns.length ≤ 100 ∧ (ns.length = 5 → Q .non H) ∧ (ns.length ≠ 5 → ∀ H' c, Ex T H H' → SqT K H' c ((ns ++ [i]).map V.int) → Q (.ref c) H')
theorem ok_child (F : FnP K "child_of" sChild f fd) (B : Bi mg) : FnOk P w K mg base CX0 1 f fd ["seat", "i"] (spChild K T) := by
  refine F.ok scChild (fun vs H Q E h => ?_) (fun cdv A outer s H vs Q E hr h => ⟨_, PSs.nox (pss_one (ps_ret (pe_ifExp (pt_cmpR op_eq (pe_callB call_len_seq (by rfl) B.len PySem.boot_len (pa_cons (pv 0) pa_nil)) pe_int (nomark _)) pe_non (pe_op op_catA (pv 0) (pe_tup (pa_cons (pv 1) pa_nil)))))), ?_⟩)
  · obtain ⟨a, i, ns, rfl, _⟩ := h
    rfl
  · obtain ⟨a, i, ns, rfl, t, ha, few, q1, q2⟩ := h
    refine ⟨.ref a, rfl, a, _, rfl, .inr ha, rfl, _, rfl, ?_⟩
    refine ite2 (fun c => ?_) (fun c => ?_)
    · have c' := of_decide_eq_true c
      rw [List.length_map] at c'
      injection c' with c'
      exact q1 (by omega)
    · have n5 : ns.length ≠ 5 := fun e => c (decide_eq_true (by rw [List.length_map, e]; rfl))
      refine ⟨.ref a, rfl, .int i, rfl, (by show 1 ≤ sizeLine; decide), fun p hp => ?_⟩
      have e1 : Ex T H (upd H p (.tup [.int i])) := Ex.new t hp
      refine catAny e1.tab (e1.sqt t ha) (.inl (.inl upd_same)) (by rw [List.length_map]; show ns.length + 1 ≤ 1000; omega) fun H' c e hc => ?_
      exact q2 n5 H' c (e1.trans e) (by rw [List.map_append]; exact hc)
end
end K03

namespace K03
open PySem PySem.Spec PyProof.Rows L2 GX LA
section
variable {P : Program} {w : World} {K : PySem.W.Frag} {mg : Str → Option Value} {base : Heap} {f : Addr} {fd : FuncData} {c T : Addr}
def spStems (K : PySem.W.Frag) (T : Addr) : Sp := fun vs H Q _ => ∃ (a : Addr) (ns : List Int), vs = [.ref a] ∧ GxR.TabG H T ∧ SqT K H a (ns.map V.int) ∧ ns.length ≤ 100 ∧ ∀ H' p zs, Ex T H H' → SqT K H' p zs → Tps K H' zs (begs ns ns.length) → Q (.ref p) H'
theorem ok_stems (F : FnP K "stems" sStems f fd) (hc : fd.code = .ref c) (TB : GxR.TabB base mg c T) (B : Bi mg) : FnOk P w K mg base CX0 3 f fd ["seat"] (spStems K T) := by
  refine okC F hc scStems (fun vs H Q E h => ?_) (fun A outer s H vs Q E hr h => ⟨_, PSs.nox (pss_one (ps_ret (pe_tupG (k := 1) (own := [("size", 1)]) (g := gName 1) (tt := tYes) (te := tSl (rSlA K) (tVar 0) tNoPart (tPart (tVar 1))) hr rfl scStems.nd (by rfl) B.tuple TB rfl (blkOk_by (N := ["seat", "size"]) (sc := defScope sStems) (by decide +kernel)) rfl (by decide +kernel) rfl
    (pi_range2 rfl B.range (pa_cons pe_int (pa_cons (pe_op op_add (pe_callB call_len_seq (by rfl) B.len PySem.boot_len (pa_cons (pv 0) pa_nil)) pe_int) pa_nil)))
    (fun _ _ _ _ _ => pg_name (i := 1) scStems.nd rfl (Or.inl rfl)) (fun _ _ _ _ _ _ => pts_nil) (fun _ _ _ _ _ _ => pe_slice sl_tupA (pv 0) po_none (po_some (pv 1)))))), ?_⟩)
  · obtain ⟨a, ns, rfl, _⟩ := h
    rfl
  · obtain ⟨a, ns, rfl, t, ha, few, q⟩ := h
    have hn : (ns.map V.int).length = ns.length := List.length_map ..
    refine ⟨.ref a, rfl, a, _, rfl, .inr ha, _, _, rfl, rfl, 1, _, rfl, ⟨by decide, by decide, by rw [hn]; omega, by rw [hn]; omega⟩, t, fun H2 t2 => ?_⟩
    have e2 : Ex T H H2 := Ex.tabbed t2
    rw [hn, show ((ns.length : Int) + 1 - 1).toNat = ns.length by omega]
    refine tupRange (fun ys i H' => Ex T H H' ∧ i ≤ ns.length ∧ Tps K H' ys (begs ns i)) ⟨e2, Nat.zero_le _, .nil⟩ (fun x => rfl) (fun ys i H' lt ⟨e, _, tps⟩ => ?_) (fun ys H' ⟨e, _, tps⟩ => ?_)
    · refine ⟨.ref a, rfl, _, rfl, _, rfl, ?_⟩
      refine slEx e.tab (e.sqt t ha) fun H3 p e3 hp => ?_
      rw [show ((1 : Int) + (i : Nat)) = ((i + 1 : Nat) : Int) by omega, cut_to, ← List.map_take] at hp
      have len := tps.length
      rw [begs_length] at len
      refine ⟨by rw [len]; exact Nat.lt_of_lt_of_le lt (Nat.le_trans few (by decide)), e.trans e3, lt, ?_⟩
      rw [begs_succ]
      exact (e3.tps e.tab tps).snoc ⟨p, rfl, hp⟩
    · have len := tps.length
      rw [begs_length] at len
      refine ⟨by rw [len]; exact Nat.le_trans few (by decide), fun p hp => ?_⟩
      have e3 : Ex T H' (upd H' p (.tup ys)) := Ex.new e.tab hp
      exact q _ p ys (e.trans e3) (.inl (.inl upd_same)) (e3.tps e.tab tps)
end
end K03

namespace K03
open PySem PySem.Spec PyProof.Rows L2 GX LA
def rLen (K : PySem.W.Frag) : List V → Hp → VK → Prop := fun xs H Q => ∃ p ys, xs = [V.ref p] ∧ (SqL K H p ys ∨ SqT K H p ys) ∧ Q (V.int ys.length) H
def tLen (K : PySem.W.Frag) (i : Nat) : TE := tCB (rLen K) (tCons (tVar i) tNil)
section
variable {K : PySem.W.Frag} {T c d : Addr} {H : Hp} {R : Bool → Hp → Prop} {Q : VK} {ms ks : List Int} {i : Int} {a0 a1 a2 a3 a4 a5 a6 a7 a8 a9 : Option V}
/-- child_of(seat, i) != (seat + (i,) if len(seat) < 5 else None) -/
def chT (K : PySem.W.Frag) (T : Addr) : TT := tTest (tOp (rNeD K) (tCall (spChild K T) [] E0 (tCons (tVar 6) (tCons (tVar 7) tNil))) (tIf (tTest (tOp (rI0 fun i j => V.bl (decide (i < j))) (tLen K 6) (tC (.int 5)))) (tOp (rCatA K) (tVar 6) (tTup (tCons (tVar 7) tNil))) (tC .non)))
theorem ch_ok (t : GxR.TabG H T) (S : SqT K H c (ms.map V.int)) (five : ms.length ≤ 5) (h : ∀ H', Ex T H H' → R false H') : chT K T [a0, a1, a2, a3, a4, a5, some (.ref c), some (.int i), a8, a9] H R := by
  have lm : (ms.map V.int).length = ms.length := List.length_map ..
  refine ⟨_, rfl, _, rfl, c, i, ms, rfl, t, S, by omega, fun e5 => ?_, fun n5 H1 c1 e1 S1 => ?_⟩
  · refine ⟨_, rfl, c, _, rfl, .inr S, _, _, rfl, rfl, _, rfl, ?_⟩
    rw [lm, decide_eq_false (by omega)]
    exact iteF ⟨.none, .none, .non, .non, rfl, rfl, _, rfl, h H (Ex.refl t)⟩
  · have S' := e1.sqt t S
    refine ⟨_, rfl, c, _, rfl, .inr S', _, _, rfl, rfl, _, rfl, ?_⟩
    rw [lm, decide_eq_true (by omega)]
    refine iteT ⟨_, rfl, _, rfl, (by show 1 ≤ sizeLine; decide), fun p hp => ?_⟩
    have e2 : Ex T H1 (upd H1 p (.tup [.int i])) := Ex.new e1.tab hp
    refine catAny e2.tab (e2.sqt e1.tab S') (.inl (.inl upd_same)) (by rw [lm]; show ms.length + 1 ≤ 1000; omega) fun H3 c3 e3 S3 => ?_
    have S3' : SqT K H3 c3 ((ms ++ [i]).map V.int) := by rw [List.map_append]; exact S3
    refine ⟨_, _, Tp.dp ⟨c1, rfl, e3.sqt e2.tab (e2.sqt e1.tab S1)⟩, Tp.dp ⟨c3, rfl, S3'⟩, shaped_ints _, shaped_ints _, _, rfl, ?_⟩
    have e : PyData.eqv (dInts (ms ++ [i])) (dInts (ms ++ [i])) = true := (eqv_ints _ _).trans (decide_eq_true rfl)
    rw [e]
    exact h H3 ((e1.trans e2).trans e3)
/-- repr(stems(seat)) != repr(tuple([seat[:k] for k in range(1, len(seat) + 1)])) -/
def rTupOf (K : PySem.W.Frag) : List V → Hp → VK → Prop := fun xs H Q => ∃ p ys, xs = [V.ref p] ∧ ((SqL K H p ys ∧ ∀ l, H l = none → Q (V.ref l) (upd H l (.tup ys))) ∨ (SqT K H p ys ∧ Q (V.ref p) H))
def stT (K : PySem.W.Frag) (T : Addr) : TT := tTest (tOp rNe (tCB (rShow K) (tCons (tCall (spStems K T) [] E0 (tCons (tVar 6) tNil)) tNil)) (tCB (rShow K) (tCons (tCB (rTupOf K) (tCons (tLc (iRng2 (tCons (tC (.int 1)) (tCons (tOp (rI0 fun i j => V.int (i + j)) (tLen K 6) (tC (.int 1))) tNil))) (gName 3) tYes (tSl (rSlA K) (tVar 6) tNoPart (tPart (tVar 3))) [3]) tNil)) tNil)))
theorem st_ok (t : GxR.TabG H T) (S : SqT K H c (ms.map V.int)) (five : ms.length ≤ 5) (sm : ∀ i ∈ ms, Sm i) (h : ∀ H', Ex T H H' → R false H') : stT K T [a0, a1, a2, a3, a4, a5, some (.ref c), a7, a8, a9] H R := by
  have lm : (ms.map V.int).length = ms.length := List.length_map ..
  have sh : Sh (.tuple ((begs ms ms.length).map dInts)) (5 * (5 * 4 + 5) + 3) 2 := by
    have z := sh_rows (nss := begs ms ms.length) (m := 5) fun ns hn => ⟨Nat.le_trans (begs_mem hn).1 five, fun i hi => sm i ((begs_mem hn).2 i hi)⟩
    refine ⟨z.able, z.depth, Nat.le_trans z.long ?_⟩
    rw [begs_length]
    omega
  have long : (PyData.tuple ((begs ms ms.length).map dInts)).shown.length ≤ sizeLine := Nat.le_trans sh.long (by decide)
  have low : (PyData.tuple ((begs ms ms.length).map dInts)).depth ≤ 100 := Nat.le_trans sh.depth (by decide)
  refine ⟨_, rfl, c, ms, rfl, t, S, by omega, fun H1 p zs e1 Sp tps => ?_⟩
  refine ⟨p, _, rfl, .tup Sp tps.dps, sh.able, low, long, ?_⟩
  have S1 := e1.sqt t S
  refine ⟨_, rfl, c, _, rfl, .inr S1, _, _, rfl, rfl, 1, _, rfl, ⟨by decide, by decide, by rw [lm]; omega, by rw [lm]; omega⟩, fun D hD => ?_⟩
  rw [lm, show ((ms.length : Int) + 1 - 1).toNat = ms.length by omega]
  have eD : Ex T H1 (upd H1 D (.lst [])) := Ex.new e1.tab hD
  refine lcRange (lo := 1) (n := ms.length) (j := 3) (σ := [a0, a1, a2, a3, a4, a5, some (.ref c), a7, a8, a9]) (vs := [3]) (fun i H' => Ex T H1 H' ∧ ∃ acc, H' D = some (.lst acc) ∧ Tps K H' acc (begs ms i)) ⟨eD, [], upd_same, .nil⟩ (fun x => rfl) (fun i H' lt ⟨e, acc, hacc, ta⟩ => ?_) (fun H' ⟨e, acc, hacc, ta⟩ => ?_)
  · refine iteT (B := True ∧ True) (?_ : tSl (rSlA K) (tVar 6) tNoPart (tPart (tVar 3)) _ H' _)
    refine ⟨.ref c, rfl, _, rfl, _, rfl, ?_⟩
    refine slEx e.tab (e.sqt e1.tab S1) fun H3 p3 e3 S3 => ?_
    rw [show ((1 : Int) + (i : Nat)) = ((i + 1 : Nat) : Int) by omega, cut_to, ← List.map_take] at S3
    have len := ta.length
    rw [begs_length] at len
    have h3 : H3 D = some (.lst acc) := e3.keep _ _ hacc (tab_ne e.tab hacc fun _ z => by cases z)
    refine ⟨acc, h3, by rw [len]; exact Nat.lt_of_lt_of_le lt (Nat.le_trans five (by decide)), (e.trans e3).late hD h3, _, upd_same, ?_⟩
    rw [begs_succ]
    exact (Mv.put h3).tps ((e3.tps e.tab ta).snoc ⟨p3, rfl, S3⟩)
  · refine ⟨D, acc, rfl, .inl ⟨.inl (.inl hacc), fun l hl => ?_⟩⟩
    have e4 : Ex T H' (upd H' l (.tup acc)) := Ex.new e.tab hl
    refine ⟨l, _, rfl, .tup (.inl (.inl upd_same)) (e4.tps e.tab ta).dps, sh.able, low, long, rfl, _, rfl, ?_⟩
    rw [decide_eq_true rfl]
    exact h _ ((e1.trans e).trans e4)
/-- len(other) <= len(seat) and [k for k in range(len(other)) if seat[k] != other[k]] == [] -/
def duE (K : PySem.W.Frag) : TE := tAndV (tOp (rI0 fun i j => V.bl (decide (i ≤ j))) (tLen K 8) (tLen K 6)) (tOp (rEqNil K) (tLc (iRng1 (tCons (tLen K 8) tNil)) (gName 3) (tTest (tOp rNe (tOp (rIxT K) (tVar 6) (tVar 3)) (tOp (rIxT K) (tVar 8) (tVar 3)))) (tVar 3) [3]) (tLst tNil))
theorem take_snoc_eq {i : Nat} {x y : Int} (hx : ms[i]? = some x) (hy : ks[i]? = some y) : ms.take (i + 1) = ks.take (i + 1) ↔ (ms.take i = ks.take i ∧ x = y) := by
  rw [List.take_add_one, List.take_add_one, hx, hy]
  constructor
  · intro e
    have l1 : i < ms.length := (List.getElem?_eq_some_iff.mp hx).1
    have l2 : i < ks.length := (List.getElem?_eq_some_iff.mp hy).1
    have := List.append_inj e (by rw [List.length_take, List.length_take]; omega)
    refine ⟨this.1, ?_⟩
    have z : [x] = [y] := this.2
    injection z
  · rintro ⟨e1, e2⟩
    rw [e1, e2]
theorem du_ok (t : GxR.TabG H T) (S : SqT K H c (ms.map V.int)) (U : SqT K H d (ks.map V.int)) (five : ms.length ≤ 5) (five' : ks.length ≤ 5) (h : ∀ H', Ex T H H' → Q (.bl (decide (ms.take ks.length = ks))) H') : duE K [a0, a1, a2, a3, a4, a5, some (.ref c), a7, some (.ref d), a9] H Q := by
  have lm : (ms.map V.int).length = ms.length := List.length_map ..
  have lk : (ks.map V.int).length = ks.length := List.length_map ..
  refine ⟨_, rfl, d, _, rfl, .inr U, _, rfl, c, _, rfl, .inr S, _, _, rfl, rfl, _, rfl, ?_⟩
  rw [lm, lk]
  by_cases le : ks.length ≤ ms.length
  · rw [decide_eq_true (by omega)]
    refine iteT ⟨_, rfl, d, _, rfl, .inr U, _, rfl, by rw [lk]; omega, by rw [lk]; omega, fun D hD => ?_⟩
    rw [lk, Int.toNat_natCast]
    have eD : Ex T H (upd H D (.lst [])) := Ex.new t hD
    refine lcRange (lo := 0) (n := ks.length) (j := 3) (σ := [a0, a1, a2, a3, a4, a5, some (.ref c), a7, some (.ref d), a9]) (vs := [3]) (fun i H' => Ex T H H' ∧ ∃ acc, H' D = some (.lst acc) ∧ acc.length ≤ i ∧ (acc = [] ↔ ms.take i = ks.take i)) ⟨eD, [], upd_same, Nat.le_refl _, by simp⟩ (fun x => rfl) (fun i H' lt ⟨e, acc, hacc, few, iff_⟩ => ?_) (fun H' ⟨e, acc, hacc, few, iff_⟩ => ?_)
    · have hx : ms[i]? = some ms[i] := List.getElem?_eq_getElem (by omega)
      have hy : ks[i]? = some ks[i] := List.getElem?_eq_getElem lt
      have zi : ((0 : Int) + (i : Nat)) = ((i : Nat) : Int) := by omega
      have ax : atI (ms.map V.int) ((0 : Int) + (i : Nat)) = some (.int ms[i]) := by rw [zi]; exact atI_nat (by rw [List.getElem?_map, hx]; rfl)
      have ay : atI (ks.map V.int) ((0 : Int) + (i : Nat)) = some (.int ks[i]) := by rw [zi]; exact atI_nat (by rw [List.getElem?_map, hy]; rfl)
      refine ⟨_, rfl, _, rfl, c, _, _, _, rfl, rfl, e.sqt t S, ax, _, rfl, _, rfl, d, _, _, _, rfl, rfl, e.sqt t U, ay, rfl, _, rfl, ?_⟩
      by_cases xy : ms[i] = ks[i]
      · rw [xy, decide_eq_true rfl]
        refine iteF ⟨e, acc, hacc, by omega, iff_.trans ?_⟩
        rw [take_snoc_eq hx hy]
        exact ⟨fun z => ⟨z, xy⟩, fun z => z.1⟩
      · rw [decide_eq_false (fun z => xy (by injection z))]
        refine iteT ⟨_, rfl, acc, hacc, Nat.lt_of_le_of_lt few (Nat.lt_of_lt_of_le lt (Nat.le_trans five' (by decide))), e.late hD hacc, _, upd_same, by rw [List.length_append]; show acc.length + 1 ≤ i + 1; omega, ?_⟩
        rw [take_snoc_eq hx hy]
        exact ⟨fun z => by simp at z, fun z => absurd z.2 xy⟩
    · refine ⟨(by show 0 ≤ sizeLine; decide), fun p hp => ?_⟩
      have e4 : Ex T H' (upd H' p (.lst [])) := Ex.new e.tab hp
      refine ⟨D, p, acc, rfl, rfl, .inl (.inl ((upd_ne (ne_of_none hacc hp)).trans hacc)), .inl (.inl upd_same), ?_⟩
      have z := h _ (e.trans e4)
      have ez : decide (ms.take ks.length = ks) = acc.isEmpty := by
        rw [List.take_length] at iff_
        by_cases em : acc = []
        · rw [decide_eq_true (iff_.mp em), em]
          rfl
        · rw [decide_eq_false (fun q => em (iff_.mpr q))]
          cases acc with
          | nil => exact absurd rfl em
          | cons _ _ => rfl
      rw [ez] at z
      exact z
  · rw [decide_eq_false (by omega)]
    have z := h H (Ex.refl t)
    rw [decide_eq_false (fun q => le (by rw [← q, List.length_take]; omega))] at z
    exact iteF z
/-- repr(begins(seat, other)) != repr(due) -/
abbrev rRep : List V → Hp → VK → Prop := fun xs H Q => ∃ b, xs = [.bl b] ∧ Q (.str (if b then "True" else "False")) H
def beT (K : PySem.W.Frag) (T : Addr) : TT := tTest (tOp rNe (tCB rRep (tCons (tCall (spBegins K T) [] E0 (tCons (tVar 6) (tCons (tVar 8) tNil))) tNil)) (tCB rRep (tCons (tVar 9) tNil)))
theorem be_ok (t : GxR.TabG H T) (S : SqT K H c (ms.map V.int)) (U : SqT K H d (ks.map V.int)) (h : ∀ H', Ex T H H' → R false H') : beT K T [a0, a1, a2, a3, a4, a5, some (.ref c), a7, some (.ref d), some (.bl (decide (ms.take ks.length = ks)))] H R := by
  refine ⟨_, rfl, _, rfl, c, d, ms, ks, rfl, t, S, U, fun H1 e1 => ⟨_, rfl, _, rfl, _, rfl, rfl, _, rfl, ?_⟩⟩
  rw [decide_eq_true (rfl : (V.str (if decide (ms.take ks.length = ks) = true then "True" else "False")) = _)]
  exact h H1 e1
end
end K03

namespace K03
open PySem PySem.Spec PyProof.Rows L2 GX LA
abbrev lawN : List Str := ["_law_script", "_law_feed_here", "_law_seats", "_law_k", "_law_base", "_law_deep", "_law_seat", "_law_i", "_law_other", "_law_due"]
theorem scLaw : FnScope lawN ["_law_script"] (defScope sLaw) := ⟨rfl, rfl, rfl, by decide +kernel, rfl, by decide +kernel, by decide +kernel⟩
/-- a row that may be a seat -/
structure Sok (ns : List Int) : Prop where
  one : 1 ≤ ns.length
  five : ns.length ≤ 5
  sm : ∀ i ∈ ns, Sm i
theorem Sok.cut {ns : List Int} (s : Sok ns) (h : 1 < ns.length) : Sok (ns.take (ns.length - 1)) := by
  have := s.five
  refine ⟨by rw [List.length_take]; omega, by rw [List.length_take]; omega, fun i hi => s.sm i (List.mem_of_mem_take hi)⟩
/-- the feed at g, the seats' list at L -/
structure Bd (K : PySem.W.Frag) (T g a L : Addr) (ns : List Int) (zs : List V) (nss : List (List Int)) (H : Hp) : Prop where
  t : GxR.TabG H T
  fd : Fd K g a ns H
  li : H L = some (.lst zs)
  tps : Tps K H zs nss
  sok : ∀ ms ∈ nss, Sok ms
  ne : zs ≠ []
  few : zs.length ≤ 100
  apart : L ≠ g
section
variable {K : PySem.W.Frag} {T g a L : Addr} {ns ms : List Int} {zs : List V} {nss : List (List Int)} {H H' : Hp} {z : V}
theorem Bd.ex (b : Bd K T g a L ns zs nss H) (e : Ex T H H') : Bd K T g a L ns zs nss H' :=
  ⟨e.tab, b.fd.ex b.t e, e.keep _ _ b.li (tab_ne b.t b.li fun _ z => by cases z), e.tps b.t b.tps, b.sok, b.ne, b.few, b.apart⟩
theorem Bd.mv {p q t : Int} (b : Bd K T g a L ns zs nss H) : Mv H (upd H g (fd4 a p q t)) := by
  obtain ⟨_, _, _, e, _⟩ := b.fd.at_
  exact Mv.put e
theorem Bd.put {p q t : Int} (b : Bd K T g a L ns zs nss H) (h1 : 0 ≤ p) (h2 : 0 ≤ q) (h3 : 0 ≤ t) : Bd K T g a L ns zs nss (upd H g (fd4 a p q t)) := by
  obtain ⟨_, _, _, e, _⟩ := id b.fd.at_
  exact ⟨tab_put b.t e, b.fd.put h1 h2 h3, (upd_ne b.apart).trans b.li, b.mv.tps b.tps, b.sok, b.ne, b.few, b.apart⟩
theorem Bd.app (b : Bd K T g a L ns zs nss H) (h : Tp K H z ms) (s : Sok ms) (few : zs.length < 100) : Bd K T g a L ns (zs ++ [z]) (nss ++ [ms]) (upd H L (.lst (zs ++ [z]))) := by
  have m : Mv H (upd H L (.lst (zs ++ [z]))) := Mv.put b.li
  obtain ⟨p, q, t, e, pos⟩ := b.fd.at_
  have aL : K.lookup a = none ∨ True := .inr trivial
  have sc : Sc K g a ns (upd H L (.lst (zs ++ [z]))) := fun o => by
    have swap : upd (upd H L (.lst (zs ++ [z]))) g o = upd (upd H g o) L (.lst (zs ++ [z])) := by
      funext x
      by_cases x1 : x = g
      · rw [x1, upd_same, upd_ne (Ne.symm b.apart), upd_same]
      · by_cases x2 : x = L
        · rw [x2, upd_ne b.apart, upd_same, upd_same]
        · rw [upd_ne x1, upd_ne x2, upd_ne x2, upd_ne x1]
    have atL : (upd H g o) L = some (.lst zs) := (upd_ne b.apart).trans b.li
    rw [swap]
    rcases b.fd.sc o with (h | ⟨ob, h⟩) | h
    · refine .inl (.inl ?_)
      rw [upd_ne fun z => ?_]
      · exact h
      · rw [z, atL] at h
        have e2 : zs = ns.map V.int := by
          injection h with h
          injection h
        have tp := b.tps
        have ne := b.ne
        rw [e2] at tp ne
        cases ns with
        | nil => exact ne rfl
        | cons i r =>
          cases tp with
          | cons x _ =>
            obtain ⟨_, e3, _⟩ := x
            cases e3
    · refine .inl (.inr ⟨ob, ?_⟩)
      rw [upd_ne fun z => ?_]
      · exact h
      · rw [z, atL] at h
        cases h
    · exact .inr h
  refine ⟨tab_put b.t b.li, ⟨⟨p, q, t, (upd_ne (Ne.symm b.apart)).trans e, pos⟩, sc⟩, upd_same, (m.tps b.tps).snoc (m.tp h), fun x hx => ?_, by simp, by rw [List.length_append]; show zs.length + 1 ≤ 100; omega, b.apart⟩
  rcases List.mem_append.mp hx with h | h
  · exact b.sok x h
  · rw [List.mem_singleton.mp h]
    exact s
theorem Bd.seats (b : Bd K T g a L ns zs nss H) : SqL K H L zs := .inl (.inl b.li)
end
section
variable {P : Program} {w : World} {K : PySem.W.Frag} {mg : Str → Option Value} {base : Heap} {f fF fT fB fC fS : Addr} {fd fdF fdT fdB fdC fdS : FuncData} {c T : Addr}
def spLaw (K : PySem.W.Frag) (T : Addr) : Sp := fun vs H Q _ => ∃ (a : Addr) (ns : List Int), vs = [.ref a] ∧ SqL K H a (ns.map V.int) ∧ GxR.TabG H T ∧ ∀ H', Q (.bl true) H'
set_option maxHeartbeats 0 in
theorem ok_law {cl : Addr} (F : FnP K "law" sLaw f fd) (hcl : fd.code = .ref cl) (FF : FnP K "_law_feed" sFeed fF fdF) (gF : mg "_law_feed" = some (.ref fF)) (FT : FnP K "_law_take" sTake fT fdT) (gT : mg "_law_take" = some (.ref fT))
    (FB : FnP K "begins" sBegins fB fdB) (gB : mg "begins" = some (.ref fB)) (FC : FnP K "child_of" sChild fC fdC) (gC : mg "child_of" = some (.ref fC))
    (FS : FnP K "stems" sStems fS fdS) (gS : mg "stems" = some (.ref fS)) (GS : FnOk P w K mg base CX0 3 fS fdS ["seat"] (spStems K T)) (B : Bi mg) : FnG P w K mg base 4 f fd ["_law_script"] (spLaw K T) := by
  have GF : FnOk P w K mg base CX0 1 fF fdF ["_law_script", "_law_at"] spFeed := ok_feed FF
  have bF : Binds K fdF ["_law_script", "_law_at"] [] := FF.bindsN fun _ _ _ _ _ _ us hl => match us, hl with | [_, _], _ => rfl
  have GT : FnOk P w K mg base CX0 1 fT fdT ["_law_feed_here", "_law_many"] (spTake K) := ok_take FT B
  have bT : Binds K fdT ["_law_feed_here", "_law_many"] [] := FT.bindsN fun _ _ _ _ _ _ us hl => match us, hl with | [_, _], _ => rfl
  have GB : FnOk P w K mg base CX0 1 fB fdB ["seat", "other"] (spBegins K T) := ok_begins FB B
  have bB : Binds K fdB ["seat", "other"] [] := FB.bindsN fun _ _ _ _ _ _ us hl => match us, hl with | [_, _], _ => rfl
  have GC : FnOk P w K mg base CX0 1 fC fdC ["seat", "i"] (spChild K T) := ok_child FC B
  have bC : Binds K fdC ["seat", "i"] [] := FC.bindsN fun _ _ _ _ _ _ us hl => match us, hl with | [_, _], _ => rfl
  have bS : Binds K fdS ["seat"] [] := FS.bindsN fun _ _ _ _ _ _ us hl => match us, hl with | [_], _ => rfl
  refine okG F hcl scLaw (fun vs H Q E h => ?_) (fun A outer s H vs Q E calm h => ⟨_, PSs.nox (
    pss_cons (ps_set (i := 1) scLaw.nd rfl (.inl rfl) (pe_call GF (calm.room.mono (by decide)) rfl gF FF.kp bF .nil pass0 (pa_cons (pv 0) (pa_cons pe_int pa_nil))))
    (pss_cons (ps_set (i := 2) scLaw.nd rfl (.inl rfl) (pe_lst (pa_cons (pe_tup (pa_cons (pe_call GT (calm.room.mono (by decide)) rfl gT FT.kp bT .nil pass0 (pa_cons (pv 1) (pa_cons pe_int pa_nil))) pa_nil)) pa_nil)))
    (pss_cons (ps_for PassesOwn.never rfl (pi_range1 rfl B.range (pa_cons pe_int pa_nil)) (pg_name (i := 3) scLaw.nd rfl (.inl rfl))
      (pss_cons (ps_set (i := 4) scLaw.nd rfl (.inl rfl) (pe_ix ix_list (pv 2) (pe_call GT (calm.room.mono (by decide)) rfl gT FT.kp bT .nil pass0 (pa_cons (pv 1) (pa_cons (pe_callB call_len_seq (by rfl) B.len PySem.boot_len (pa_cons (pv 2) pa_nil)) pa_nil))) (fun _ _ => rfl)))
      (pss_cons (ps_if (PW.pt (pw_and (pt_cmpR op_lt (pe_callB call_len_seq (by rfl) B.len PySem.boot_len (pa_cons (pv 4) pa_nil)) pe_int (nomark _)) (pw_and1 (pt_cmpR op_gt (pe_call GT (calm.room.mono (by decide)) rfl gT FT.kp bT .nil pass0 (pa_cons (pv 1) (pa_cons pe_int pa_nil))) pe_int (nomark _)))))
          (pss_one (ps_set (i := 4) scLaw.nd rfl (.inl rfl) (pe_op op_catA (pv 4) (pe_tup (pa_cons (pe_ix ix_list (pe_lst (pa_cons pe_int (pa_cons pe_int (pa_cons pe_int (pa_cons pe_int (pa_cons pe_int pa_nil)))))) (pe_call GT (calm.room.mono (by decide)) rfl gT FT.kp bT .nil pass0 (pa_cons (pv 1) (pa_cons pe_int pa_nil))) (fun _ _ => rfl)) pa_nil)))))
          (pss_one (ps_if (pt_cmpR op_gt (pe_callB call_len_seq (by rfl) B.len PySem.boot_len (pa_cons (pv 4) pa_nil)) pe_int (nomark _))
            (pss_one (ps_set (i := 4) scLaw.nd rfl (.inl rfl) (pe_slice sl_tupA (pv 4) po_none (po_some (pe_un un_neg pe_int))))) pss_nil)))
      (pss_one (ps_expr (pe_bm PySem.F.plainAttrs_list PySem.F.slot_list_append PySem.F.type_list_append mt_append (pv 2) (pa_cons (pv 4) pa_nil)))))))
    (pss_cons (ps_set (i := 5) scLaw.nd rfl (.inl rfl) (pe_tup (pa_cons (pe_call GT (calm.room.mono (by decide)) rfl gT FT.kp bT .nil pass0 (pa_cons (pv 1) (pa_cons pe_int pa_nil))) (pa_cons pe_int (pa_cons (pe_op op_add pe_int (pe_call GT (calm.room.mono (by decide)) rfl gT FT.kp bT .nil pass0 (pa_cons (pv 1) (pa_cons pe_int pa_nil)))) (pa_cons pe_int (pa_cons pe_int pa_nil)))))))
    (pss_cons (ps_expr (pe_bm PySem.F.plainAttrs_list PySem.F.slot_list_append PySem.F.type_list_append mt_append (pv 2) (pa_cons (pv 5) pa_nil)))
    (pss_cons (ps_for PassesOwn.never rfl (pi_list (pv 2)) (pg_name (i := 6) scLaw.nd rfl (.inr rfl))
      (pss_cons (ps_set (i := 7) scLaw.nd rfl (.inl rfl) (pe_op op_add pe_int (pe_call GT (calm.room.mono (by decide)) rfl gT FT.kp bT .nil pass0 (pa_cons (pv 1) (pa_cons pe_int pa_nil)))))
      (pss_cons (ps_if (pt_cmpR (op_neD calm.room.units) (pe_call GC (calm.room.mono (by decide)) rfl gC FC.kp bC .nil pass0 (pa_cons (pv 6) (pa_cons (pv 7) pa_nil))) (pe_ifExp (pt_cmpR op_lt (pe_callB call_len_seq (by rfl) B.len PySem.boot_len (pa_cons (pv 6) pa_nil)) pe_int (nomark _)) (pe_op op_catA (pv 6) (pe_tup (pa_cons (pv 7) pa_nil))) pe_non) (nomark _))
          (pss_one (ps_ret pe_bl)) pss_nil)
      (pss_cons (ps_if (pt_cmpR op_ne (pe_callB (call_repr_deep calm) (by rfl) B.repr (by decide +kernel) (pa_cons (pe_call GS calm.room rfl gS FS.kp bS .nil pass0 (pa_cons (pv 6) pa_nil)) pa_nil))
            (pe_callB (call_repr_deep calm) (by rfl) B.repr (by decide +kernel) (pa_cons (pe_callTy call_tuple_of (by rfl) B.tuple (by decide +kernel) (pa_cons (pe_lc (own := [("_law_k", 3)]) (g := gName 3) (tt := tYes) (te := tSl (rSlA K) (tVar 6) tNoPart (tPart (tVar 3))) rfl scLaw.nd
              (pi_range2 rfl B.range (pa_cons pe_int (pa_cons (pe_op op_add (pe_callB call_len_seq (by rfl) B.len PySem.boot_len (pa_cons (pv 6) pa_nil)) pe_int) pa_nil))) (blkOk_by (N := lawN) (sc := defScope sLaw) (by decide +kernel))
              (fun _ _ _ _ _ => pg_name (i := 3) scLaw.nd rfl (Or.inl rfl)) (fun _ _ _ _ _ => pts_nil) (fun _ _ _ _ _ => pe_slice sl_tupA (pv 6) po_none (po_some (pv 3)))) pa_nil)) pa_nil)) (nomark _))
          (pss_one (ps_ret pe_bl)) pss_nil)
      (pss_one (ps_for PassesOwn.never rfl (pi_list (pv 2)) (pg_name (i := 8) scLaw.nd rfl (.inr rfl))
        (pss_cons (ps_set (i := 9) scLaw.nd rfl (.inl rfl) (pe_and (pe_cmpR op_le (pe_callB call_len_seq (by rfl) B.len PySem.boot_len (pa_cons (pv 8) pa_nil)) (pe_callB call_len_seq (by rfl) B.len PySem.boot_len (pa_cons (pv 6) pa_nil)) (nomark _))
          (pe_one (pe_cmpR (op_eqNil calm.room.units0) (pe_lc (own := [("_law_k", 3)]) (g := gName 3) (tt := tTest (tOp rNe (tOp (rIxT K) (tVar 6) (tVar 3)) (tOp (rIxT K) (tVar 8) (tVar 3)))) (te := tVar 3) rfl scLaw.nd
              (pi_range1 rfl B.range (pa_cons (pe_callB call_len_seq (by rfl) B.len PySem.boot_len (pa_cons (pv 8) pa_nil)) pa_nil)) (blkOk_by (N := lawN) (sc := defScope sLaw) (by decide +kernel))
              (fun _ _ _ _ _ => pg_name (i := 3) scLaw.nd rfl (Or.inl rfl)) (fun _ _ _ _ _ => pts_one (pt_cmpR op_ne (pe_ix ix_tup (pv 6) (pv 3) (fun _ _ => rfl)) (pe_ix ix_tup (pv 8) (pv 3) (fun _ _ => rfl)) (nomark _))) (fun _ _ _ _ _ => pv 3)) (pe_lst pa_nil) (nomark _)))))
        (pss_one (ps_if (pt_cmpR op_ne (pe_callB call_repr_bl (by rfl) B.repr (by decide +kernel) (pa_cons (pe_call GB (calm.room.mono (by decide)) rfl gB FB.kp bB .nil pass0 (pa_cons (pv 6) (pa_cons (pv 8) pa_nil))) pa_nil)) (pe_callB call_repr_bl (by rfl) B.repr (by decide +kernel) (pa_cons (pv 9) pa_nil)) (nomark _))
          (pss_one (ps_ret pe_bl)) pss_nil)))))))))
    (pss_one (ps_ret pe_bl)))))))), ?_⟩)
  · obtain ⟨a, ns, rfl, _⟩ := h
    rfl
  · obtain ⟨a, ns, rfl, hS, tH, q⟩ := h
    -- the feed
    refine ⟨.ref a, rfl, a, rfl, fun g hg => ?_⟩
    have F0 : Fd K g a ns (upd H g (fd4 a 0 0 0)) := ⟨⟨0, 0, 0, upd_same, by decide, by decide, by decide⟩, fun o => by rw [upd_upd]; exact sql_new hS hg⟩
    have tb0 : GxR.TabG (upd H g (fd4 a 0 0 0)) T := (Ex.new tH hg).tab
    generalize upd H g (fd4 a 0 0 0) = H0 at F0 tb0
    -- seats = [(take(feed, 4),)]
    refine ⟨.ref g, rfl, g, a, 4, ns, rfl, by decide, by decide, F0, fun r0 p0 q0 t0 i1 i2 i3 i4 i5 => ?_⟩
    obtain ⟨_, _, _, hg0, _⟩ := id F0.at_
    have F1 := F0.put i3 i4 i5
    have t1 : GxR.TabG (upd H0 g (fd4 a p0 q0 t0)) T := tab_put tb0 hg0
    generalize upd H0 g (fd4 a p0 q0 t0) = H1 at F1 t1
    refine ⟨(by show 1 ≤ sizeLine; decide), fun b hb => ?_⟩
    have e2 : Ex T H1 (upd H1 b (.tup [.int r0])) := Ex.new t1 hb
    have S2 : SqT K (upd H1 b (.tup [.int r0])) b [.int r0] := .inl (.inl upd_same)
    generalize upd H1 b (.tup [.int r0]) = H2 at e2 S2
    have F2 := F1.ex t1 e2
    refine ⟨(by show 1 ≤ sizeLine; decide), fun L hL => ?_⟩
    have e3 : Ex T H2 (upd H2 L (.lst [.ref b])) := Ex.new e2.tab hL
    obtain ⟨_, _, _, hg2, _⟩ := id F2.at_
    have bd : Bd K T g a L ns [.ref b] [[r0]] (upd H2 L (.lst [.ref b])) := ⟨e3.tab, F2.ex e2.tab e3, upd_same, .cons ⟨b, rfl, e3.sqt e2.tab S2⟩ .nil, fun ms hm => by
      rw [List.mem_singleton.mp hm]
      exact ⟨Nat.le_refl _, by show 1 ≤ 5; decide, fun i hi => by rw [List.mem_singleton.mp hi]; exact ⟨i1, by omega⟩⟩, by simp, by show 1 ≤ 100; decide, (ne_of_none hg2 hL).symm⟩
    generalize upd H2 L (.lst [.ref b]) = H3 at bd
    -- for k in range(5)
    refine ⟨5, rfl, by decide, by decide, for_range (lo := 0) (n := 5) (fun i σ H' => (∃ y3 y4, σ = [some (.ref a), some (.ref g), some (.ref L), y3, y4, none, none, none, none, none]) ∧ ∃ zs nss, Bd K T g a L ns zs nss H' ∧ zs.length = 1 + i) ⟨⟨none, none, rfl⟩, _, _, bd, rfl⟩ (fun i σ H4 hi h4 => ?_) (fun σ H4 h4 => ?_)⟩
    · obtain ⟨⟨y3, y4, rfl⟩, zs, nss, b4, hl⟩ := h4
      have lz : 1 ≤ zs.length := by omega
      refine ⟨.ref L, rfl, .ref g, rfl, .ref L, rfl, L, zs, rfl, .inl b4.seats, g, a, _, ns, rfl, by omega, by omega, b4.fd, fun k5 p5 q5 t5 j1 j2 j3 j4 j5 => ?_⟩
      obtain ⟨z, hz, ez⟩ := at_mem (zs := zs) j1 j2
      have b5 := b4.put j3 j4 j5
      generalize upd H4 g (fd4 a p5 q5 t5) = H5 at b5
      refine ⟨L, _, k5, z, rfl, rfl, b5.seats, ez, ?_⟩
      obtain ⟨ms, hms, c5, rfl, S5⟩ := b5.tps.mem hz
      have so := b5.sok ms hms
      have lm : (ms.map V.int).length = ms.length := List.length_map ..
      -- seats.append(base)
      have sz : zs.length < sizeLine := Nat.lt_of_le_of_lt (show zs.length ≤ 100 by omega) (by decide)
      -- if len(base) < 5 and take(feed, 5) > 0
      refine ⟨.ref c5, rfl, c5, _, rfl, .inr S5, _, _, rfl, rfl, _, rfl, ?_⟩
      refine ite2 (fun w1 => ?_) (fun w1 => ?_)
      · have w1' := of_decide_eq_true w1
        rw [lm] at w1'
        refine ⟨.ref g, rfl, g, a, 5, ns, rfl, by decide, by decide, b5.fd, fun k6 p6 q6 t6 j1 j2 j3 j4 j5 => ?_⟩
        have S6 : SqT K (upd H5 g (fd4 a p6 q6 t6)) c5 (ms.map V.int) := b5.mv.sqt S5
        have b6 := b5.put j3 j4 j5
        generalize upd H5 g (fd4 a p6 q6 t6) = H6 at b6 S6
        refine ⟨_, _, rfl, rfl, _, rfl, ?_⟩
        refine ite2 (fun w2 => ?_) (fun w2 => ?_)
        · -- base + ([..][take(feed, 5)],)
          refine ⟨.ref c5, rfl, (by show 5 ≤ sizeLine; decide), fun l hl => ?_⟩
          have e7 : Ex T H6 (upd H6 l (.lst [.int 1, .int 2, .int 99, .int 10, .int 1])) := Ex.new b6.t hl
          have g7 : (upd H6 l (.lst [.int 1, .int 2, .int 99, .int 10, .int 1])) l = some (.lst [.int 1, .int 2, .int 99, .int 10, .int 1]) := upd_same
          obtain ⟨_, _, _, hg6, _⟩ := id b6.fd.at_
          have ngl : l ≠ g := (ne_of_none hg6 hl).symm
          generalize upd H6 l (.lst [.int 1, .int 2, .int 99, .int 10, .int 1]) = H7 at e7 g7
          have b7 := b6.ex e7
          have S7 := e7.sqt b6.t S6
          refine ⟨.ref g, rfl, g, a, 5, ns, rfl, by decide, by decide, b7.fd, fun k8 p8 q8 t8 m1 m2 m3 m4 m5 => ?_⟩
          obtain ⟨v, hv, ev⟩ := at_mem (zs := [.int 1, .int 2, .int 99, .int 10, .int 1]) m1 m2
          have hEv : ∃ i : Int, v = .int i ∧ Sm i := by
            simp only [List.mem_cons, List.not_mem_nil, or_false] at hv
            rcases hv with rfl | rfl | rfl | rfl | rfl <;> exact ⟨_, rfl, by decide, by decide⟩
          obtain ⟨vi, rfl, hvi⟩ := hEv
          have S8 : SqT K (upd H7 g (fd4 a p8 q8 t8)) c5 (ms.map V.int) := b7.mv.sqt S7
          have b8 := b7.put m3 m4 m5
          have g8 : (upd H7 g (fd4 a p8 q8 t8)) l = some (.lst [.int 1, .int 2, .int 99, .int 10, .int 1]) := (upd_ne ngl).trans g7
          generalize upd H7 g (fd4 a p8 q8 t8) = H8 at b8 S8 g8
          refine ⟨l, _, k8, .int vi, rfl, rfl, .inl (.inl g8), ev, (by show 1 ≤ sizeLine; decide), fun p9 h9 => ?_⟩
          have e9 : Ex T H8 (upd H8 p9 (.tup [.int vi])) := Ex.new b8.t h9
          have S9p : SqT K (upd H8 p9 (.tup [.int vi])) p9 [.int vi] := .inl (.inl upd_same)
          generalize upd H8 p9 (.tup [.int vi]) = H9 at e9 S9p
          have b9 := b8.ex e9
          refine catAny b9.t (e9.sqt b8.t S8) S9p (by rw [lm]; show ms.length + 1 ≤ 1000; omega) (fun H10 c10 e10 S10 => ?_)
          have b10 := b9.ex e10
          have S10' : SqT K H10 c10 ((ms ++ [vi]).map V.int) := by rw [List.map_append]; exact S10
          refine ⟨.ref L, rfl, .inl ⟨rfl, zs, b10.seats⟩, .ref c10, rfl, L, zs, _, rfl, rfl, b10.li, sz, ?_⟩
          refine ⟨⟨_, _, rfl⟩, _, _, b10.app ⟨c10, rfl, S10'⟩ ⟨by simp, by rw [List.length_append]; show ms.length + 1 ≤ 5; omega, fun i hi => ?_⟩ (by omega), by rw [List.length_append]; show zs.length + 1 = 1 + (_ + 1); omega⟩
          rcases List.mem_append.mp hi with h | h
          · exact so.sm i h
          · rw [List.mem_singleton.mp h]
            exact hvi
        · refine ⟨.ref c5, rfl, c5, _, rfl, .inr S6, _, _, rfl, rfl, _, rfl, ?_⟩
          refine ite2 (fun w3 => ?_) (fun w3 => ?_)
          · have w3' := of_decide_eq_true w3
            rw [lm] at w3'
            refine ⟨.ref c5, rfl, 1, rfl, _, rfl, ?_⟩
            refine slEx b6.t S6 fun H7 c7 e7 S7 => ?_
            rw [cut_last, lm, ← List.map_take] at S7
            have b7 := b6.ex e7
            refine ⟨.ref L, rfl, .inl ⟨rfl, zs, b7.seats⟩, .ref c7, rfl, L, zs, _, rfl, rfl, b7.li, sz, ?_⟩
            exact ⟨⟨_, _, rfl⟩, _, _, b7.app ⟨c7, rfl, S7⟩ (so.cut (by omega)) (by omega), by rw [List.length_append]; show zs.length + 1 = 1 + (_ + 1); omega⟩
          · refine ⟨.ref L, rfl, .inl ⟨rfl, zs, b6.seats⟩, .ref c5, rfl, L, zs, _, rfl, rfl, b6.li, sz, ?_⟩
            exact ⟨⟨_, _, rfl⟩, _, _, b6.app ⟨c5, rfl, S6⟩ so (by omega), by rw [List.length_append]; show zs.length + 1 = 1 + (_ + 1); omega⟩
      · refine ⟨.ref c5, rfl, c5, _, rfl, .inr S5, _, _, rfl, rfl, _, rfl, ?_⟩
        refine ite2 (fun w3 => ?_) (fun w3 => ?_)
        · have w3' := of_decide_eq_true w3
          rw [lm] at w3'
          refine ⟨.ref c5, rfl, 1, rfl, _, rfl, ?_⟩
          refine slEx b5.t S5 fun H7 c7 e7 S7 => ?_
          rw [cut_last, lm, ← List.map_take] at S7
          have b7 := b5.ex e7
          refine ⟨.ref L, rfl, .inl ⟨rfl, zs, b7.seats⟩, .ref c7, rfl, L, zs, _, rfl, rfl, b7.li, sz, ?_⟩
          exact ⟨⟨_, _, rfl⟩, _, _, b7.app ⟨c7, rfl, S7⟩ (so.cut (by omega)) (by omega), by rw [List.length_append]; show zs.length + 1 = 1 + (_ + 1); omega⟩
        · refine ⟨.ref L, rfl, .inl ⟨rfl, zs, b5.seats⟩, .ref c5, rfl, L, zs, _, rfl, rfl, b5.li, sz, ?_⟩
          exact ⟨⟨_, _, rfl⟩, _, _, b5.app ⟨c5, rfl, S5⟩ so (by omega), by rw [List.length_append]; show zs.length + 1 = 1 + (_ + 1); omega⟩
    · obtain ⟨⟨y3, y4, rfl⟩, zs, nss, b4, hl⟩ := h4
      have sz : zs.length < sizeLine := Nat.lt_of_le_of_lt (show zs.length ≤ 100 by omega) (by decide)
      -- deep = (take(feed, 4), 1, 1 + take(feed, 9), 2, 3)
      refine ⟨.ref g, rfl, g, a, 4, ns, rfl, by decide, by decide, b4.fd, fun d0 p5 q5 t5 i1 i2 i3 i4 i5 => ?_⟩
      have b5 := b4.put i3 i4 i5
      generalize upd H4 g (fd4 a p5 q5 t5) = H5 at b5
      refine ⟨.ref g, rfl, g, a, 9, ns, rfl, by decide, by decide, b5.fd, fun d1 p6 q6 t6 j1 j2 j3 j4 j5 => ?_⟩
      have b6 := b5.put j3 j4 j5
      generalize upd H5 g (fd4 a p6 q6 t6) = H6 at b6
      refine ⟨_, _, rfl, rfl, (by show 5 ≤ sizeLine; decide), fun p hp => ?_⟩
      have e7 : Ex T H6 (upd H6 p (.tup [.int d0, .int 1, .int (1 + d1), .int 2, .int 3])) := Ex.new b6.t hp
      have S7 : SqT K (upd H6 p (.tup [.int d0, .int 1, .int (1 + d1), .int 2, .int 3])) p ([d0, 1, 1 + d1, 2, 3].map V.int) := .inl (.inl upd_same)
      generalize upd H6 p (.tup [.int d0, .int 1, .int (1 + d1), .int 2, .int 3]) = H7 at e7 S7
      have b7 := b6.ex e7
      refine ⟨.ref L, rfl, .inl ⟨rfl, zs, b7.seats⟩, .ref p, rfl, L, zs, _, rfl, rfl, b7.li, sz, ?_⟩
      have b8 := b7.app ⟨p, rfl, S7⟩ ⟨by show 1 ≤ 5; decide, by show 5 ≤ 5; decide, fun i hi => by
        simp only [List.mem_cons, List.not_mem_nil, or_false] at hi
        rcases hi with rfl | rfl | rfl | rfl | rfl
        · exact ⟨i1, by omega⟩
        · exact ⟨by decide, by decide⟩
        · exact ⟨by omega, by omega⟩
        · exact ⟨by decide, by decide⟩
        · exact ⟨by decide, by decide⟩⟩ (by omega)
      generalize upd H7 L (.lst (zs ++ [.ref p])) = H8 at b8
      generalize zs ++ [.ref p] = zs8 at b8
      generalize nss ++ [[d0, 1, 1 + d1, 2, 3]] = nss8 at b8
      -- for seat in seats
      refine ⟨.ref L, rfl, L, rfl, ⟨_, b8.seats⟩, for_list (K := K) (a := L) (fun i σ H' => (∃ y6 y7 y8 y9, σ = [some (.ref a), some (.ref g), some (.ref L), y3, y4, some (.ref p), y6, y7, y8, y9]) ∧ Bd K T g a L ns zs8 nss8 H') ⟨⟨none, none, none, none, rfl⟩, b8⟩ (fun i σ H' _ h' => h'.2.seats) (fun i x σ H9 hx h9 => ?_) (fun σ H9 h9 => q H9)⟩
      obtain ⟨⟨y6, y7, y8, y9, rfl⟩, b9⟩ := h9
      obtain ⟨ms, hms, c9, rfl, S9⟩ := b9.tps.at hx
      have so := b9.sok ms hms
      -- i = 1 + take(feed, 99)
      refine ⟨.ref g, rfl, g, a, 99, ns, rfl, by decide, by decide, b9.fd, fun i0 p10 q10 t10 m1 m2 m3 m4 m5 => ?_⟩
      have S10 : SqT K (upd H9 g (fd4 a p10 q10 t10)) c9 (ms.map V.int) := b9.mv.sqt S9
      have b10 := b9.put m3 m4 m5
      generalize upd H9 g (fd4 a p10 q10 t10) = H10 at b10 S10
      refine ⟨_, _, rfl, rfl, ?_⟩
      refine ch_ok b10.t S10 so.five (fun H11 e11 => iteF ?_)
      have b11 := b10.ex e11
      have S11 := e11.sqt b10.t S10
      refine st_ok b11.t S11 so.five so.sm (fun H12 e12 => iteF ?_)
      have b12 := b11.ex e12
      have S12 := e12.sqt b11.t S11
      -- for other in seats
      refine ⟨.ref L, rfl, L, rfl, ⟨_, b12.seats⟩, for_list (K := K) (a := L) (fun i σ H' => (∃ y8 y9, σ = [some (.ref a), some (.ref g), some (.ref L), y3, y4, some (.ref p), some (.ref c9), some (.int (1 + i0)), y8, y9]) ∧ Bd K T g a L ns zs8 nss8 H' ∧ SqT K H' c9 (ms.map V.int)) ⟨⟨_, _, rfl⟩, b12, S12⟩ (fun i σ H' _ h' => h'.2.1.seats) (fun i x σ H13 hx h13 => ?_) (fun σ H13 h13 => ?_)⟩
      · obtain ⟨⟨y8', y9', rfl⟩, b13, S13⟩ := h13
        obtain ⟨ks, hks, c13, rfl, U13⟩ := b13.tps.at hx
        have so' := b13.sok ks hks
        refine du_ok b13.t S13 U13 so.five so'.five (fun H14 e14 => ?_)
        have b14 := b13.ex e14
        refine be_ok b14.t (e14.sqt b13.t S13) (e14.sqt b13.t U13) (fun H15 e15 => iteF ?_)
        exact ⟨⟨_, _, rfl⟩, b14.ex e15, e15.sqt b14.t (e14.sqt b13.t S13)⟩
      · obtain ⟨⟨y8', y9', rfl⟩, b13, S13⟩ := h13
        exact ⟨⟨_, _, _, _, rfl⟩, b13⟩
end
end K03

namespace K03
open PySem PySem.Spec PyProof.Rows L2 GX LA
def mkD (x : Str) (st : Stmt) : He.DefD := ⟨(x, none), x, x, defArgs st, defBody st, defScope st, [], []⟩
def fn : List He.DefD := [mkD "begins" sBegins, mkD "child_of" sChild, mkD "stems" sStems, mkD "_law_feed" sFeed, mkD "_law_take" sTake, mkD "law" sLaw]
def fa : List He.Fa := [.glo "begins", .glo "child_of", .glo "stems", .glo "_law_feed", .glo "_law_take", .glo "law", .free "tuple", .free "len", .free "repr", .free "range"]
def tf : List He.Defn := [("stems", none)]
def exx (_ : PySem.W.Frag) : Bool := true
abbrev R : PySem.W.OpenRow := PySem.W.OpenLaw.row PySem.Challenge.rw_gonemarks_k03_seats_begin
abbrev hk : PySem.W.Hook := He.hookX 4 fa fn [] tf exx
def ob (s : PySem.W.SharedT) : He.AlX := He.obsX 4 fa fn [] tf exx (HandSHeadRun.getT s)
theorem ob_eq (s : PySem.W.SharedT) : ob s = hk.obs s.abs := He.obsX_eq (HandSHeadRun.getT_eq s)
abbrev loose : List PySem.Str := ["begins", "child_of", "stems", "_law_feed", "_law_take"]
theorem run (w : World) : HandSHeadRun.RunEq R (PySem.W.view R.prog [7]) hk ob 2000 loose w := by
  intro os
  kernel_rfl
section
variable {w : World} {K : PySem.W.Frag} {h : Heap} {mg : Str → Option Value} {x : Str}
theorem there (X : K.In h) (G : h.Ns mainGlobals mg) (c : He.SaysX fa fn [] tf exx w h K) (hx : He.Fa.glo x ∈ fa) : mg x = some (.ref (He.ga K x)) := He.glo_ok X G (c.t.d.facts hx)
theorem bare_ (X : K.In h) (G : h.Ns mainGlobals mg) (c : He.SaysX fa fn [] tf exx w h K) (hx : He.Fa.free x ∈ fa) : mg x = none := He.free_ok X G (c.t.d.facts hx)
theorem facts {l : PySem.W.OpenLaw} {f : Addr} (X : K.In h) (G : h.Ns mainGlobals mg) (hfa : mg ("law" : Str) = some (.ref f)) (c : He.SaysX fa fn [] tf exx w h K) : LawG l w K 4 63 "_law_script" mg f h := by
  cases hfa.symm.trans (there X G c (x := "law") (by simp [fa]))
  obtain ⟨fdB, FB⟩ := c.t.d.def_ 0 (d := mkD "begins" sBegins) rfl
  obtain ⟨fdC, FC⟩ := c.t.d.def_ 1 (d := mkD "child_of" sChild) rfl
  obtain ⟨fdS, FS⟩ := c.t.d.def_ 2 (d := mkD "stems" sStems) rfl
  obtain ⟨fdF, FF⟩ := c.t.d.def_ 3 (d := mkD "_law_feed" sFeed) rfl
  obtain ⟨fdT, FT⟩ := c.t.d.def_ 4 (d := mkD "_law_take" sTake) rfl
  obtain ⟨fd, F⟩ := c.t.d.def_ 5 (d := mkD "law" sLaw) rfl
  have B : Bi mg := ⟨bare_ X G c (by simp [fa]), bare_ X G c (by simp [fa]), bare_ X G c (by simp [fa]), bare_ X G c (by simp [fa])⟩
  have b := FunD.bindsA (ps := ["_law_script"]) F fun _ _ _ _ _ _ us hl => match us, hl with | [_], _ => rfl
  refine ⟨fd, [He.cT K ("stems", none)], spLaw K (He.cT K ("stems", none)).2, ⟨fun p hp => ?_, fun s v => b s [v] rfl⟩, fun H a ns _ hT hS => ?_, fun base hTB => ?_⟩
  · rw [List.mem_singleton.mp hp]
    exact ⟨c.empty _ (by simp [tf]), c.out _ (by simp [tf]), PySem.W.codeHd_of_K X (c.hd _ (by simp [tf]))⟩
  · exact ⟨a, ns, rfl, hS, ⟨#[], hT _ (List.mem_singleton.mpr rfl), True.intro⟩, fun _ => rfl⟩
  · have GS := ok_stems (P := l.prog) (w := w) (base := base) FS (code_of (p := ("stems", none)) FS) (hTB _ (List.mem_singleton.mpr rfl)) B
    exact ok_law F (code_of (p := ("law", none)) F) FF (there X G c (x := "_law_feed") (by simp [fa])) FT (there X G c (x := "_law_take") (by simp [fa])) FB (there X G c (x := "begins") (by simp [fa])) FC (there X G c (x := "child_of") (by simp [fa])) FS (there X G c (x := "stems") (by simp [fa])) GS B
end
end K03
open PySem PySem.W PySem.Calls PyProof.Rows
theorem PySem.Challenge.cw_gonemarks_k03_seats_begin_holds : PySem.Challenge.rw_gonemarks_k03_seats_begin.Holds := by
  w_on; o_law
  refine HandSHeadRun.head_any (r := OpenLaw.row PySem.Challenge.rw_gonemarks_k03_seats_begin) (q := view (OpenLaw.row PySem.Challenge.rw_gonemarks_k03_seats_begin).prog [7]) (H := K03.hk) (ob := K03.ob) (M := 2000) (loose := K03.loose) (d := HandSHeadRun.topDef (OpenLaw.row PySem.Challenge.rw_gonemarks_k03_seats_begin).prog 7) (kwd := []) K03.ob_eq
    (by kernel_rfl) (fun s => by kernel_rfl) K03.run (by kernel_rfl) (by kernel_rfl) (by kernel_rfl) (by rfl) (by first | assumption | decide +kernel) (by decide +kernel) ⟨rfl, rfl, rfl, rfl, rfl, by decide +kernel⟩ ?hw ?hc
  case hw => w_witness2
  case hc =>
    refine GX.walkG (l := PySem.Challenge.rw_gonemarks_k03_seats_begin) (n := 63) (k := 4) (x := "_law_script") rfl (by decide) (by kernel_rfl) ⟨rfl, by decide, by decide⟩ ?F
    intro w mg fa h Y G hmg0
    obtain ⟨K, KX, c⟩ := Y
    have hmg : mg ("law" : PySem.Str) = some (.ref fa) := by
      have e : (HandSHeadRun.topDef (OpenLaw.row PySem.Challenge.rw_gonemarks_k03_seats_begin).prog 7).name = ("law" : PySem.Str) := by kernel_rfl
      rw [← e]
      exact hmg0
    exact ⟨K, KX, K03.facts KX G hmg c⟩
#print axioms PySem.Challenge.cw_gonemarks_k03_seats_begin_holds
